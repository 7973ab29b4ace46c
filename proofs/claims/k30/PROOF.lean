import PyProof.Rows.All
import Wide.All
import OpenK.AllK
import Wide.FinOn
import Lean
import PyProof.EqAt
import PyProof.EqKinds
import PyProof.TupleCall
import PySem.Challenge.RW_pointsure_k30_facts_cut
section
set_option Elab.async false
set_option linter.all false
set_option maxRecDepth 100000
/-! keys of dicts that are tuples, whatever tuples they hold -/
namespace TK
open PySem PySem.Spec PyProof.Rows
mutual
/-- a key: ints, texts, tuples of keys -/
def hkD : PyData → Bool
  | .int _ => true
  | .str _ => true
  | .tuple xs => hkDs xs
  | _ => false
def hkDs : List PyData → Bool
  | [] => true
  | d :: ds => hkD d && hkDs ds
end
mutual
def hashD (w : World) : PyData → Int
  | .int i => hashInt i
  | .str x => hashStr w x
  | .tuple xs => reduceHash (Builtin.Tuple.tupleHashOf (hashDs w xs))
  | _ => 0
def hashDs (w : World) : List PyData → List Int
  | [] => []
  | d :: ds => hashD w d :: hashDs w ds
end
mutual
def drawD : PyData → Nat
  | .tuple xs => drawDs xs + 1
  | _ => 1
def drawDs : List PyData → Nat
  | [] => 0
  | d :: ds => drawD d + drawDs ds
end
theorem hashDs_append (w : World) : ∀ (a b : List PyData), hashDs w (a ++ b) = hashDs w a ++ hashDs w b
  | [], b => by simp [hashDs]
  | d :: a, b => by simp [hashDs, hashDs_append w a b]
theorem drawDs_append : ∀ (a b : List PyData), drawDs (a ++ b) = drawDs a + drawDs b
  | [], b => by simp [drawDs]
  | d :: a, b => by simp [drawDs, drawDs_append a b, Nat.add_assoc]
mutual
/-- a key's tuples are all that its reading leans on -/
theorem reads_keep {h h' : Heap} (k : ∀ b o xs n, h.get? b = some o → o.data = .seq xs n → h'.get? b = some o) : ∀ {d : PyData} {v : Value} {as : List Addr}, hkD d = true → Reads h v d as → Reads h' v d as
  | .int _, _, _, _, r => by cases r; exact .int _ _
  | .str _, _, _, _, r => by cases r; exact .str _ _
  | .tuple xs, _, _, hk, r => by
    cases r with
    | tuple ho hc hd ra => exact .tuple (k _ _ _ _ ho hd) hc hd (reads_keeps k (by simpa [hkD] using hk) ra)
  | .none, _, _, hk, _ => by simp [hkD] at hk
  | .bool _, _, _, hk, _ => by simp [hkD] at hk
  | .list _, _, _, hk, _ => by simp [hkD] at hk
  | .dict _, _, _, hk, _ => by simp [hkD] at hk
theorem reads_keeps {h h' : Heap} (k : ∀ b o xs n, h.get? b = some o → o.data = .seq xs n → h'.get? b = some o) : ∀ {ds : List PyData} {vs : List Value} {as : List Addr}, hkDs ds = true → ReadsAll h vs ds as → ReadsAll h' vs ds as
  | [], _, _, _, r => by cases r; exact .nil
  | d :: ds, _, _, hk, r => by
    cases r with
    | cons r1 r2 =>
      have hk' : hkD d = true ∧ hkDs ds = true := by simpa [hkDs] using hk
      exact .cons (reads_keep k hk'.1 r1) (reads_keeps k hk'.2 r2)
end
mutual
theorem eqv_hk : ∀ {a b : PyData}, hkD a = true → hkD b = true → (PyData.eqv a b = true ↔ a = b)
  | .int _, b, ha, hb => by cases b <;> simp [hkD, PyData.eqv] at *
  | .str _, b, ha, hb => by cases b <;> simp [hkD, PyData.eqv] at *
  | .tuple xs, .tuple ys, ha, hb => by
    have := eqv_hks (a := xs) (b := ys) (by simpa [hkD] using ha) (by simpa [hkD] using hb)
    simp [PyData.eqv, this]
  | .tuple xs, .int _, ha, hb => by simp [PyData.eqv]
  | .tuple xs, .str _, ha, hb => by simp [PyData.eqv]
  | .tuple xs, .none, ha, hb => by simp [hkD] at hb
  | .tuple xs, .bool _, ha, hb => by simp [hkD] at hb
  | .tuple xs, .list _, ha, hb => by simp [hkD] at hb
  | .tuple xs, .dict _, ha, hb => by simp [hkD] at hb
  | .none, _, ha, _ => by simp [hkD] at ha
  | .bool _, _, ha, _ => by simp [hkD] at ha
  | .list _, _, ha, _ => by simp [hkD] at ha
  | .dict _, _, ha, _ => by simp [hkD] at ha
theorem eqv_hks : ∀ {a b : List PyData}, hkDs a = true → hkDs b = true → (PyData.eqvAll a b = true ↔ a = b)
  | [], [], _, _ => by simp [PyData.eqvAll]
  | [], _ :: _, _, _ => by simp [PyData.eqvAll]
  | _ :: _, [], _, _ => by simp [PyData.eqvAll]
  | a :: as, b :: bs, ha, hb => by
    have ha' : hkD a = true ∧ hkDs as = true := by simpa [hkDs] using ha
    have hb' : hkD b = true ∧ hkDs bs = true := by simpa [hkDs] using hb
    simp [PyData.eqvAll, eqv_hk ha'.1 hb'.1, eqv_hks ha'.2 hb'.2]
end
noncomputable instance instDecPy : DecidableEq PyData := fun a b => Classical.propDecidable (a = b)
theorem eqv_decide {a b : PyData} (ha : hkD a = true) (hb : hkD b = true) : PyData.eqv a b = decide (a = b) := by
  by_cases h : a = b
  · rw [decide_eq_true h]; exact (eqv_hk ha hb).mpr h
  · rw [decide_eq_false h]
    cases q : PyData.eqv a b with
    | false => rfl
    | true => exact absurd ((eqv_hk ha hb).mp q) h
section
variable {prog : Program} {w : World}
mutual
theorem hash_ok : ∀ {d : PyData} {v : Value} {as : List Addr} {A : Around} {E : Value → Shared → Prop} {s : Shared} {Q : Int → Shared → Prop}, hkD d = true → A.units + d.depth < cLine → Reads s.heap v d as → Q (hashD w d) { s with toks := s.toks + drawD d } →
    wpAny (model prog w) A (pyHash v) Q E s
  | .int i, _, _, A, E, s, Q, _, _, r, h => by
    cases r
    exact wpAny_pyHash_int (by simpa [hashD, drawD] using h)
  | .str x, _, _, A, E, s, Q, _, _, r, h => by
    cases r
    exact wpAny_pyHash_str (by simpa [hashD, drawD] using h)
  | .tuple xs, _, _, A, E, s, Q, hk, hu, r, h => by
    cases r with
    | @tuple a o items n _ as ho hc hd ra =>
      have hT : s.TypeIs (.ref a) "tuple" := ⟨o, ho, hc⟩
      have hk' : hkDs xs = true := by simpa [hkD] using hk
      have hu' : A.units + (PyData.depthAll xs + 1) < cLine := by simpa [PyData.depth] using hu
      unfold pyHash
      first | unfold pyHashByItsType | skip
      first | refine wpAny_bind (wpAny_cRoomFor_or (.inr (by omega)) ?_) | skip
      refine wpAny_bind (wpAny_specialOf hT F.slot_tuple_hash.lookup ?_)
      show wpAny _ _ (if (some (Value.builtin "tuple.__hash__") == some Value.none) = true then _ else _) Q E s
      rw [if_neg (by rw [beq_builtin_none]; exact Bool.false_ne_true)]
      refine wpAny_bind (wpAny_specialOf hT F.slot_tuple_hash.lookup ?_)
      show wpAny _ _ (callSpecialIfBoundUnlessNone? (.ref a) "__hash__" _ >>= _) Q E s
      refine wpAny_bind (wpAny_callSpecialIfBoundUnlessNone?_slot hT F.slot_tuple_hash (wpAny_call_entry F.slot_tuple_hash hT F.entry_tuple_hash ?_ (F.args_tuple_hash_1 _)))
      show wpAny _ _ (Builtin.Tuple.tupleItemsOf (.ref a) >>= _) _ _ s
      refine wpAny_bind (wpAny_tupleItemsOf ho hd ?_)
      refine wpAny_bind ?_
      rw [← Array.forIn_toList]
      refine hash_loop (A := A.in1) (acc := #[]) (done := []) hk' (by show A.units + 1 + PyData.depthAll xs < cLine; omega) ra rfl (fun b s' hb hs' => ?_)
      subst hs'
      show wpAny _ _ (retInt (Builtin.Tuple.tupleHashOf b.toList)) _ _ _
      rw [hb, show hashDs w [] = [] by simp [hashDs], List.nil_append]
      refine wpAny_ret_mkInt ?_
      show wpAny _ _ (if (decide (-(2 : Int) ^ 63 ≤ Builtin.Tuple.tupleHashOf (hashDs w xs)) && decide (Builtin.Tuple.tupleHashOf (hashDs w xs) < 2 ^ 63)) = true then _ else _) Q E _
      unfold hashD drawD reduceHash at h
      by_cases hr : (decide (-(2 : Int) ^ 63 ≤ Builtin.Tuple.tupleHashOf (hashDs w xs)) && decide (Builtin.Tuple.tupleHashOf (hashDs w xs) < 2 ^ 63)) = true
      · rw [if_pos hr]
        rw [if_pos hr] at h
        exact wpAny_pure (by simpa [Nat.add_assoc] using h)
      · rw [if_neg hr]
        rw [if_neg hr] at h
        exact wpAny_bind (wpAny_rule (wpAny_pure (by simpa [Nat.add_assoc] using h)))
  | .none, _, _, _, _, _, _, hk, _, _, _ => by simp [hkD] at hk
  | .bool _, _, _, _, _, _, _, hk, _, _, _ => by simp [hkD] at hk
  | .list _, _, _, _, _, _, _, hk, _, _, _ => by simp [hkD] at hk
  | .dict _, _, _, _, _, _, _, hk, _, _, _ => by simp [hkD] at hk
theorem hash_loop : ∀ {ds done : List PyData} {vs : List Value} {as : List Addr} {A : Around} {E : Value → Shared → Prop} {s : Shared} {acc : Array Int} {Q : Array Int → Shared → Prop}, hkDs ds = true → A.units + PyData.depthAll ds < cLine → ReadsAll s.heap vs ds as → acc.toList = hashDs w done →
    (∀ (b : Array Int) s', b.toList = hashDs w done ++ hashDs w ds → s' = { s with toks := s.toks + drawDs ds } → Q b s') →
    wpAny (model prog w) A (forIn vs acc fun x b => do let hx ← pyHash x; pure (ForInStep.yield (b.push hx))) Q E s
  | [], done, _, _, A, E, s, acc, Q, _, _, r, ha, h => by
    cases r
    rw [List.forIn_nil]
    exact wpAny_pure (h acc s (by simp [hashDs, ha]) (by simp [drawDs]))
  | d :: ds, done, _, _, A, E, s, acc, Q, hk, hu, r, ha, h => by
    cases r with
    | cons r1 r2 =>
      have hk' : hkD d = true ∧ hkDs ds = true := by simpa [hkDs] using hk
      have hu' : A.units + max d.depth (PyData.depthAll ds) < cLine := by simpa [PyData.depthAll] using hu
      rw [List.forIn_cons]
      refine wpAny_bind (wpAny_bind (hash_ok hk'.1 (by omega) r1 (wpAny_pure ?_)))
      refine hash_loop (done := done ++ [d]) hk'.2 (by omega) (reads_keeps (fun _ _ _ _ e _ => e) hk'.2 r2) (by simp [ha, hashDs_append, hashDs]) fun b s' hb hs' => h b s' ?_ ?_
      · rw [hb, hashDs_append]; simp [hashDs]
      · rw [hs']; simp [drawDs, Nat.add_assoc]
end
mutual
theorem quiet_ok : ∀ {d : PyData} {v : Value} {as : List Addr} {n : Nat} {A : Around} {E : Value → Shared → Prop} {s : Shared} {Q : Bool → Shared → Prop}, hkD d = true → d.depth ≤ n → Reads s.heap v d as → Q true s → wpAny (model prog w) A (eqIsQuiet n v) Q E s
  | .int i, _, _, n, A, E, s, Q, _, _, r, h => by
    cases r
    rw [eqIsQuiet_byValue _ (by rfl)]
    exact wpAny_pure h
  | .str x, _, _, n, A, E, s, Q, _, _, r, h => by
    cases r
    rw [eqIsQuiet_byValue _ (by rfl)]
    exact wpAny_pure h
  | .tuple xs, _, _, n, A, E, s, Q, hk, hn, r, h => by
    cases r with
    | @tuple a o items m _ as ho hc hd ra =>
      have hT : s.TypeIs (.ref a) "tuple" := ⟨o, ho, hc⟩
      have hk' : hkDs xs = true := by simpa [hkD] using hk
      have hn' : PyData.depthAll xs + 1 ≤ n := by simpa [PyData.depth] using hn
      cases n with
      | zero => omega
      | succ n =>
        unfold eqIsQuiet
        refine wpAny_bind (wpAny_specialOf hT F.slot_tuple_eq.lookup ?_)
        show wpAny _ _ (isInstance (.ref a) (.type "tuple") >>= _) _ _ s
        refine wpAny_bind (wpAny_isInstance hT isSubtype_tuple_tuple ?_)
        simp only [Bool.not_true, Bool.false_eq_true, if_false]
        refine wpAny_bind (wpAny_seqItems ho hd ?_)
        refine wpAny_bind ?_
        show wpAny _ _ (forIn items _ _) _ _ s
        rw [← Array.forIn_toList]
        exact quiet_loop (n := n) hk' (by omega) ra (wpAny_pure h)
  | .none, _, _, _, _, _, _, _, hk, _, _, _ => by simp [hkD] at hk
  | .bool _, _, _, _, _, _, _, _, hk, _, _, _ => by simp [hkD] at hk
  | .list _, _, _, _, _, _, _, _, hk, _, _, _ => by simp [hkD] at hk
  | .dict _, _, _, _, _, _, _, _, hk, _, _, _ => by simp [hkD] at hk
theorem quiet_loop : ∀ {ds : List PyData} {vs : List Value} {as : List Addr} {n : Nat} {A : Around} {E : Value → Shared → Prop} {s : Shared} {Q : Option Bool × Unit → Shared → Prop}, hkDs ds = true → PyData.depthAll ds ≤ n → ReadsAll s.heap vs ds as → Q (none, ()) s →
    wpAny (model prog w) A (forIn vs ((none, ()) : Option Bool × Unit) fun y r => do
      let b ← eqIsQuiet n y
      if (!b) = true then pure (ForInStep.done (some false, ())) else pure (ForInStep.yield (none, ()))) Q E s
  | [], _, _, n, A, E, s, Q, _, _, r, h => by
    cases r
    rw [List.forIn_nil]
    exact wpAny_pure h
  | d :: ds, _, _, n, A, E, s, Q, hk, hn, r, h => by
    cases r with
    | cons r1 r2 =>
      have hk' : hkD d = true ∧ hkDs ds = true := by simpa [hkDs] using hk
      have hn' : max d.depth (PyData.depthAll ds) ≤ n := by simpa [PyData.depthAll] using hn
      rw [List.forIn_cons]
      refine wpAny_bind (wpAny_bind (quiet_ok hk'.1 (by omega) r1 ?_))
      simp only [Bool.not_true, Bool.false_eq_true, if_false]
      exact wpAny_pure (quiet_loop hk'.2 (by omega) r2 h)
end
end
/-- a key at an address -/
def KeyAt (h : Heap) (d : PyData) (a : Addr) : Prop := hkD d = true ∧ d.canLay0 = true ∧ d.depth ≤ 8 ∧ ∃ as, Reads h (.ref a) d as
noncomputable def treeKind (prog : Program) (w : World) : HeapKind prog w PyData where
  is := KeyAt
  hash := hashD w
  draws := drawD
  room := fun A => A.units + 8 < cLine
  inj := fun {h a x y} hx hy => by
    obtain ⟨_, c, _, as, r⟩ := hx
    obtain ⟨_, _, _, bs, r'⟩ := hy
    exact SeqAt.Reads.unique x y _ _ _ c r r'
  keeps := fun {h h' k a d o es ep} x ho hd hs => by
    obtain ⟨h1, h2, h3, as, r⟩ := x
    refine ⟨h1, h2, h3, as, reads_keep (fun b o' xs n e ed => (hs.2 b ?_).trans e) h1 r⟩
    rintro rfl
    rw [ho] at e; cases e
    rw [hd] at ed; cases ed
  pyHash := fun {A E s k a Q} hu hk h => by
    obtain ⟨h1, h2, h3, as, r⟩ := hk
    exact hash_ok h1 (by omega) r h
  eqBool := fun {A E s x y a b Q} hu hx hy h => by
    obtain ⟨h1, h2, h3, as, r⟩ := hx
    obtain ⟨g1, g2, g3, bs, r'⟩ := hy
    refine SeqAt.eqAt_reads x y A s _ _ as bs r r' h2 g2 ?_ prog w E Q (by rw [eqv_decide h1 g1]; exact h)
    have : min x.depth y.depth ≤ x.depth := Nat.min_le_left _ _
    omega
  quiet := fun {A E s k a Q} hk h => by
    obtain ⟨h1, h2, h3, as, r⟩ := hk
    exact quiet_ok h1 h3 r h
end TK

end
section
set_option Elab.async false
set_option linter.all false
set_option maxRecDepth 100000
/-! THE HAND LAYER, for ints, bools, texts, own classes, LISTS and tuples (index, slices, in, append, pop ..), calls, loops. Paste it whole ahead of your own text; what your proof does not reach may be deleted. -/
namespace L2
open PySem PySem.Spec PyProof.Rows

/-- a key: an int or a str -/
abbrev Key := Sum Int Str
def keyIs : Key → Value → Bool
  | .inl k, v => Value.isInt k v
  | .inr x, v => Value.isStrOf x v
def keyH (w : World) : Key → Int
  | .inl k => hashInt k
  | .inr x => hashStr w x
theorem keyIs_shape : ∀ {k : Key} {v : Value}, keyIs k v = true → (∃ i t, k = Sum.inl i ∧ v = Value.int i t) ∨ (∃ x t, k = Sum.inr x ∧ v = Value.str x t)
  | .inl i, v, h => by
    obtain ⟨t, e⟩ := Value.isInt_shape (k := i) (v := v) h
    exact .inl ⟨i, t, rfl, e⟩
  | .inr x, v, h => by
    obtain ⟨t, e⟩ := Value.isStrOf_shape (x := x) (v := v) h
    exact .inr ⟨x, t, rfl, e⟩
theorem keyIs_int (i : Int) (t : Tok) : keyIs (.inl i) (.int i t) = true := by simp [keyIs, Value.isInt]
theorem keyIs_str (x : Str) (t : Tok) : keyIs (.inr x) (.str x t) = true := by simp [keyIs, Value.isStrOf]
theorem key_ll (a b : Int) : decide ((Sum.inl a : Key) = Sum.inl b) = (a == b) := by
  by_cases e : a = b
  · subst e; simp
  · have h : ¬ (Sum.inl a : Key) = Sum.inl b := fun q => e (Sum.inl.inj q)
    rw [decide_eq_false h]
    exact (beq_eq_false_iff_ne.mpr e).symm
theorem key_rr (a b : Str) : decide ((Sum.inr a : Key) = Sum.inr b) = decide (a = b) := by
  by_cases e : a = b
  · subst e; simp
  · have h : ¬ (Sum.inr a : Key) = Sum.inr b := fun q => e (Sum.inr.inj q)
    rw [decide_eq_false h, decide_eq_false e]
theorem key_lr (a : Int) (b : Str) : decide ((Sum.inl a : Key) = Sum.inr b) = false := decide_eq_false (fun q => nomatch q)
theorem key_rl (a : Str) (b : Int) : decide ((Sum.inr a : Key) = Sum.inl b) = false := decide_eq_false (fun q => nomatch q)

def mixKind (prog : Program) (w : World) : PySem.KeyKind prog w Key where
  is := keyIs
  hash := keyH w
  inj := fun v a b ha hb => by
    rcases keyIs_shape ha with ⟨i, t, rfl, rfl⟩ | ⟨x, t, rfl, rfl⟩
    · rcases keyIs_shape hb with ⟨j, u, rfl, e⟩ | ⟨y, u, rfl, e⟩
      · injection e with e1 _; rw [e1]
      · exact nomatch e
    · rcases keyIs_shape hb with ⟨j, u, rfl, e⟩ | ⟨y, u, rfl, e⟩
      · exact nomatch e
      · injection e with e1 _; rw [e1]
  byValue := fun k v h => by
    rcases keyIs_shape h with ⟨i, t, rfl, rfl⟩ | ⟨x, t, rfl, rfl⟩ <;> rfl
  pyHash := fun hv h => by
    rcases keyIs_shape hv with ⟨i, t, rfl, rfl⟩ | ⟨x, t, rfl, rfl⟩
    · exact wpAny_pyHash_int h
    · exact wpAny_pyHash_str h
  eqBool := fun hu hv h => by
    rcases keyIs_shape hu with ⟨i, t, rfl, rfl⟩ | ⟨x, t, rfl, rfl⟩
    · rcases keyIs_shape hv with ⟨j, u, rfl, rfl⟩ | ⟨y, u, rfl, rfl⟩
      · rw [key_ll] at h; exact wpAny_eqBool_int h
      · rw [key_lr] at h; exact SeqAt.EqAt.int_str i t y u _ _ _ _ h
    · rcases keyIs_shape hv with ⟨j, u, rfl, rfl⟩ | ⟨y, u, rfl, rfl⟩
      · rw [key_rl] at h; exact SeqAt.EqAt.str_int x t j u _ _ _ _ h
      · rw [key_rr] at h; exact wpAny_eqBool_str h
  «strs» := fun k x t v h => by
    rcases keyIs_shape h with ⟨i, u, rfl, e⟩ | ⟨y, u, rfl, e⟩
    · exact nomatch e
    · injection e with e1 _
      subst e1
      cases v <;> rfl

theorem mixKind_is (prog : Program) (w : World) (k : Key) (v : Value) : (mixKind prog w).is k v = keyIs k v := rfl
theorem mixKind_int (prog : Program) (w : World) (i : Int) (t : Tok) : (mixKind prog w).is (.inl i) (.int i t) = true := keyIs_int i t
theorem mixKind_str (prog : Program) (w : World) (x : Str) (t : Tok) : (mixKind prog w).is (.inr x) (.str x t) = true := keyIs_str x t
end L2

namespace L2
open PySem PySem.Spec PyProof.Rows

/-- a value, without the heap -/
inductive V where
  | non | bl (b : Bool) | int (i : Int) | str (x : Str) | byt (b : Array UInt8) | flt (b : UInt64) | ref (a : Addr) | ty (n : String)
  deriving DecidableEq

def RelV : V → Value → Prop
  | .non, u => u = Value.none
  | .bl b, u => u = Value.bool b
  | .int i, u => ∃ t, u = Value.int i t
  | .str x, u => ∃ t, u = Value.str x t
  | .byt b, u => ∃ t, u = Value.bytes b t
  | .flt b, u => ∃ t, u = Value.float b t
  | .ref a, u => u = Value.ref a
  | .ty n, u => u = Value.type n

abbrev Vals : List V → List Value → Prop := Paired RelV
theorem Vals.length {xs : List V} {us : List Value} (r : Vals xs us) : xs.length = us.length := Paired.length r
theorem Vals.get : ∀ {xs : List V} {us : List Value} {i : Nat} {x : V}, Vals xs us → xs[i]? = some x → ∃ u, us[i]? = some u ∧ RelV x u
  | _, _, _, _, .nil, e => by simp at e
  | _, _, 0, _, .cons r _, e => by simp at e; subst e; exact ⟨_, rfl, r⟩
  | _, _, i + 1, x, .cons _ t, e => by
    obtain ⟨u, h1, h2⟩ := Vals.get (i := i) (x := x) t (by simpa using e)
    exact ⟨u, by simpa using h1, h2⟩
theorem Vals.set {x : V} {u : Value} (r : RelV x u) : ∀ {xs : List V} {us : List Value} (i : Nat), Vals xs us → Vals (xs.set i x) (us.set i u)
  | _, _, _, .nil => .nil
  | _, _, 0, .cons _ t => .cons r t
  | _, _, i + 1, .cons q t => .cons q (Vals.set r i t)
theorem Vals.append : ∀ {xs ys : List V} {us ws : List Value}, Vals xs us → Vals ys ws → Vals (xs ++ ys) (us ++ ws)
  | _, _, _, _, .nil, s => s
  | _, _, _, _, .cons r t, s => .cons r (Vals.append t s)
theorem Vals.take : ∀ {xs : List V} {us : List Value} (n : Nat), Vals xs us → Vals (xs.take n) (us.take n)
  | _, _, 0, _ => .nil
  | _, _, _ + 1, .nil => .nil
  | _, _, n + 1, .cons r t => .cons r (Vals.take n t)
theorem Vals.drop : ∀ {xs : List V} {us : List Value} (n : Nat), Vals xs us → Vals (xs.drop n) (us.drop n)
  | _, _, 0, r => r
  | _, _, _ + 1, .nil => .nil
  | _, _, n + 1, .cons _ t => Vals.drop n t
theorem Vals.none_of : ∀ {xs : List V} {us : List Value} {i : Nat}, Vals xs us → xs[i]? = none → us[i]? = none := fun {xs us i} r e => by
  have h1 := r.length
  have h2 : xs.length ≤ i := List.getElem?_eq_none_iff.mp e
  exact List.getElem?_eq_none_iff.mpr (by omega)

def RelO : Option V → Option Value → Prop
  | some v, some u => RelV v u
  | none, none => True
  | _, _ => False
def KV {κ : Type} : List (κ × V) → List (κ × Value) → Prop := Paired fun (p : κ × V) (q : κ × Value) => p.1 = q.1 ∧ RelV p.2 q.2

/-- a key of a dict (00_mix): an int or a text -/
def kV : Key → V
  | .inl i => .int i
  | .inr x => .str x

/-- what stands at a tracked address -/
inductive HO where
  /-- a list -/
  | lst (xs : List V)
  /-- a tuple (never changes) -/
  | tup (xs : List V)
  /-- a dict whose keys are ints and texts; one whose keys are tuples of ints and texts (the empty one is both) -/
  | dK (kvs : List (Key × V)) | dT (kvs : List (List Key × V))
  /-- a dict whose keys are tuples, whatever tuples they hold -/
  | dD (kvs : List (PyData × V))
  /-- a set of ints: its members, its size -/
  | set (S : Int → Bool) (n : Nat)
  /-- an instance of the class at C, its dict at dx, its attributes -/
  | ins (C dx : Addr) (fs : List (Str × V))
  /-- the dict of the instance at x -/
  | own (x : Addr)
  /-- the dict of an exception -/
  | xd (fs : List (Str × V))
  /-- a bound method, f of x -/
  | met (f x : Addr)
  /-- a range object lo, lo + 1, .. below hi -/
  | rng (lo hi : Int)
  /-- a thing that is known to the object (the script; a dict while a loop walks it): read, never written while it is so -/
  | frz (o : Obj) (u : HO)
  /-- a code object's table -/
  | tbl (ps : Array Value)
  /-- any other thing, by what is true of its one object (a def of one's own: SetO a S n := HO.ext fun h => ..) -/
  | ext (φ : Heap → Prop)

abbrev Hp := Addr → Option HO
def upd (H : Hp) (a : Addr) (o : HO) : Hp := fun b => if b = a then some o else H b
theorem upd_same {H : Hp} {a : Addr} {o : HO} : upd H a o a = some o := by unfold upd; rw [if_pos rfl]
theorem upd_ne {H : Hp} {a b : Addr} {o : HO} (h : b ≠ a) : upd H a o b = H b := by unfold upd; rw [if_neg h]
theorem upd_upd {H : Hp} {a : Addr} {o u : HO} : upd (upd H a o) a u = upd H a u := by
  funext b; unfold upd; split <;> rfl
/-- two objects of different content stand apart -/
theorem ne_of {H : Hp} {a b : Addr} {o u : HO} (h : H a = some o) (h' : H b = some u) (d : o ≠ u) : a ≠ b := by
  intro e; subst e; rw [h] at h'; exact d (Option.some.inj h')
theorem ne_of_none {H : Hp} {a b : Addr} {o : HO} (h : H a = some o) (h' : H b = none) : a ≠ b := by
  intro e; subst e; rw [h] at h'; cases h'

mutual
/-- a key's tuples, all tracked -/
def KeyH (H : Hp) : PyData → V → Prop
  | .int i, v => v = .int i
  | .str x, v => v = .str x
  | .tuple xs, v => ∃ p vs, v = .ref p ∧ H p = some (.tup vs) ∧ KeyHs H xs vs
  | _, _ => False
def KeyHs (H : Hp) : List PyData → List V → Prop
  | [], vs => vs = []
  | d :: ds, vs => ∃ v r, vs = v :: r ∧ KeyH H d v ∧ KeyHs H ds r
end
mutual
theorem KeyH.stay {H H' : Hp} (ht : ∀ b xs, H b = some (.tup xs) → H' b = some (.tup xs)) : ∀ {d : PyData} {v : V}, KeyH H d v → KeyH H' d v
  | .int _, _, h => by unfold KeyH at h ⊢; exact h
  | .str _, _, h => by unfold KeyH at h ⊢; exact h
  | .tuple _, _, h => by
    unfold KeyH at h ⊢
    obtain ⟨p, vs, e1, e2, e3⟩ := h
    exact ⟨p, vs, e1, ht _ _ e2, KeyHs.stay ht e3⟩
  | .none, _, h => by unfold KeyH at h; exact h.elim
  | .bool _, _, h => by unfold KeyH at h; exact h.elim
  | .list _, _, h => by unfold KeyH at h; exact h.elim
  | .dict _, _, h => by unfold KeyH at h; exact h.elim
theorem KeyHs.stay {H H' : Hp} (ht : ∀ b xs, H b = some (.tup xs) → H' b = some (.tup xs)) : ∀ {ds : List PyData} {vs : List V}, KeyHs H ds vs → KeyHs H' ds vs
  | [], _, h => by unfold KeyHs at h ⊢; exact h
  | _ :: _, _, h => by
    unfold KeyHs at h ⊢
    obtain ⟨v, r, e1, e2, e3⟩ := h
    exact ⟨v, r, e1, KeyH.stay ht e2, KeyHs.stay ht e3⟩
end
/-- a key of a dict, at an address -/
def KeyOk (H : Hp) (d : PyData) (a : Addr) : Prop := TK.hkD d = true ∧ d.canLay0 = true ∧ d.depth ≤ 8 ∧ KeyH H d (.ref a)
abbrev KD0 (H : Hp) : List (PyData × V) → List (PyData × Addr × Value) → Prop := Paired fun p q => p.1 = q.1 ∧ KeyOk H p.1 q.2.1 ∧ RelV p.2 q.2.2
section
variable (P : Program) (w : World)
def ObjOk (H : Hp) (h : Heap) (a : Addr) : HO → Prop
  | .lst xs => xs.length ≤ sizeLine ∧ ∃ (its : List Value) (n : Nat), Vals xs its ∧ h.get? a = some { cls := .type "list", data := .seq its.toArray n }
  | .tup xs => xs.length ≤ sizeLine ∧ ∃ its : List Value, Vals xs its ∧ IsTup h a its.toArray
  | .dK kvs => kvs.length ≤ sizeLine ∧ (a == sysModules) = false ∧ ∃ vs, KV kvs vs ∧ h.DictOf (mixKind P w) a vs
  | .dT kvs => kvs.length ≤ sizeLine ∧ (a == sysModules) = false ∧ ∃ xs : List (List Key × Addr × Value),
      Paired (fun (p : List Key × V) (q : List Key × Addr × Value) => p.1 = q.1 ∧ H q.2.1 = some (.tup (p.1.map kV)) ∧ RelV p.2 q.2.2) kvs xs ∧
      ∃ o es ep, h.get? a = some o ∧ o.ExactDict ∧ o.data = .dict es ep ∧ es.toList = xs.map (entryOfKey (tupleKind (mixKind P w))) ∧ (xs.map (·.1)).Nodup
  | .dD kvs => kvs.length ≤ sizeLine ∧ (a == sysModules) = false ∧ ∃ xs : List (PyData × Addr × Value), KD0 H kvs xs ∧
      ∃ o es ep, h.get? a = some o ∧ o.ExactDict ∧ o.data = .dict es ep ∧ es.toList = xs.map (entryOfKey (TK.treeKind P w)) ∧ (xs.map (·.1)).Nodup
  | .set S n => h.SetOf (intKind P w) a S n
  | .ins C dx fs => H dx = some (.own a) ∧ fs.length ≤ 1000 ∧ dx ≠ a ∧ h.get? a = some (PySem.W.instObj C dx) ∧
      ∃ mA, h.Ns1 dx mA ∧ (∀ f, RelO (fs.lookup f) (mA f)) ∧ PySem.Within mA (fs.map (·.1))
  | .own _ => ∃ o, h.get? a = some o
  | .xd fs => ∃ mA, h.Ns1 a mA ∧ ∀ f, RelO (fs.lookup f) (mA f)
  | .rng lo hi => ∃ t u v, h.get? a = some { cls := .type "range", data := .fields #[.int lo t, .int hi u, .int 1 v] }
  | .frz o u => h.get? a = some o ∧ ObjOk H h a u
  | .tbl ps => h.get? a = some { cls := .none, data := .fields ps }
  | .met f x => h.get? a = some (PySem.W.methodObj (.ref f) (.ref x))
  | .ext φ => φ h ∧ (∃ o, h.get? a = some o) ∧ ∀ h1 h2 : Heap, φ h1 → (∀ o, h1.get? a = some o → h2.get? a = some o) → φ h2
/-- the abstract heap is held -/
def HOk (H : Hp) (h : Heap) : Prop := ∀ a o, H a = some o → ObjOk P w H h a o
end

section
variable {P : Program} {w : World} {H H' : Hp} {h h' : Heap} {a : Addr} {o : HO}
theorem ObjOk.lt (x : ObjOk P w H h a o) : a < h.objs.size := by
  cases o with
  | lst xs => obtain ⟨_, _, _, _, e⟩ := x; exact Heap.lt_size e
  | tup xs => obtain ⟨_, _, _, p⟩ := x; exact p.lt
  | dK kvs => obtain ⟨_, _, _, _, o, _, _, e, _⟩ := x; exact Heap.lt_size e
  | dT kvs => obtain ⟨_, _, _, _, o, _, _, e, _⟩ := x; exact Heap.lt_size e
  | dD kvs => obtain ⟨_, _, _, _, o, _, _, e, _⟩ := x; exact Heap.lt_size e
  | set S n => obtain ⟨o, _, _, _, e, _⟩ := x; exact Heap.lt_size e
  | ins C dx fs => obtain ⟨_, _, _, e, _⟩ := x; exact Heap.lt_size e
  | own y => obtain ⟨_, e⟩ := x; exact Heap.lt_size e
  | xd fs => obtain ⟨_, ⟨_, _, _, e, _⟩, _⟩ := x; exact Heap.lt_size e
  | rng lo hi => obtain ⟨_, _, _, e⟩ := x; exact Heap.lt_size e
  | frz ob u => obtain ⟨e, _⟩ := x; exact Heap.lt_size e
  | tbl ps => exact Heap.lt_size (show h.get? a = some _ from x)
  | met f y => exact Heap.lt_size (show h.get? a = some _ from x)
  | ext φ => obtain ⟨_, ⟨_, e⟩, _⟩ := x; exact Heap.lt_size e
theorem Paired.mapP {α β : Type} {F G : α → β → Prop} : ∀ {l₁ : List α} {l₂ : List β}, Paired F l₁ l₂ → (∀ a b, F a b → G a b) → Paired G l₁ l₂
  | _, _, .nil, _ => .nil
  | _, _, .cons r t, f => .cons (f _ _ r) (Paired.mapP t f)
theorem Paired.imp' {α β : Type} {F G : α → β → Prop} (f : ∀ a b, F a b → G a b) {l₁ : List α} {l₂ : List β} (r : Paired F l₁ l₂) : Paired G l₁ l₂ := Paired.mapP r f
/-- what an object's description leans on: its own object, its own dict, the tuples -/
theorem ObjOk.stay (x : ObjOk P w H h a o) (k : ∀ b u, (b = a ∨ H b = some (.own a)) → h.get? b = some u → h'.get? b = some u)
    (ho : ∀ b, H b = some (.own a) → H' b = some (.own a)) (ht : ∀ b xs, H b = some (.tup xs) → H' b = some (.tup xs)) : ObjOk P w H' h' a o := by
  induction o with
  | lst xs => obtain ⟨z, its, n, r, e⟩ := x; exact ⟨z, its, n, r, k _ _ (.inl rfl) e⟩
  | tup xs => obtain ⟨z, its, r, ob, e, c⟩ := x; exact ⟨z, its, r, ob, k _ _ (.inl rfl) e, c⟩
  | dK kvs => obtain ⟨z, y, vs, r, ob, es, ep, e, c⟩ := x; exact ⟨z, y, vs, r, ob, es, ep, k _ _ (.inl rfl) e, c⟩
  | dT kvs =>
    obtain ⟨z, y, xs, r, ob, es, ep, e, c⟩ := x
    exact ⟨z, y, xs, Paired.mapP r fun p q z => ⟨z.1, ht _ _ z.2.1, z.2.2⟩, ob, es, ep, k _ _ (.inl rfl) e, c⟩
  | dD kvs =>
    obtain ⟨z, y, xs, r, ob, es, ep, e, c⟩ := x
    exact ⟨z, y, xs, Paired.mapP r fun p q z => ⟨z.1, ⟨z.2.1.1, z.2.1.2.1, z.2.1.2.2.1, KeyH.stay ht z.2.1.2.2.2⟩, z.2.2⟩, ob, es, ep, k _ _ (.inl rfl) e, c⟩
  | set S n => obtain ⟨ob, es, ep, t, e, c⟩ := x; exact ⟨ob, es, ep, t, k _ _ (.inl rfl) e, c⟩
  | ins C dx fs =>
    obtain ⟨d, z, ne, e, mA, ⟨od, es, ep, e2, c⟩, r⟩ := x
    exact ⟨ho _ d, z, ne, k _ _ (.inl rfl) e, mA, ⟨od, es, ep, k _ _ (.inr d) e2, c⟩, r⟩
  | own y => obtain ⟨ob, e⟩ := x; exact ⟨ob, k _ _ (.inl rfl) e⟩
  | xd fs => obtain ⟨mA, ⟨od, es, ep, e, c⟩, r⟩ := x; exact ⟨mA, ⟨od, es, ep, k _ _ (.inl rfl) e, c⟩, r⟩
  | rng lo hi => obtain ⟨t, u, v, e⟩ := x; exact ⟨t, u, v, k _ _ (.inl rfl) e⟩
  | frz ob u ih => obtain ⟨e, q⟩ := x; exact ⟨k _ _ (.inl rfl) e, ih q⟩
  | tbl ps =>
    have e : h.get? a = some { cls := .none, data := .fields ps } := x
    show h'.get? a = some { cls := .none, data := .fields ps }
    exact k a _ (.inl rfl) e
  | met f y =>
    have e : h.get? a = some (PySem.W.methodObj (.ref f) (.ref y)) := x
    show h'.get? a = some (PySem.W.methodObj (.ref f) (.ref y))
    exact k a _ (.inl rfl) e
  | ext φ => obtain ⟨p, ⟨o, e⟩, st⟩ := x; exact ⟨st _ _ p fun o q => k _ _ (.inl rfl) q, ⟨o, k _ _ (.inl rfl) e⟩, st⟩
theorem HOk.lt (x : HOk P w H h) (e : H a = some o) : a < h.objs.size := (x a o e).lt
theorem HOk.fresh (x : HOk P w H h) (e : h.objs.size ≤ a) : H a = none := by
  cases q : H a with
  | none => rfl
  | some u => exact absurd (Nat.lt_of_lt_of_le (x.lt q) e) (Nat.lt_irrefl _)
/-- every object of the heap is kept -/
theorem HOk.kept (x : HOk P w H h) (k : ∀ b u, h.get? b = some u → h'.get? b = some u) : HOk P w H h' := fun a o e =>
  (x a o e).stay (fun b u _ q => k b u q) (fun _ q => q) fun _ _ q => q
/-- a new object is laid and tracked -/
theorem HOk.laid (x : HOk P w H h) (k : ∀ b u, h.get? b = some u → h'.get? b = some u) (hp : h.objs.size ≤ a) (new : ObjOk P w (upd H a o) h' a o) : HOk P w (upd H a o) h' := fun b u e => by
  have hn := x.fresh hp
  by_cases hb : b = a
  · subst hb; rw [upd_same] at e; cases e; exact new
  · rw [upd_ne hb] at e
    exact (x b u e).stay (fun c v _ q => k c v q) (fun c q => by rw [upd_ne (ne_of_none q hn)]; exact q) fun c xs q => by rw [upd_ne (ne_of_none q hn)]; exact q
end

/-- what may be read as u: it is u, or a known u -/
def Rd (H : Hp) (a : Addr) (u : HO) : Prop := H a = some u ∨ ∃ o, H a = some (.frz o u)
theorem Rd.of {H : Hp} {a : Addr} {u : HO} (h : H a = some u) : Rd H a u := .inl h
theorem Rd.ok {P : Program} {w : World} {H : Hp} {h : Heap} {a : Addr} {u : HO} (r : Rd H a u) (x : HOk P w H h) : ObjOk P w H h a u := by
  rcases r with r | ⟨o, r⟩
  · exact x a u r
  · obtain ⟨_, q⟩ := x a _ r
    exact q
/-- what may be written -/
def Mut : Option HO → Prop
  | some (.lst _) => True
  | some (.dK _) => True
  | some (.dT _) => True
  | some (.dD _) => True
  | some (.set _ _) => True
  | some (.ins _ _ _) => True
  | some (.ext _) => True
  | _ => False
section
variable {P : Program} {w : World} {H : Hp} {h h' : Heap} {x e : Addr} {o' : HO}
/-- the object at e is changed: x itself, or the dict of the instance x -/
theorem HOk.write (ok : HOk P w H h) (mu : Mut (H x)) (he : e = x ∨ H e = some (.own x)) (k : ∀ b u, b ≠ e → h.get? b = some u → h'.get? b = some u) (heo : ∃ u, h'.get? e = some u)
    (new : ObjOk P w (upd H x o') h' x o') : HOk P w (upd H x o') h' := fun b u q => by
  have nown : ∀ c y, H c = some (.own y) → c ≠ x := fun c y r z => by subst z; rw [r] at mu; exact mu
  have ntup : ∀ c xs, H c = some (.tup xs) → c ≠ x := fun c xs r z => by subst z; rw [r] at mu; exact mu
  by_cases hb : b = x
  · subst hb; rw [upd_same] at q; cases q; exact new
  · rw [upd_ne hb] at q
    by_cases hbe : b = e
    · have q' : H b = some (.own x) := by
        rcases he with z | z
        · exact absurd (hbe.trans z) hb
        · rw [hbe]; exact z
      rw [q] at q'; cases q'
      obtain ⟨v, hv⟩ := heo
      exact ⟨v, by rw [hbe]; exact hv⟩
    · refine (ok b u q).stay (fun c v hc r => k c v ?_ r) (fun c r => by rw [upd_ne (nown c b r)]; exact r) fun c xs r => by rw [upd_ne (ntup c xs r)]; exact r
      rcases hc with rfl | hc
      · exact hbe
      · rintro rfl
        rcases he with z | z
        · exact nown c b hc z
        · rw [hc] at z; cases z; exact hb rfl
end

/-! ### kept unless tracked; of the frames at fs (the callers') the slots may change (an exception that passes writes there); of the records at ex (iterators) nothing is said -/
structure Un (fs ex : List Addr) (H H' : Hp) (h h' : Heap) : Prop where
  keep : ∀ b o, h.get? b = some o → H b = none → b ∉ fs → b ∉ ex → h'.get? b = some o
  slot : ∀ b o, h.get? b = some o → H b = none → b ∈ fs → b ∉ ex → ∃ sl, h'.get? b = some { o with slots := sl }
  free : ∀ b o, h.get? b = some o → H b = none → b ∉ ex → H' b = none
  there : ∀ b o, h.get? b = some o → b ∉ ex → ∃ o', h'.get? b = some o'
  tups : ∀ b xs, H b = some (.tup xs) → H' b = some (.tup xs)
  frzs : ∀ b o u, H b = some (.frz o u) → H' b = some (.frz o u)
  tbls : ∀ b ps, H b = some (.tbl ps) → ∃ more, H' b = some (.tbl (ps ++ more))
section
variable {fs fs' ex ex' : List Addr} {H H1 H2 : Hp} {h h1 h2 h' : Heap} {a x e : Addr} {o : HO}
theorem Un.any (u : Un fs ex H H1 h h1) {b : Addr} {ob : Obj} (q : h.get? b = some ob) (n : H b = none) (hx : b ∉ ex) : ∃ sl, h1.get? b = some { ob with slots := sl } := by
  by_cases hb : b ∈ fs
  · exact u.slot b ob q n hb hx
  · exact ⟨ob.slots, u.keep b ob q n hb hx⟩
theorem Un.trans (a : Un fs ex H H1 h h1) (b : Un fs ex H1 H2 h1 h2) : Un fs ex H H2 h h2 where
  keep := fun c ob q n hc hx => b.keep c ob (a.keep c ob q n hc hx) (a.free c ob q n hx) hc hx
  slot := fun c ob q n hc hx => by
    obtain ⟨sl, e1⟩ := a.slot c ob q n hc hx
    obtain ⟨sl', e2⟩ := b.slot c _ e1 (a.free c ob q n hx) hc hx
    exact ⟨sl', e2⟩
  free := fun c ob q n hx => by
    obtain ⟨o', e1⟩ := a.there c ob q hx
    exact b.free c o' e1 (a.free c ob q n hx) hx
  there := fun c ob q hx => by
    obtain ⟨o', e1⟩ := a.there c ob q hx
    exact b.there c o' e1 hx
  tups := fun c xs q => b.tups c xs (a.tups c xs q)
  frzs := fun c ob xs q => b.frzs c ob xs (a.frzs c ob xs q)
  tbls := fun c ps q => by
    obtain ⟨m1, e1⟩ := a.tbls c ps q
    obtain ⟨m2, e2⟩ := b.tbls c _ e1
    exact ⟨m1 ++ m2, by rw [e2, Array.append_assoc]⟩
theorem Un.kept (k : ∀ b u, h.get? b = some u → h'.get? b = some u) : Un fs ex H H h h' :=
  ⟨fun b ob q _ _ _ => k b ob q, fun b ob q _ _ _ => ⟨ob.slots, k b ob q⟩, fun _ _ _ n _ => n, fun b ob q _ => ⟨ob, k b ob q⟩, fun _ _ q => q, fun _ _ _ q => q, fun _ ps q => ⟨#[], by rw [q]; simp⟩⟩
theorem Un.refl : Un fs ex H H h h := Un.kept fun _ _ q => q
theorem Un.laid (k : ∀ b u, h.get? b = some u → h'.get? b = some u) (hp : h.objs.size ≤ a) (hn : H a = none) : Un fs ex H (upd H a o) h h' where
  keep := fun b u q _ _ _ => k b u q
  slot := fun b u q _ _ _ => ⟨u.slots, k b u q⟩
  free := fun b u q n _ => by rw [upd_ne (Nat.ne_of_lt (Nat.lt_of_lt_of_le (Heap.lt_size q) hp))]; exact n
  there := fun b u q _ => ⟨u, k b u q⟩
  tups := fun b xs q => by rw [upd_ne (ne_of_none q hn)]; exact q
  frzs := fun b u xs q => by rw [upd_ne (ne_of_none q hn)]; exact q
  tbls := fun b ps q => ⟨#[], by rw [upd_ne (ne_of_none q hn), q]; simp⟩
theorem Un.write (mu : Mut (H x)) (he : e = x ∨ H e = some (.own x)) (k : ∀ b u, b ≠ e → h.get? b = some u → h'.get? b = some u) (heo : ∃ u, h'.get? e = some u) : Un fs ex H (upd H x o) h h' := by
  have hx : ∀ b, H b = none → b ≠ x := fun b n z => by subst z; rw [n] at mu; exact mu
  have hb : ∀ b, H b = none → b ≠ e := fun b n z => by
    subst z
    rcases he with r | r
    · exact hx b n r
    · rw [n] at r; cases r
  have hm : ∀ b u, H b = some u → ¬ Mut (some u) → b ≠ x := fun b u q nm z => by subst z; rw [q] at mu; exact nm mu
  refine ⟨fun b u q n _ _ => k b u (hb b n) q, fun b u q n _ _ => ⟨u.slots, k b u (hb b n) q⟩, fun b u q n _ => by rw [upd_ne (hx b n)]; exact n, fun b u q _ => ?_,
    fun b xs q => by rw [upd_ne (hm b _ q fun z => z)]; exact q, fun b u xs q => by rw [upd_ne (hm b _ q fun z => z)]; exact q, fun b ps q => ⟨#[], by rw [upd_ne (hm b _ q fun z => z), q]; simp⟩⟩
  by_cases hbe : b = e
  · subst hbe; exact heo
  · exact ⟨u, k b u hbe q⟩
theorem Un.mono (u : Un fs ex H H1 h h1) (hs : ∀ b ∈ fs, b ∈ fs') (hx : ∀ b ∈ ex, b ∈ ex') : Un fs' ex' H H1 h h1 :=
  ⟨fun b ob q n hb he => u.keep b ob q n (fun z => hb (hs b z)) fun z => he (hx b z), fun _ _ q n _ he => u.any q n fun z => he (hx _ z), fun b ob q n he => u.free b ob q n fun z => he (hx b z), fun b ob q he => u.there b ob q fun z => he (hx b z), u.tups, u.frzs, u.tbls⟩
end

/-! ### the heap without what is tracked -/
def trk (h : Heap) (H : Hp) : List Addr := (List.range h.objs.size).filter fun a => (H a).isSome
def hidT (h : Heap) (H : Hp) : Heap := PySem.W.hideAll h (trk h H)
theorem hidT_size (h : Heap) (H : Hp) : (hidT h H).objs.size = h.objs.size := PySem.W.hideAll_size _ _
theorem hidT_get {h : Heap} {H : Hp} {b : Addr} {o : Obj} (e : h.get? b = some o) (n : H b = none) : (hidT h H).get? b = some o :=
  PySem.W.hideAll_get _ e fun hm => by
    have q : (H b).isSome = true := (List.mem_filter.mp hm).2
    rw [n] at q; simp at q
theorem of_hidT {h : Heap} {H : Hp} {b : Addr} {o : Obj} (e : (hidT h H).get? b = some o) : h.get? b = some o ∧ H b = none := by
  have e' : h.get? b = some o := PySem.W.of_hideAll (trk h H) e
  refine ⟨e', ?_⟩
  cases q : H b with
  | none => rfl
  | some x =>
    have hm : b ∈ trk h H := List.mem_filter.mpr ⟨List.mem_range.mpr (Heap.lt_size e'), by simp [q]⟩
    have z : (hidT h H).get? b = none := PySem.W.hideAll_none (trk h H) hm
    rw [z] at e; cases e

/-! ### OpenK's ledger, filled with every new object but one -/
def allNews (g h : Heap) (L : Addr) : List (Addr × Obj) := (List.range h.objs.size).filterMap fun a => if a = L ∨ (g.get? a).isSome = true then none else (h.get? a).map fun o => (a, o)
theorem mem_allNews {g h : Heap} {L a : Addr} {o : Obj} (h1 : a ≠ L) (h2 : g.get? a = none) (h3 : h.get? a = some o) : (a, o) ∈ allNews g h L :=
  List.mem_filterMap.mpr ⟨a, List.mem_range.mpr (Heap.lt_size h3), by simp [h1, h2, h3]⟩
theorem of_mem_allNews {g h : Heap} {L : Addr} {p : Addr × Obj} (hp : p ∈ allNews g h L) : p.1 ≠ L ∧ g.get? p.1 = none ∧ h.get? p.1 = some p.2 := by
  obtain ⟨b, _, e⟩ := List.mem_filterMap.mp hp
  split at e
  · cases e
  · rename_i hn
    cases q : h.get? b with
    | none => rw [q] at e; simp at e
    | some u =>
      rw [q] at e
      simp only [Option.map_some, Option.some.injEq] at e
      subst e
      refine ⟨fun z => hn (.inl z), ?_, q⟩
      show g.get? b = none
      cases r : g.get? b with
      | none => rfl
      | some v => exact (hn (.inr (by simp [r]))).elim
def rest (g h : Heap) (L d : Addr) : List (Addr × Obj) := (allNews g h L).filter fun p => decide (p.1 ≠ d)
theorem rest_ne {g h : Heap} {L d : Addr} : ∀ p ∈ rest g h L d, p.1 ≠ d := fun p hp => of_decide_eq_true (List.mem_filter.mp hp).2
theorem mem_rest {g h : Heap} {L d a : Addr} {o : Obj} (h1 : a ≠ L) (h2 : g.get? a = none) (h3 : h.get? a = some o) (h4 : a ≠ d) : (a, o) ∈ rest g h L d :=
  List.mem_filter.mpr ⟨mem_allNews h1 h2 h3, decide_eq_true h4⟩
theorem news_all {g h : Heap} {L : Addr} : News g L h (allNews g h L) := fun p hp => let ⟨a, b, c⟩ := of_mem_allNews hp; ⟨c, a, b⟩
theorem news_at {g h : Heap} {L d : Addr} {o : Obj} (h1 : d ≠ L) (h2 : g.get? d = none) (h3 : h.get? d = some o) : News g L h ((d, o) :: rest g h L d) := fun p hp => by
  rcases List.mem_cons.mp hp with rfl | hp
  · exact ⟨h3, h1, h2⟩
  · exact news_all p (List.mem_filter.mp hp).1
/-- behind a rule that changed d alone: all else but the frame is kept -/
theorem kept_of_news {g h h' : Heap} {L d : Addr} {m : Str → Option Value} (k : ∀ b o, g.get? b = some o → h.get? b = some o) (F : Fr g L h' m) (N : News g L h' (rest g h L d)) :
    ∀ b o, b ≠ L → b ≠ d → h.get? b = some o → h'.get? b = some o := fun b o h1 h2 e => by
  cases q : g.get? b with
  | some u =>
    have := k b u q
    rw [e] at this; cases this
    exact F.keep b _ q
  | none => exact (N (b, o) (mem_rest h1 q e h2)).1
end L2

namespace L2
open PySem PySem.Spec PyProof.Rows

/-- the module's facts, over the base: the heap at the law's entry without what is tracked there -/
structure Mod (K : PySem.W.Frag) (mg : Str → Option Value) (base : Heap) : Prop where
  kin : K.In base
  glob : base.Ns mainGlobals mg
  blt : ∃ mb, base.Ns builtinsNs mb ∧ ∀ x : Str, x ≠ "__name__" → mb x = bootBuiltins x
  nolimit : base.NoLimit

/-- the context: a def's body (or a comprehension's block) running. base: fixed through the whole law; s₀, H₀: the entry; outer: the frames whose slots others may change (a def's callers); stack: all frames that run;
   ex: iterators that were made ahead of the entry and are walked here (a comprehension's); fn: the names whose cells were made at the entry (a def: all; a comprehension's block: its own); calm: not within an except suite; pn: pins that every state bears; xe: what is wanted of an exception that leaves the code -/
structure Cx where
  prog : Program
  w : World
  K : PySem.W.Frag
  mg : Str → Option Value
  base : Heap
  A : Around
  N : List Str
  s₀ : Shared
  H₀ : Hp
  env : Env
  outer : List Env
  stack : List Env
  ex : List Addr
  fn : Str → Bool
  calm : Bool
  pn : List (Addr × Obj)
  xe : Value → Shared → Prop
/-- the callers' frames -/
def frs (l : List Env) : List Addr := l.filterMap (·.frame)
abbrev Cx.fs (X : Cx) : List Addr := frs X.outer

def Vis (sc : Scope) (x : Str) : Prop := sc.names.lookup x = some .local ∨ sc.names.lookup x = some .cell ∨ sc.names.lookup x = some .free
def Loc (sc : Scope) (x : Str) : Prop := sc.names.lookup x = some .local ∨ sc.names.lookup x = some .cell
def Look (env : Env) (h : Heap) (m : Str → Option Value) (x : Str) (u : Value) : Prop :=
  (env.kindOf x = some .local ∧ m x = some u) ∨ ((env.kindOf x = some .cell ∨ env.kindOf x = some .free) ∧ ∃ c, env.cells.lookup x = some c ∧ h.IsCell c (some u))

structure Cx.Ok (X : Cx) : Prop where
  mod : Mod X.K X.mg X.base
  kind : X.env.scope.kind = .function
  glob : X.env.globals = mainGlobals
  blt : X.env.builtins = builtinsNs
  above : X.s₀.heap.objs.size ≤ X.env.locals
  inj : ∀ x y c, X.env.cells.lookup x = some c → X.env.cells.lookup y = some c → x = y
  has : ∀ x, (X.env.kindOf x = some .cell ∨ X.env.kindOf x = some .free) → ∃ c, X.env.cells.lookup x = some c
  cab : ∀ x c, X.fn x = true → X.env.cells.lookup x = some c → X.s₀.heap.objs.size ≤ c
  hd : X.calm = true → X.A.handled = none
  frames : X.A.frames = some X.stack
  stk : X.stack = X.outer ∨ (X.stack = X.env :: X.outer ∧ X.env.frame = some X.env.locals)
  exf : ∀ b ∈ X.ex, b ≠ X.env.locals ∧ ∀ x c, X.env.cells.lookup x = some c → c ≠ b
  bs : ∀ b o, X.base.get? b = some o → X.s₀.heap.get? b = some o ∧ X.H₀ b = none
  bsz : X.base.objs.size ≤ X.s₀.heap.objs.size
  noex : ∀ b o, X.base.get? b = some o → b ∉ X.ex
  exfs : ∀ b ∈ X.ex, b ∉ X.fs
  funs : X.s₀.heap.FunFrames X.base X.outer
  frf : ∀ b ∈ X.fs, X.H₀ b = none

structure Inv (X : Cx) (pins : List (Addr × Obj)) (σ : List (Option V)) (H : Hp) (s : Shared) : Prop where
  ok : X.Ok
  os : s.os = X.s₀.os
  bare : AllBare s.gens
  base : Un X.fs X.ex X.H₀ H X.s₀.heap s.heap
  loc : ∃ m, s.heap.Ns X.env.locals m ∧ ∀ (i : Nat) (x : Str) (v : V), X.N[i]? = some x → σ[i]? = some (some v) → Vis X.env.scope x → ∃ u, RelV v u ∧ Look X.env s.heap m x u
  cell : ∀ x c, X.env.cells.lookup x = some c → ∃ v, s.heap.IsCell c v
  free : H X.env.locals = none
  freeC : ∀ x c, X.env.cells.lookup x = some c → H c = none
  pin : ∀ p ∈ X.pn ++ pins, s.heap.get? p.1 = some p.2 ∧ H p.1 = none ∧ p.1 ≠ X.env.locals ∧ p.1 ∉ X.fs ∧ ∀ v, p.2.data ≠ .cell v
  hok : HOk X.prog X.w H s.heap
  len : σ.length = X.N.length

section
variable {X : Cx} {pins : List (Addr × Obj)} {σ : List (Option V)} {H H' : Hp} {s : Shared} {h' : Heap}

theorem Cx.Ok.nofr (ok : X.Ok) {b : Addr} {o : Obj} (e : X.base.get? b = some o) : b ∉ X.fs := fun hb => by
  have := (ok.funs.mem hb).1
  rw [e] at this; cases this
theorem Inv.bs (I : Inv X pins σ H s) : ∀ b o, X.base.get? b = some o → s.heap.get? b = some o ∧ H b = none := fun b o e =>
  ⟨I.base.keep b o (I.ok.bs b o e).1 (I.ok.bs b o e).2 (I.ok.nofr e) (I.ok.noex b o e), I.base.free b o (I.ok.bs b o e).1 (I.ok.bs b o e).2 (I.ok.noex b o e)⟩
theorem Inv.bk (I : Inv X pins σ H s) : ∀ b o, X.base.get? b = some o → s.heap.get? b = some o := fun b o e => (I.bs b o e).1
theorem Inv.mod (I : Inv X pins σ H s) : Mod X.K X.mg X.base := I.ok.mod
theorem Inv.kIn (I : Inv X pins σ H s) : X.K.In s.heap := I.ok.mod.kin.keeps I.bk
theorem Inv.nolimit (I : Inv X pins σ H s) : s.heap.NoLimit := I.ok.mod.nolimit.keeps I.bk
/-- the frame over the base: for OpenK's rules (K.In X.base is I.mod.kin) -/
theorem Inv.fr (I : Inv X pins σ H s) : ∃ m, Fr X.base X.env.locals s.heap m :=
  let ⟨m, hn, _⟩ := I.loc
  ⟨m, hn, I.bk, Nat.le_trans I.ok.bsz I.ok.above⟩
theorem Inv.lt (I : Inv X pins σ H s) : X.env.locals < s.heap.objs.size := let ⟨_, hn, _⟩ := I.loc; hn.lt
theorem Inv.sz (I : Inv X pins σ H s) : X.s₀.heap.objs.size ≤ s.heap.objs.size := Nat.le_trans I.ok.above (Nat.le_of_lt I.lt)
theorem Inv.nofs (I : Inv X pins σ H s) {a : Addr} (h : s.heap.objs.size ≤ a) : a ∉ X.fs := fun hb => by
  obtain ⟨_, o, ho, _⟩ := I.ok.funs.mem hb
  exact absurd (Nat.lt_of_lt_of_le (Heap.lt_size ho) (Nat.le_trans I.sz h)) (Nat.lt_irrefl _)
theorem Inv.cne (I : Inv X pins σ H s) : ∀ x c, X.env.cells.lookup x = some c → c ≠ X.env.locals := fun x c e z => by
  obtain ⟨v, o, ho, hd⟩ := I.cell x c e
  obtain ⟨m, ⟨o', es, ep, ho', hd', _⟩, _⟩ := I.loc
  rw [z, ho'] at ho; cases ho; rw [hd'] at hd; cases hd
theorem Inv.funs (I : Inv X pins σ H s) : s.heap.FunFrames X.base X.outer := by
  have all : ∀ (l : List Env), (∀ b ∈ frs l, b ∈ X.fs) → X.s₀.heap.FunFrames X.base l → s.heap.FunFrames X.base l := by
    intro l
    induction l with
    | nil => intro _ _; trivial
    | cons env r ih =>
      intro hs hl
      obtain ⟨hk, ⟨L, o, hf, hn, ho, hd⟩, hr⟩ := hl
      have hL : L ∈ X.fs := hs L (by unfold frs; rw [List.filterMap_cons, hf]; exact List.mem_cons_self)
      obtain ⟨sl, e⟩ := I.base.slot L o ho (I.ok.frf L hL) hL fun z => I.ok.exfs L z hL
      exact ⟨hk, ⟨L, _, hf, hn, e, hd⟩, ih (fun b hb => hs b (by unfold frs; rw [List.filterMap_cons, hf]; exact List.mem_cons_of_mem _ hb)) hr⟩
  exact all X.outer (fun _ hb => hb) I.ok.funs

/-- the frames that run, for a call -/
theorem Inv.stack (I : Inv X pins σ H s) : s.heap.FunFrames X.base X.stack := by
  rcases I.ok.stk with e | ⟨e, hf⟩
  · rw [e]; exact I.funs
  · rw [e]
    obtain ⟨m, hn, _⟩ := I.loc
    refine .cons (by rw [I.ok.kind]; decide) hf hn ?_ I.funs
    exact Heap.get?_none_of_le (Nat.le_trans I.ok.bsz I.ok.above)
theorem Inv.stkSub (I : Inv X pins σ H s) : ∀ b ∈ frs X.stack, b ∈ X.env.locals :: X.fs := fun b hb => by
  rcases I.ok.stk with e | ⟨e, hf⟩
  · rw [e] at hb; exact List.mem_cons_of_mem _ hb
  · rw [e] at hb
    unfold frs at hb
    rw [List.filterMap_cons, hf] at hb
    exact hb
theorem Inv.stkFree (I : Inv X pins σ H s) : ∀ b ∈ frs X.stack, H b = none := fun b hb => by
  rcases List.mem_cons.mp (I.stkSub b hb) with e | hb
  · rw [e]; exact I.free
  · obtain ⟨_, o, ho, _⟩ := I.ok.funs.mem hb
    exact I.base.free b o ho (I.ok.frf b hb) fun z => I.ok.exfs b z hb

/-- THE STEP: the untracked objects but the frame and the records at ch are kept (the callers' frames up to slots), the frame's map is kept, the new abstract heap is held -/
theorem Inv.step {g' : Array GenState} {t' : Nat} {d' : Drawn} {ch : List Addr} (I : Inv X pins σ H s)
    (hch : ∀ b ∈ ch, (b ∈ X.ex ∨ X.s₀.heap.objs.size ≤ b) ∧ b ≠ X.env.locals ∧ (∀ x c, X.env.cells.lookup x = some c → c ≠ b) ∧ ∀ p ∈ X.pn ++ pins, p.1 ≠ b)
    (keep : ∀ b o, b ≠ X.env.locals → b ∉ X.fs → b ∉ ch → s.heap.get? b = some o → H b = none → h'.get? b = some o)
    (slot : ∀ b o, b ≠ X.env.locals → b ∈ X.fs → b ∉ ch → s.heap.get? b = some o → H b = none → ∃ sl, h'.get? b = some { o with slots := sl }) (free : ∀ b o, b ∉ ch → s.heap.get? b = some o → H b = none → H' b = none)
    (there : ∀ b o, b ∉ ch → s.heap.get? b = some o → ∃ o', h'.get? b = some o')
    (tups : ∀ b xs, H b = some (.tup xs) → H' b = some (.tup xs)) (frzs : ∀ b o u, H b = some (.frz o u) → H' b = some (.frz o u)) (tbls : ∀ b ps, H b = some (.tbl ps) → ∃ more, H' b = some (.tbl (ps ++ more)))
    (ns : ∀ m, s.heap.Ns X.env.locals m → h'.Ns X.env.locals m) (hok : HOk X.prog X.w H' h') (hg : AllBare g') :
    Inv X pins σ H' { s with heap := h', gens := g', drawn := d', toks := t' } := by
  have neL : ∀ b o, X.s₀.heap.get? b = some o → b ≠ X.env.locals := fun b o e => Nat.ne_of_lt (Nat.lt_of_lt_of_le (Heap.lt_size e) I.ok.above)
  have neC : ∀ b o, X.s₀.heap.get? b = some o → b ∉ X.ex → b ∉ ch := fun b o e hx hb => by
    rcases (hch b hb).1 with z | z
    · exact hx z
    · exact absurd (Nat.lt_of_lt_of_le (Heap.lt_size e) z) (Nat.lt_irrefl _)
  have cellK : ∀ x c, X.env.cells.lookup x = some c → ∀ v, s.heap.IsCell c v → h'.IsCell c v := fun x c e v ⟨o, ho, hd⟩ => by
    have nch : c ∉ ch := fun z => (hch c z).2.2.1 x c e rfl
    by_cases hc : c ∈ X.fs
    · obtain ⟨sl, q⟩ := slot c o (I.cne x c e) hc nch ho (I.freeC x c e)
      exact ⟨_, q, hd⟩
    · exact ⟨o, keep c o (I.cne x c e) hc nch ho (I.freeC x c e), hd⟩
  refine ⟨I.ok, I.os, hg, ⟨fun b o e n hb hx => ?_, fun b o e n hb hx => ?_, fun b o e n hx => ?_, fun b o e hx => ?_, fun b xs e => tups b xs (I.base.tups b xs e), fun b o xs e => frzs b o xs (I.base.frzs b o xs e), fun b ps e => ?_⟩, ?_, fun x c e => ?_, ?_, fun x c e => ?_, fun p hp => ?_, hok, I.len⟩
  · exact keep b o (neL b o e) hb (neC b o e hx) (I.base.keep b o e n hb hx) (I.base.free b o e n hx)
  · obtain ⟨sl, e1⟩ := I.base.slot b o e n hb hx
    obtain ⟨sl', e2⟩ := slot b _ (neL b o e) hb (neC b o e hx) e1 (I.base.free b o e n hx)
    exact ⟨sl', e2⟩
  · obtain ⟨o', e1⟩ := I.base.there b o e hx
    exact free b o' (neC b o e hx) e1 (I.base.free b o e n hx)
  · obtain ⟨o', e1⟩ := I.base.there b o e hx
    exact there b o' (neC b o e hx) e1
  · obtain ⟨m1, e1⟩ := I.base.tbls b ps e
    obtain ⟨m2, e2⟩ := tbls b _ e1
    exact ⟨m1 ++ m2, by rw [e2, Array.append_assoc]⟩
  · obtain ⟨m, hn, hl⟩ := I.loc
    refine ⟨m, ns m hn, fun i x v e1 e2 e3 => ?_⟩
    obtain ⟨u, r, l⟩ := hl i x v e1 e2 e3
    refine ⟨u, r, ?_⟩
    rcases l with l | ⟨k, c, e, z⟩
    · exact .inl l
    · exact .inr ⟨k, c, e, cellK x c e _ z⟩
  · obtain ⟨v, z⟩ := I.cell x c e
    exact ⟨v, cellK x c e v z⟩
  · obtain ⟨m, ⟨o, _, _, ho, _⟩, _⟩ := I.loc
    exact free _ o (fun z => (hch _ z).2.1 rfl) ho I.free
  · obtain ⟨v, o, ho, hd⟩ := I.cell x c e
    exact free c o (fun z => (hch c z).2.2.1 x c e rfl) ho (I.freeC x c e)
  · obtain ⟨e, n, ne, nf, d⟩ := I.pin p hp
    have nch : p.1 ∉ ch := fun z => (hch p.1 z).2.2.2 p hp rfl
    exact ⟨keep p.1 p.2 ne nf nch e n, free p.1 p.2 nch e n, ne, nf, d⟩
/-- .. where the frame's own object is kept too -/
theorem Inv.un {t' : Nat} (I : Inv X pins σ H s) (u : Un X.fs [] H H' s.heap h') (hok : HOk X.prog X.w H' h') : Inv X pins σ H' { s with heap := h', toks := t' } := by
  obtain ⟨m, ⟨o, es, ep, ho, r⟩, _⟩ := id I.loc
  obtain ⟨sl, hL⟩ := u.any ho I.free (by simp)
  exact I.step (g' := s.gens) (d' := s.drawn) (ch := []) (fun _ z => nomatch z) (fun b o _ hb _ e n => u.keep b o e n hb (by simp)) (fun b o _ hb _ e n => u.slot b o e n hb (by simp)) (fun b o _ e n => u.free b o e n (by simp)) (fun b o _ e => u.there b o e (by simp)) u.tups u.frzs u.tbls (fun m' hm => by
    obtain ⟨o', es', ep', ho', r'⟩ := hm
    rw [ho] at ho'; cases ho'
    exact ⟨_, es', ep', hL, r'⟩) hok I.bare
/-- behind a call (or a comprehension's block): the slots of this frame may have changed too, the records at ch may have turned -/
theorem Inv.call {g' : Array GenState} {t' : Nat} {d' : Drawn} {ch : List Addr} (I : Inv X pins σ H s) (u : Un (frs X.stack) ch H H' s.heap h') (hok : HOk X.prog X.w H' h') (hg : AllBare g')
    (hch : ∀ b ∈ ch, (b ∈ X.ex ∨ X.s₀.heap.objs.size ≤ b) ∧ b ≠ X.env.locals ∧ (∀ x c, X.env.cells.lookup x = some c → c ≠ b) ∧ ∀ p ∈ X.pn ++ pins, p.1 ≠ b) :
    Inv X pins σ H' { s with heap := h', gens := g', drawn := d', toks := t' } := by
  obtain ⟨m, ⟨o, es, ep, ho, r⟩, _⟩ := id I.loc
  obtain ⟨sl, hL⟩ := u.any ho I.free fun z => (hch _ z).2.1 rfl
  exact I.step (ch := ch) hch (fun b o hL hb hc e n => u.keep b o e n (fun z => (List.mem_cons.mp (I.stkSub b z)).elim hL hb) hc) (fun b o _ _ hc e n => u.any e n hc) (fun b o hc e n => u.free b o e n hc) (fun b o hc e => u.there b o e hc) u.tups u.frzs u.tbls (fun m' hm => by
    obtain ⟨o', es', ep', ho', r'⟩ := hm
    rw [ho] at ho'; cases ho'
    exact ⟨_, es', ep', hL, r'⟩) hok hg
/-- an untracked record of ours (an iterator) has turned -/
theorem Inv.turned {t' : Nat} {it : Addr} (I : Inv X pins σ H s) (k : ∀ b o, b ≠ it → s.heap.get? b = some o → h'.get? b = some o) (hn : H it = none) (hL : it ≠ X.env.locals)
    (h1 : it ∈ X.ex ∨ X.s₀.heap.objs.size ≤ it) (h2 : ∀ x c, X.env.cells.lookup x = some c → c ≠ it) (h3 : ∀ p ∈ X.pn ++ pins, p.1 ≠ it) : Inv X pins σ H { s with heap := h', toks := t' } := by
  have nit : ∀ b u, H b = some u → b ≠ it := fun b u e z => by rw [z, hn] at e; cases e
  refine I.step (g' := s.gens) (d' := s.drawn) (ch := [it]) (fun b hb => ?_) (fun b o _ _ hc e _ => k b o (fun z => hc (by simp [z])) e) (fun b o _ _ hc e _ => ⟨o.slots, k b o (fun z => hc (by simp [z])) e⟩) (fun _ _ _ _ n => n)
    (fun b o hc e => ⟨o, k b o (fun z => hc (by simp [z])) e⟩) (fun _ _ e => e) (fun _ _ _ e => e) (fun b ps e => ⟨#[], by rw [e]; simp⟩) (fun m hm => ?_) (fun b u e => ?_) I.bare
  · have e : b = it := by simpa using hb
    subst e
    exact ⟨h1, hL, h2, h3⟩
  · obtain ⟨o, es, ep, ho, r⟩ := hm
    exact ⟨o, es, ep, k _ o (Ne.symm hL) ho, r⟩
  · refine (I.hok b u e).stay (fun c v hc q => k c v ?_ q) (fun _ q => q) fun _ _ q => q
    rcases hc with z | z
    · rw [z]; exact nit b u e
    · exact nit c _ z
theorem Inv.tok (I : Inv X pins σ H s) (t : Nat) : Inv X pins σ H { s with toks := t } := I.un (h' := s.heap) (t' := t) Un.refl I.hok
/-- all objects kept -/
theorem Inv.kept {t' : Nat} (I : Inv X pins σ H s) (k : ∀ b u, s.heap.get? b = some u → h'.get? b = some u) : Inv X pins σ H { s with heap := h', toks := t' } := I.un (Un.kept k) (I.hok.kept k)
/-- a new object laid and tracked -/
theorem Inv.laid {a : Addr} {o : HO} {t' : Nat} (I : Inv X pins σ H s) (k : ∀ b u, s.heap.get? b = some u → h'.get? b = some u) (hp : s.heap.objs.size ≤ a) (new : ObjOk X.prog X.w (upd H a o) h' a o) :
    Inv X pins σ (upd H a o) { s with heap := h', toks := t' } := I.un (Un.laid k hp (I.hok.fresh hp)) (I.hok.laid k hp new)
/-- an object written -/
theorem Inv.write {x e : Addr} {o : HO} {t' : Nat} (I : Inv X pins σ H s) (mu : Mut (H x)) (he : e = x ∨ H e = some (.own x)) (k : ∀ b u, b ≠ e → s.heap.get? b = some u → h'.get? b = some u) (heo : ∃ u, h'.get? e = some u)
    (new : ObjOk X.prog X.w (upd H x o) h' x o) : Inv X pins σ (upd H x o) { s with heap := h', toks := t' } := I.un (Un.write mu he k heo) (I.hok.write mu he k heo new)
/-- forgetting slots, pins -/
theorem Inv.weak {σ' : List (Option V)} (I : Inv X pins σ H s) (hl : σ'.length = σ.length) (w : ∀ (i : Nat) v, σ'[i]? = some (some v) → σ[i]? = some (some v)) : Inv X pins σ' H s :=
  ⟨I.ok, I.os, I.bare, I.base, let ⟨m, hn, hl'⟩ := I.loc; ⟨m, hn, fun i x v e1 e2 e3 => hl' i x v e1 (w i v e2) e3⟩, I.cell, I.free, I.freeC, I.pin, I.hok, hl.trans I.len⟩
theorem Inv.pins_of {pins' : List (Addr × Obj)} (I : Inv X pins σ H s) (h : ∀ p ∈ pins', s.heap.get? p.1 = some p.2 ∧ H p.1 = none ∧ p.1 ≠ X.env.locals ∧ p.1 ∉ X.fs ∧ ∀ v, p.2.data ≠ .cell v) : Inv X pins' σ H s :=
  ⟨I.ok, I.os, I.bare, I.base, I.loc, I.cell, I.free, I.freeC, fun p hp => (List.mem_append.mp hp).elim (fun z => I.pin p (List.mem_append_left _ z)) (h p), I.hok, I.len⟩

theorem nodup_ix {N : List Str} (hN : N.Nodup) {i j : Nat} {x : Str} (a : N[i]? = some x) (b : N[j]? = some x) : i = j := by
  obtain ⟨h1, e1⟩ := List.getElem?_eq_some_iff.mp a
  obtain ⟨h2, e2⟩ := List.getElem?_eq_some_iff.mp b
  exact (List.getElem_inj hN).mp (e1.trans e2.symm)

/-- a name is stored; what changed -/
theorem store_ok2 {M : Model} {A : Around} {E : Value → Shared → Prop} {i : Nat} {x : Str} {v : V} {u : Value} {Q : Unit → Shared → Prop} (I : Inv X pins σ H s) (hN : X.N.Nodup) (hi : X.N[i]? = some x) (hx : Loc X.env.scope x) (r : RelV v u)
    (h : ∀ s', Inv X pins (σ.set i (some v)) H s' → (∃ a, Heap.SameBut a s.heap s'.heap ∧ (a = X.env.locals ∨ X.env.cells.lookup x = some a)) → Q () s') (hf : X.fn x = true ∨ X.env.scope.names.lookup x = some .local := by first | exact .inl rfl | exact .inr rfl | assumption) : wpAny M A (storeName X.env x u) Q E s := by
  obtain ⟨m, hn, hl⟩ := id I.loc
  have hcls : (X.env.scope.kind == .class || (X.env.scope.kind == .module && X.env.locals != X.env.globals)) = false := by rw [I.ok.kind]; rfl
  have hiσ : i < σ.length := by rw [I.len]; exact (List.getElem?_eq_some_iff.mp hi).1
  have cne := I.cne
  have tracked : ∀ {a : Addr} {h' : Heap}, (∃ o, s.heap.get? a = some o ∧ H a = none) → Heap.SameBut a s.heap h' → HOk X.prog X.w H h' := fun {a h'} ha hs b ob e => by
    obtain ⟨_, _, hfree⟩ := ha
    refine (I.hok b ob e).stay (fun c w' hc q => (hs.2 c ?_).trans q) (fun _ q => q) fun _ _ q => q
    rintro rfl
    rcases hc with rfl | hc
    · rw [hfree] at e; cases e
    · rw [hfree] at hc; cases hc
  rcases hx with hk | hk
  · refine wpAny_storeName_local hk hn (fun h' hn' hs => ?_) hcls
    obtain ⟨oL, _, _, hoL, _⟩ := id hn
    refine h _ ⟨I.ok, I.os, I.bare, ⟨fun b o e n hb hx => ?_, fun b o e n hb hx => ?_, I.base.free, fun b o e hx => ?_, I.base.tups, I.base.frzs, I.base.tbls⟩, ⟨_, hn', fun j y v' e1 e2 e3 => ?_⟩, fun y c e => ?_, I.free, I.freeC, fun p hp => ?_, tracked ⟨oL, hoL, I.free⟩ hs, by simpa using I.len⟩ ⟨_, hs, .inl rfl⟩
    · exact (hs.2 b (Nat.ne_of_lt (Nat.lt_of_lt_of_le (Heap.lt_size e) I.ok.above))).trans (I.base.keep b o e n hb hx)
    · obtain ⟨sl, e1⟩ := I.base.slot b o e n hb hx
      exact ⟨sl, (hs.2 b (Nat.ne_of_lt (Nat.lt_of_lt_of_le (Heap.lt_size e) I.ok.above))).trans e1⟩
    · obtain ⟨o', e1⟩ := I.base.there b o e hx
      exact ⟨o', (hs.2 b (Nat.ne_of_lt (Nat.lt_of_lt_of_le (Heap.lt_size e) I.ok.above))).trans e1⟩
    · by_cases hj : j = i
      · subst hj
        rw [hi] at e1; cases e1
        rw [List.getElem?_set_self hiσ] at e2
        cases e2
        exact ⟨u, r, .inl ⟨hk, by simp⟩⟩
      · rw [List.getElem?_set_ne (Ne.symm hj)] at e2
        obtain ⟨u', r', q⟩ := hl j y v' e1 e2 e3
        refine ⟨u', r', ?_⟩
        rcases q with ⟨k, e⟩ | ⟨k, c, e, z⟩
        · refine .inl ⟨k, ?_⟩
          have : y ≠ x := fun e => hj (nodup_ix hN e1 (e ▸ hi))
          simp [this, e]
        · exact .inr ⟨k, c, e, z.sameBut hs (cne y c e)⟩
    · obtain ⟨w', z⟩ := I.cell y c e
      exact ⟨w', z.sameBut hs (cne y c e)⟩
    · obtain ⟨e, n, ne, nf, d⟩ := I.pin p hp
      exact ⟨(hs.2 p.1 ne).trans e, n, ne, nf, d⟩
  · have hfn : X.fn x = true := by
      rcases hf with z | z
      · exact z
      · rw [z] at hk; cases hk
    obtain ⟨c, hc⟩ := I.ok.has x (.inl hk)
    obtain ⟨w', z⟩ := I.cell x c hc
    refine wpAny_storeName_cell I.ok.kind hk hc z (fun h' hc' hs => ?_)
    obtain ⟨oc, hoc, hocd⟩ := id z
    refine h { s with heap := h' } ⟨I.ok, I.os, I.bare, ⟨fun b o e n hb hx => ?_, fun b o e n hb hx => ?_, I.base.free, fun b o e hx => ?_, I.base.tups, I.base.frzs, I.base.tbls⟩, ⟨m, hn.sameBut hs (Ne.symm (cne x c hc)), fun j y v' e1 e2 e3 => ?_⟩, fun y c' e => ?_, I.free, I.freeC, fun p hp => ?_, tracked ⟨oc, hoc, I.freeC x c hc⟩ hs, by simpa using I.len⟩ ⟨c, hs, .inr hc⟩
    · exact (hs.2 b (Nat.ne_of_lt (Nat.lt_of_lt_of_le (Heap.lt_size e) (I.ok.cab x c hfn hc)))).trans (I.base.keep b o e n hb hx)
    · obtain ⟨sl, e1⟩ := I.base.slot b o e n hb hx
      exact ⟨sl, (hs.2 b (Nat.ne_of_lt (Nat.lt_of_lt_of_le (Heap.lt_size e) (I.ok.cab x c hfn hc)))).trans e1⟩
    · obtain ⟨o', e1⟩ := I.base.there b o e hx
      exact ⟨o', (hs.2 b (Nat.ne_of_lt (Nat.lt_of_lt_of_le (Heap.lt_size e) (I.ok.cab x c hfn hc)))).trans e1⟩
    · by_cases hj : j = i
      · subst hj
        rw [hi] at e1; cases e1
        rw [List.getElem?_set_self hiσ] at e2
        cases e2
        exact ⟨u, r, .inr ⟨.inl hk, c, hc, hc'⟩⟩
      · rw [List.getElem?_set_ne (Ne.symm hj)] at e2
        obtain ⟨u', r', q⟩ := hl j y v' e1 e2 e3
        refine ⟨u', r', ?_⟩
        rcases q with q | ⟨k, c', e, z'⟩
        · exact .inl q
        · refine .inr ⟨k, c', e, z'.sameBut hs ?_⟩
          rintro rfl
          exact hj (nodup_ix hN e1 (I.ok.inj _ _ _ e hc ▸ hi))
    · by_cases hcc : c' = c
      · subst hcc; exact ⟨_, hc'⟩
      · obtain ⟨w2, z2⟩ := I.cell y c' e
        exact ⟨w2, z2.sameBut hs hcc⟩
    · obtain ⟨e, n, ne, nf, d⟩ := I.pin p hp
      refine ⟨(hs.2 p.1 ?_).trans e, n, ne, nf, d⟩
      intro q
      rw [q, hoc] at e
      have q' : oc = p.2 := Option.some.inj e
      exact d w' (by rw [← q']; exact hocd)
theorem store_ok {M : Model} {A : Around} {E : Value → Shared → Prop} {i : Nat} {x : Str} {v : V} {u : Value} {Q : Unit → Shared → Prop} (I : Inv X pins σ H s) (hN : X.N.Nodup) (hi : X.N[i]? = some x) (hx : Loc X.env.scope x) (r : RelV v u)
    (h : ∀ s', Inv X pins (σ.set i (some v)) H s' → Q () s') (hf : X.fn x = true ∨ X.env.scope.names.lookup x = some .local := by first | exact .inl rfl | exact .inr rfl | assumption) : wpAny M A (storeName X.env x u) Q E s :=
  store_ok2 I hN hi hx r (fun s' I' _ => h s' I') hf
/-- behind a call or a block, the state as it is -/
theorem Inv.call' {s' : Shared} {ch : List Addr} (I : Inv X pins σ H s) (ho : s'.os = s.os) (u : Un (frs X.stack) ch H H' s.heap s'.heap) (hok : HOk X.prog X.w H' s'.heap) (hg : AllBare s'.gens)
    (hch : ∀ b ∈ ch, (b ∈ X.ex ∨ X.s₀.heap.objs.size ≤ b) ∧ b ≠ X.env.locals ∧ (∀ x c, X.env.cells.lookup x = some c → c ≠ b) ∧ ∀ p ∈ X.pn ++ pins, p.1 ≠ b) : Inv X pins σ H' s' := by
  obtain ⟨h', g', d', t', o'⟩ := s'
  have e : o' = s.os := ho
  subst e
  exact I.call (g' := g') (t' := t') (d' := d') u hok hg hch
end

/-! ### the judgements -/
/-- an exception: its class, its own dict's address (where it has one), the abstract heap behind it -/
abbrev XK := Value → Option Addr → Hp → Prop
abbrev St := List (Option V)
abbrev VK := V → Hp → Prop
/-- an expression's reading; a test's; an argument list's -/
abbrev TE := St → Hp → VK → Prop
abbrev TT := St → Hp → (Bool → Hp → Prop) → Prop
abbrev TA := St → Hp → (List V → Hp → Prop) → Prop
/-- what is wanted behind a statement -/
structure Ends where
  nx : St → Hp → Prop
  rt : VK
  bk : St → Hp → Prop := fun _ _ => False
  ct : St → Hp → Prop := fun _ _ => False
abbrev TS := Ends → St → Hp → Prop

def EP (X : Cx) (pins : List (Addr × Obj)) (σ : St) (Q : VK) (u : Value) (s' : Shared) : Prop := ∃ v H', Inv X pins σ H' s' ∧ RelV v u ∧ Q v H'
def TP (X : Cx) (pins : List (Addr × Obj)) (σ : St) (Q : Bool → Hp → Prop) (b : Bool) (s' : Shared) : Prop := ∃ H', Inv X pins σ H' s' ∧ Q b H'
def AP (X : Cx) (pins : List (Addr × Obj)) (σ : St) (Q : List V → Hp → Prop) (us : List Value) (s' : Shared) : Prop := ∃ vs H', Inv X pins σ H' s' ∧ Vals vs us ∧ Q vs H'
def SP (X : Cx) (pins : List (Addr × Obj)) (D : Ends) (f : Flow) (s' : Shared) : Prop :=
  match f with
  | .next => ∃ σ' H', Inv X pins σ' H' s' ∧ D.nx σ' H'
  | .brk => ∃ σ' H', Inv X pins σ' H' s' ∧ D.bk σ' H'
  | .cont => ∃ σ' H', Inv X pins σ' H' s' ∧ D.ct σ' H'
  | .ret u => ∃ v σ' H', Inv X pins σ' H' s' ∧ RelV v u ∧ D.rt v H'

def PE (X : Cx) (e : Expr) (t : TE) : Prop :=
  ∀ (pins : List (Addr × Obj)) (s : Shared) (σ : St) (H : Hp) (Q : VK), Inv X pins σ H s → t σ H Q → wpAny (model X.prog X.w) X.A (eval e X.env) (EP X pins σ Q) X.xe s
def PT (X : Cx) (e : Expr) (t : TT) : Prop :=
  ∀ (pins : List (Addr × Obj)) (s : Shared) (σ : St) (H : Hp) (Q : Bool → Hp → Prop), Inv X pins σ H s → t σ H Q → wpAny (model X.prog X.w) X.A (isTrue e X.env (eval e X.env)) (TP X pins σ Q) X.xe s
/-- a test whatever its 'whole' is (and, or) -/
def PW (X : Cx) (e : Expr) (t : TT) : Prop :=
  ∀ (whole : Sem Value) (pins : List (Addr × Obj)) (s : Shared) (σ : St) (H : Hp) (Q : Bool → Hp → Prop), Inv X pins σ H s → t σ H Q → wpAny (model X.prog X.w) X.A (isTrue e X.env whole) (TP X pins σ Q) X.xe s
theorem PW.pt {X : Cx} {e : Expr} {t : TT} (h : PW X e t) : PT X e t := h _
/-- an argument list (no star), from the left -/
def PA (X : Cx) (es : List Expr) (t : TA) : Prop :=
  ∀ (pos : Pos) (pins : List (Addr × Obj)) (s : Shared) (σ : St) (H : Hp) (Q : List V → Hp → Prop), Inv X pins σ H s → t σ H Q → wpAny (model X.prog X.w) X.A (spliced (backTo pos (starEach es X.env))) (AP X pins σ Q) X.xe s
def PS (X : Cx) (st : Stmt) (t : TS) : Prop :=
  ∀ (pins : List (Addr × Obj)) (s : Shared) (σ : St) (H : Hp) (D : Ends), Inv X pins σ H s → t D σ H → wpAny (model X.prog X.w) X.A (exec st X.env) (SP X pins D) X.xe s
def PSs (X : Cx) (st : List Stmt) (t : TS) : Prop :=
  ∀ (pins : List (Addr × Obj)) (s : Shared) (σ : St) (H : Hp) (D : Ends), Inv X pins σ H s → t D σ H → wpAny (model X.prog X.w) X.A (execs st X.env) (SP X pins D) X.xe s
/-- weaken the end -/
theorem thn {α : Type} {t : Sem α} {Q Q' : α → Shared → Prop} {M : Model} {A : Around} {E : Value → Shared → Prop} {s : Shared} (h : wpAny M A t Q E s) (hQ : ∀ a s, Q a s → Q' a s) : wpAny M A t Q' E s := wpAny_mono h hQ fun _ _ x => x
end L2

namespace L2
open PySem PySem.Spec PyProof.Rows
section
variable {X : Cx}

/-- two expressions in a row -/
theorem bin {a b : Expr} {ta tb : TE} (ha : PE X a ta) (hb : PE X b tb) {pins : List (Addr × Obj)} {s : Shared} {σ : St} {H : Hp} {R : V → V → Hp → Prop} (I : Inv X pins σ H s) (h : ta σ H fun x H1 => tb σ H1 fun y H2 => R x y H2)
    {α : Type} {Q : α → Shared → Prop} {f : Value → Value → Sem α}
    (hf : ∀ v u s2 x y H2, Inv X pins σ H2 s2 → RelV x v → RelV y u → R x y H2 → wpAny (model X.prog X.w) X.A (f v u) Q X.xe s2) :
    wpAny (model X.prog X.w) X.A (eval a X.env) (fun v s₁ => wpAny (model X.prog X.w) X.A (eval b X.env) (fun u s₂ => wpAny (model X.prog X.w) X.A (f v u) Q X.xe s₂) X.xe s₁) X.xe s := by
  refine thn (ha pins s σ H _ I h) fun v s1 ⟨x, H1, I1, r1, q1⟩ => ?_
  refine thn (hb pins s1 σ H1 _ I1 q1) fun u s2 ⟨y, H2, I2, r2, q2⟩ => ?_
  exact hf v u s2 x y H2 I2 r1 r2 q2

/-! ### names and constants -/
def tVar (i : Nat) : TE := fun σ H Q => ∃ v, σ[i]? = some (some v) ∧ Q v H
def tC (v : V) : TE := fun _ H Q => Q v H
theorem pe_var {i : Nat} {x : Str} {pos : Pos} (hN : X.N[i]? = some x) (hv : Vis X.env.scope x) (hd : (x == ("__debug__" : Str)) = false := by decide) (hcd : (x == ("__classdict__" : Str)) = false := by decide) : PE X (.Name x pos) (tVar i) := by
  intro pins s σ H Q I h
  obtain ⟨v, e, h⟩ := h
  obtain ⟨m, hn, hl⟩ := I.loc
  obtain ⟨u, r, l⟩ := hl i x v hN e hv
  have fin : EP X pins σ Q u s := ⟨v, H, I, r, h⟩
  rcases l with ⟨hk, hm⟩ | ⟨hk, c, hc, hcell⟩
  · exact wpAny_Name (wpAny_loadName_local I.ok.kind hk hn hm fin) hd
  · rcases hk with hk | hk
    · exact wpAny_Name (wpAny_loadName_cell I.ok.kind hk hc hcell fin) hd
    · exact wpAny_Name (wpAny_loadName_free I.ok.kind hk hc hcell fin hcd) hd
theorem pe_int {i j pos} : PE X (.Constant (.int i) j pos) (tC (.int i)) := fun _ _ _ H _ I h => wpAny_Constant_int ⟨.int i, H, I.tok _, ⟨_, rfl⟩, h⟩
theorem pe_bl {b j pos} : PE X (.Constant (.bool b) j pos) (tC (.bl b)) := fun _ _ _ H _ I h => Constant_bool ⟨.bl b, H, I, rfl, h⟩
theorem pe_non {j pos} : PE X (.Constant .none j pos) (tC .non) := fun _ _ _ H _ I h => Constant_none ⟨.non, H, I, rfl, h⟩
theorem pe_str {x j pos} : PE X (.Constant (.str x) j pos) (tC (.str x)) := fun _ _ _ H _ I h => Calls.Constant_str ⟨.str x, H, I.tok _, ⟨_, rfl⟩, h⟩

/-- a global name of the def -/
def Gl (X : Cx) (x : Str) : Prop := X.env.kindOf x = some .globalImplicit
theorem ld_glob {E : Value → Shared → Prop} {pins : List (Addr × Obj)} {s : Shared} {σ : St} {H : Hp} {x : Str} {u : Value} {pos : Pos} {Q : Value → Shared → Prop} (I : Inv X pins σ H s) (hg : Gl X x) (hm : X.mg x = some u) (h : Q u s)
    (hd : (x == ("__debug__" : Str)) = false := by decide) : wpAny (model X.prog X.w) X.A (eval (.Name x pos) X.env) Q E s :=
  Calls.Name_function_global I.ok.kind hg (Calls.loadGlobal_global (by rw [I.ok.glob]; exact I.mod.glob.keeps I.bk) hm h) hd
theorem ld_blt {E : Value → Shared → Prop} {pins : List (Addr × Obj)} {s : Shared} {σ : St} {H : Hp} {x : Str} {u : Value} {pos : Pos} {Q : Value → Shared → Prop} (I : Inv X pins σ H s) (hg : Gl X x) (hm : X.mg x = none) (hv : bootBuiltins x = some u) (h : Q u s)
    (hn : x ≠ "__name__" := by decide) (hd : (x == ("__debug__" : Str)) = false := by decide) : wpAny (model X.prog X.w) X.A (eval (.Name x pos) X.env) Q E s := by
  obtain ⟨mb, h1, h2⟩ := I.mod.blt
  exact Calls.Name_function_global I.ok.kind hg (Calls.loadGlobal_builtin (by rw [I.ok.glob]; exact I.mod.glob.keeps I.bk) hm (by rw [I.ok.blt]; exact h1.keeps I.bk) ((h2 x hn).trans hv) h) hd
/-- a module's constant, a class, a function, as a value -/
theorem pe_glob {x : Str} {v : V} {u : Value} {pos : Pos} (hg : Gl X x) (hm : X.mg x = some u) (r : RelV v u) (hd : (x == ("__debug__" : Str)) = false := by decide) : PE X (.Name x pos) (tC v) :=
  fun _ _ _ H _ I h => ld_glob I hg hm ⟨v, H, I, r, h⟩ hd
theorem pe_bltn {x : Str} {v : V} {u : Value} {pos : Pos} (hg : Gl X x) (hm : X.mg x = none) (hv : bootBuiltins x = some u) (r : RelV v u) (hn : x ≠ "__name__" := by decide) (hd : (x == ("__debug__" : Str)) = false := by decide) : PE X (.Name x pos) (tC v) :=
  fun _ _ _ H _ I h => ld_blt I hg hm hv ⟨v, H, I, r, h⟩ hn hd

/-! ### arithmetic -/
/-- two ints -/
def t2I (ta tb : TE) (k : Int → Int → Hp → Prop) : St → Hp → Prop := fun σ H => ta σ H fun x H1 => tb σ H1 fun y H2 => ∃ i j, x = .int i ∧ y = .int j ∧ k i j H2
def tAdd (ta tb : TE) : TE := fun σ H Q => t2I ta tb (fun i j H2 => Q (.int (i + j)) H2) σ H
def tSub (ta tb : TE) : TE := fun σ H Q => t2I ta tb (fun i j H2 => Q (.int (i - j)) H2) σ H
/-- the left factor below 2^64 -/
def tMul (ta tb : TE) : TE := fun σ H Q => t2I ta tb (fun i j H2 => (-(2 ^ 64) < i ∧ i < 2 ^ 64) ∧ Q (.int (i * j)) H2) σ H
variable {a b : Expr} {ta tb : TE} {pos : Pos}
theorem pe_add (ha : PE X a ta) (hb : PE X b tb) : PE X (.BinOp a .Add b pos) (tAdd ta tb) := by
  intro pins s σ H Q I h
  refine wpAny_BinOp (bin ha hb I h fun v u s2 x y H2 I2 rx ry q => ?_)
  obtain ⟨i, j, rfl, rfl, q⟩ := q
  obtain ⟨t, rfl⟩ := rx
  obtain ⟨t', rfl⟩ := ry
  exact add_int ⟨.int _, H2, I2.tok _, ⟨_, rfl⟩, q⟩
theorem pe_sub (ha : PE X a ta) (hb : PE X b tb) : PE X (.BinOp a .Sub b pos) (tSub ta tb) := by
  intro pins s σ H Q I h
  refine wpAny_BinOp (bin ha hb I h fun v u s2 x y H2 I2 rx ry q => ?_)
  obtain ⟨i, j, rfl, rfl, q⟩ := q
  obtain ⟨t, rfl⟩ := rx
  obtain ⟨t', rfl⟩ := ry
  exact sub_int ⟨.int _, H2, I2.tok _, ⟨_, rfl⟩, q⟩
theorem pe_mul (ha : PE X a ta) (hb : PE X b tb) : PE X (.BinOp a .Mult b pos) (tMul ta tb) := by
  intro pins s σ H Q I h
  refine wpAny_BinOp (bin ha hb I h fun v u s2 x y H2 I2 rx ry q => ?_)
  obtain ⟨i, j, rfl, rfl, ⟨q1, q2⟩, q⟩ := q
  obtain ⟨t, rfl⟩ := rx
  obtain ⟨t', rfl⟩ := ry
  exact mul_int ⟨.int _, H2, I2.tok _, ⟨_, rfl⟩, q⟩ (.of_left (intBits_le_64 q1 q2))

/-! ### comparisons -/
def PC (X : Cx) (op : CmpOp) (a b : Expr) (t : TE) : Prop :=
  ∀ (pins : List (Addr × Obj)) (s : Shared) (σ : St) (H : Hp) (Q : VK), Inv X pins σ H s → t σ H Q →
    wpAny (model X.prog X.w) X.A (eval a X.env) (fun v s₁ => wpAny (model X.prog X.w) X.A (eval b X.env) (fun u s₂ => wpAny (model X.prog X.w) X.A (compareOp op v u) (EP X pins σ Q) X.xe s₂) X.xe s₁) X.xe s
theorem nobehind (b : Expr) {op : CmpOp} (h : op ≠ .In) (h2 : op ≠ .NotIn) : behindInMarks op b = false := by
  have e1 : (op == CmpOp.In) = false := by cases op <;> first | rfl | exact absurd rfl h
  have e2 : (op == CmpOp.NotIn) = false := by cases op <;> first | rfl | exact absurd rfl h2
  cases b <;> simp [behindInMarks, e1, e2]
def tCmp (p : Int → Int → Bool) (ta tb : TE) : TE := fun σ H Q => t2I ta tb (fun i j H2 => Q (.bl (p i j)) H2) σ H
abbrev tLt : TE → TE → TE := tCmp fun i j => decide (i < j)
abbrev tLe : TE → TE → TE := tCmp fun i j => decide (i ≤ j)
abbrev tGt : TE → TE → TE := tCmp fun i j => decide (j < i)
abbrev tGe : TE → TE → TE := tCmp fun i j => decide (j ≤ i)
abbrev tEqI : TE → TE → TE := tCmp fun i j => decide (i = j)
abbrev tNeI : TE → TE → TE := tCmp fun i j => !decide (i = j)
/-- a comparison of two ints, by its rule -/
theorem pc_int {op : CmpOp} {p : Int → Int → Bool} (ha : PE X a ta) (hb : PE X b tb)
    (rule : ∀ (i j : Int) (t u : Tok) (Q : Value → Shared → Prop) (s : Shared), Q (.bool (p i j)) s → wpAny (model X.prog X.w) X.A (compareOp op (.int i t) (.int j u)) Q X.xe s) : PC X op a b (tCmp p ta tb) := by
  intro pins s σ H Q I h
  refine bin ha hb I h fun v u s2 x y H2 I2 rx ry q => ?_
  obtain ⟨i, j, rfl, rfl, q⟩ := q
  obtain ⟨t, rfl⟩ := rx
  obtain ⟨t', rfl⟩ := ry
  exact rule i j t t' _ s2 ⟨.bl _, H2, I2, rfl, q⟩
theorem pc_lt (ha : PE X a ta) (hb : PE X b tb) : PC X .Lt a b (tLt ta tb) := pc_int ha hb fun _ _ _ _ _ _ h => lt_int h
theorem pc_le (ha : PE X a ta) (hb : PE X b tb) : PC X .LtE a b (tLe ta tb) := pc_int ha hb fun _ _ _ _ _ _ h => le_int h
theorem pc_gt (ha : PE X a ta) (hb : PE X b tb) : PC X .Gt a b (tGt ta tb) := pc_int ha hb fun _ _ _ _ _ _ h => gt_int h
theorem pc_ge (ha : PE X a ta) (hb : PE X b tb) : PC X .GtE a b (tGe ta tb) := pc_int ha hb fun _ _ _ _ _ _ h => ge_int h
theorem pc_eqI (ha : PE X a ta) (hb : PE X b tb) : PC X .Eq a b (tEqI ta tb) := pc_int ha hb fun _ _ _ _ _ _ h => eq_int (by rw [Bool.beq_eq_decide_eq]; exact h)
theorem pc_neI (ha : PE X a ta) (hb : PE X b tb) : PC X .NotEq a b (tNeI ta tb) := pc_int ha hb fun _ _ _ _ _ _ h => ne_int (by rw [bne, Bool.beq_eq_decide_eq]; exact h)
/-- is None -/
def tIsN (ta : TE) : TE := fun σ H Q => ta σ H fun x H1 => Q (.bl (decide (x = .non))) H1
def tNotN (ta : TE) : TE := fun σ H Q => ta σ H fun x H1 => Q (.bl (!decide (x = .non))) H1
theorem RelV.none_iff {x : V} {v : Value} (r : RelV x v) : (v == Value.none) = decide (x = .non) := by
  cases x with
  | non => cases r; rfl
  | bl _ => cases r; rfl
  | int _ => obtain ⟨t, rfl⟩ := r; rfl
  | str _ => obtain ⟨t, rfl⟩ := r; rfl
  | byt _ => obtain ⟨t, rfl⟩ := r; rfl
  | flt _ => obtain ⟨t, rfl⟩ := r; rfl
  | ref _ => cases r; rfl
  | ty _ => cases r; rfl
theorem pc_isN {j pos'} (ha : PE X a ta) : PC X .Is a (.Constant .none j pos') (tIsN ta) := by
  intro pins s σ H Q I h
  refine thn (ha pins s σ H _ I h) fun v s1 ⟨x, H1, I1, r1, q1⟩ => ?_
  exact Constant_none (is_none_gen ⟨.bl _, H1, I1, by rw [r1.none_iff]; rfl, q1⟩)
theorem pc_notN {j pos'} (ha : PE X a ta) : PC X .IsNot a (.Constant .none j pos') (tNotN ta) := by
  intro pins s σ H Q I h
  refine thn (ha pins s σ H _ I h) fun v s1 ⟨x, H1, I1, r1, q1⟩ => ?_
  exact Constant_none (isnot_none_gen ⟨.bl _, H1, I1, by rw [r1.none_iff]; rfl, q1⟩)
/-- a comparison as a value, as a test -/
def tB (t : TE) : TT := fun σ H Q => t σ H fun x H1 => ∃ c, x = .bl c ∧ Q c H1
theorem pe_cmp {op : CmpOp} {t : TE} (h : PC X op a b t) (h1 : behindInMarks op b = false := by first | exact nobehind _ (by decide) (by decide) | rfl) : PE X (.Compare a [op] [b] pos) t := fun pins s σ H Q I hw => wpAny_Compare1 (h pins s σ H Q I hw) h1
theorem pt_cmp {op : CmpOp} {t : TE} (h : PC X op a b t) (h1 : behindInMarks op b = false := by first | exact nobehind _ (by decide) (by decide) | rfl) : PT X (.Compare a [op] [b] pos) (tB t) := by
  intro pins s σ H Q I hw
  refine wpAny_isTrue_Compare1 (thn (h pins s σ H _ I hw) fun v s1 h1 => thn h1 fun u s2 h2 => thn h2 fun c s3 ⟨x, H1, I1, r1, q1⟩ => ?_) h1
  obtain ⟨d, rfl, q⟩ := q1
  cases r1
  exact wpAny_truthy_bool ⟨H1, I1, q⟩
/-- an expression whose value is a bool, as a test -/
theorem pt_val {e : Expr} {t : TE} (h : PE X e t) (he : ∀ whole, isTrue e X.env whole = (do let v ← whole; standAt e.pos; holding [v] (truthy v)) := by intro _; rfl) : PT X e (tB t) := by
  intro pins s σ H Q I hw
  refine isTrue_plain (thn (h pins s σ H _ I hw) fun v s1 ⟨x, H1, I1, r1, q1⟩ => ?_) (he _)
  obtain ⟨d, rfl, q⟩ := q1
  cases r1
  exact wpAny_truthy_bool ⟨H1, I1, q⟩

/-! ### and, or, not -/
variable {tA tB' : TT} {rest : List Expr}
def tAnd (t u : TT) : TT := fun σ H Q => t σ H fun c H1 => if c = true then u σ H1 Q else Q false H1
def tOr (t u : TT) : TT := fun σ H Q => t σ H fun c H1 => if c = true then Q true H1 else u σ H1 Q
def tNot (t : TT) : TT := fun σ H Q => t σ H fun c H1 => Q (!c) H1
theorem pw_and1 (ha : PT X a tA) : PW X (.BoolOp .And [a] pos) tA := by
  intro wh pins s σ H Q I h
  refine isTrue_and (thn (ha pins s σ H Q I h) fun c s1 e => ?_)
  cases c with
  | true => exact isTrue_and_nil e
  | false => exact e
theorem pw_or1 (ha : PT X a tA) : PW X (.BoolOp .Or [a] pos) tA := by
  intro wh pins s σ H Q I h
  refine isTrue_or (thn (ha pins s σ H Q I h) fun c s1 e => ?_)
  cases c with
  | false => exact isTrue_or_nil e
  | true => exact e
theorem pw_and (ha : PT X a tA) (hb : PW X (.BoolOp .And (b :: rest) pos) tB') : PW X (.BoolOp .And (a :: b :: rest) pos) (tAnd tA tB') := by
  intro wh pins s σ H Q I h
  refine isTrue_and (thn (ha pins s σ H _ I h) fun c s1 ⟨H1, I1, q1⟩ => ?_)
  cases c with
  | true => exact hb wh pins s1 σ H1 Q I1 q1
  | false => exact ⟨H1, I1, q1⟩
theorem pw_or (ha : PT X a tA) (hb : PW X (.BoolOp .Or (b :: rest) pos) tB') : PW X (.BoolOp .Or (a :: b :: rest) pos) (tOr tA tB') := by
  intro wh pins s σ H Q I h
  refine isTrue_or (thn (ha pins s σ H _ I h) fun c s1 ⟨H1, I1, q1⟩ => ?_)
  cases c with
  | true => exact ⟨H1, I1, q1⟩
  | false => exact hb wh pins s1 σ H1 Q I1 q1
theorem pt_not (ha : PT X a tA) : PT X (.UnaryOp .Not a pos) (tNot tA) := by
  intro pins s σ H Q I h
  exact isTrue_not (ha pins s σ H (fun c H1 => Q (!c) H1) I h)
/-- .. as values (bools) -/
def tAndV (ta tb : TE) : TE := fun σ H Q => ta σ H fun x H1 => ∃ c, x = .bl c ∧ if c = true then tb σ H1 Q else Q (.bl false) H1
def tOrV (ta tb : TE) : TE := fun σ H Q => ta σ H fun x H1 => ∃ c, x = .bl c ∧ if c = true then Q (.bl true) H1 else tb σ H1 Q
def tNotV (ta : TE) : TE := fun σ H Q => ta σ H fun x H1 => ∃ c, x = .bl c ∧ Q (.bl (!c)) H1
theorem pe_one {op} {t : TE} (h : PE X a t) : PE X (.BoolOp op [a] pos) t := fun pins s σ H Q I hw => BoolOp_one (h pins s σ H Q I hw)
theorem pe_and (ha : PE X a ta) (hb : PE X (.BoolOp .And (b :: rest) pos) tb) : PE X (.BoolOp .And (a :: b :: rest) pos) (tAndV ta tb) := by
  intro pins s σ H Q I h
  refine BoolOp_and (thn (ha pins s σ H _ I h) fun v s1 ⟨x, H1, I1, r1, q1⟩ => ?_)
  obtain ⟨c, rfl, q1⟩ := q1
  cases r1
  refine wpAny_truthy_bool ?_
  cases c with
  | true => exact hb pins s1 σ H1 Q I1 q1
  | false => exact ⟨.bl false, H1, I1, rfl, q1⟩
theorem pe_or (ha : PE X a ta) (hb : PE X (.BoolOp .Or (b :: rest) pos) tb) : PE X (.BoolOp .Or (a :: b :: rest) pos) (tOrV ta tb) := by
  intro pins s σ H Q I h
  refine BoolOp_or (thn (ha pins s σ H _ I h) fun v s1 ⟨x, H1, I1, r1, q1⟩ => ?_)
  obtain ⟨c, rfl, q1⟩ := q1
  cases r1
  refine wpAny_truthy_bool ?_
  cases c with
  | false => exact hb pins s1 σ H1 Q I1 q1
  | true => exact ⟨.bl true, H1, I1, rfl, q1⟩
theorem pe_not (ha : PE X a ta) : PE X (.UnaryOp .Not a pos) (tNotV ta) := by
  intro pins s σ H Q I h
  refine UnaryOp_ (thn (ha pins s σ H _ I h) fun v s1 ⟨x, H1, I1, r1, q1⟩ => ?_)
  obtain ⟨c, rfl, q1⟩ := q1
  cases r1
  exact not_of (wpAny_truthy_bool ⟨.bl (!c), H1, I1, rfl, q1⟩)
/-- a if t else b -/
def tIf (t : TT) (ta tb : TE) : TE := fun σ H Q => t σ H fun c H1 => if c = true then ta σ H1 Q else tb σ H1 Q
theorem pe_ifExp {c : Expr} (hc : PT X c tA) (ha : PE X a ta) (hb : PE X b tb) : PE X (.IfExp c a b pos) (tIf tA ta tb) := by
  intro pins s σ H Q I h
  refine wpAny_IfExp (thn (hc pins s σ H _ I h) fun d s1 ⟨H1, I1, q1⟩ => ?_)
  cases d with
  | true => exact ha pins s1 σ H1 Q I1 q1
  | false => exact hb pins s1 σ H1 Q I1 q1
end
end L2

namespace L2
open PySem PySem.Spec PyProof.Rows

/-! ### a list, a tuple that is read: tracked, frozen, or an object of the module -/
def SqL (K : PySem.W.Frag) (H : Hp) (a : Addr) (xs : List V) : Prop :=
  Rd H a (.lst xs) ∨
    ∃ (o : Obj) (its : Array Value) (n : Nat), K.lookup a = some o ∧ o.cls = .type "list" ∧ o.dict = none ∧ o.data = .seq its n ∧ its.size ≤ sizeLine ∧ Vals xs its.toList
def SqT (K : PySem.W.Frag) (H : Hp) (a : Addr) (xs : List V) : Prop :=
  Rd H a (.tup xs) ∨
    ∃ (o : Obj) (its : Array Value) (n : Nat), K.lookup a = some o ∧ o.cls = .type "tuple" ∧ o.data = .seq its n ∧ its.size ≤ sizeLine ∧ Vals xs its.toList
def absV : Value → Option V
  | .none => some .non
  | .bool b => some (.bl b)
  | .int i _ => some (.int i)
  | .str x _ => some (.str x)
  | .bytes b _ => some (.byt b)
  | .float b _ => some (.flt b)
  | .ref a => some (.ref a)
  | .type n => some (.ty n)
  | _ => none
theorem RelV.abs {x : V} {u : Value} (r : RelV x u) : absV u = some x := by
  cases x with
  | non => cases r; rfl
  | bl _ => cases r; rfl
  | int _ => obtain ⟨t, rfl⟩ := r; rfl
  | str _ => obtain ⟨t, rfl⟩ := r; rfl
  | byt _ => obtain ⟨t, rfl⟩ := r; rfl
  | flt _ => obtain ⟨t, rfl⟩ := r; rfl
  | ref _ => cases r; rfl
  | ty _ => cases r; rfl
theorem RelV.inj {x y : V} {u : Value} (r : RelV x u) (q : RelV y u) : x = y := Option.some.inj (r.abs.symm.trans q.abs)
theorem Vals.inj : ∀ {xs ys : List V} {us : List Value}, Vals xs us → Vals ys us → xs = ys
  | _, _, _, .nil, .nil => rfl
  | _, _, _, .cons r t, .cons r' t' => by rw [r.inj r', Vals.inj t t']
section
variable {X : Cx} {pins : List (Addr × Obj)} {σ : St} {H : Hp} {s : Shared} {a : Addr} {xs ys : List V}
theorem SqL.of {K : PySem.W.Frag} (h : H a = some (.lst xs)) : SqL K H a xs := .inl (.inl h)
theorem SqT.of {K : PySem.W.Frag} (h : H a = some (.tup xs)) : SqT K H a xs := .inl (.inl h)
theorem Inv.list (I : Inv X pins σ H s) (h : SqL X.K H a xs) : ∃ its : List Value, Vals xs its ∧ PlainL s.heap a its.toArray ∧ xs.length ≤ sizeLine := by
  rcases h with h | ⟨o, its, n, hk, hc, hd, hs, hz, r⟩
  · obtain ⟨z, its, n, r, e⟩ := h.ok I.hok
    exact ⟨its, r, ⟨_, n, e, rfl, rfl, rfl⟩, z⟩
  · refine ⟨its.toList, r, ⟨o, n, I.kIn a o hk, hc, hd, by simpa using hs⟩, ?_⟩
    have e := r.length
    simp only [Array.length_toList] at e
    omega
theorem Inv.tuple (I : Inv X pins σ H s) (h : SqT X.K H a xs) : ∃ its : List Value, Vals xs its ∧ IsTup s.heap a its.toArray ∧ xs.length ≤ sizeLine := by
  rcases h with h | ⟨o, its, n, hk, hc, hs, hz, r⟩
  · obtain ⟨z, its, r, p⟩ := h.ok I.hok
    exact ⟨its, r, p, z⟩
  · refine ⟨its.toList, r, ⟨o, I.kIn a o hk, hc, n, by simpa using hs⟩, ?_⟩
    have e := r.length
    simp only [Array.length_toList] at e
    omega
theorem Inv.list_inj (I : Inv X pins σ H s) (h : SqL X.K H a xs) (h' : SqL X.K H a ys) : xs = ys := by
  obtain ⟨its, r, ⟨o, n, e, _, _, d⟩, _⟩ := I.list h
  obtain ⟨its', r', ⟨o', n', e', _, _, d'⟩, _⟩ := I.list h'
  rw [e] at e'; cases e'
  rw [d] at d'
  injection d' with d1 _
  have : its = its' := by simpa using congrArg Array.toList d1
  subst this
  exact r.inj r'
theorem Inv.tuple_inj (I : Inv X pins σ H s) (h : SqT X.K H a xs) (h' : SqT X.K H a ys) : xs = ys := by
  obtain ⟨its, r, ⟨o, e, _, n, d⟩, _⟩ := I.tuple h
  obtain ⟨its', r', ⟨o', e', _, n', d'⟩, _⟩ := I.tuple h'
  rw [e] at e'; cases e'
  rw [d] at d'
  injection d' with d1 _
  have : its = its' := by simpa using congrArg Array.toList d1
  subst this
  exact r.inj r'
end

/-! ### another wish about exceptions -/
abbrev Cx.wish (X : Cx) (E : Value → Shared → Prop) : Cx := { X with xe := E }
/-- no exception leaves -/
abbrev Cx.nox (X : Cx) : Cx := X.wish fun _ _ => False
theorem Cx.Ok.wish {X : Cx} (ok : X.Ok) (E : Value → Shared → Prop) : (X.wish E).Ok :=
  ⟨ok.mod, ok.kind, ok.glob, ok.blt, ok.above, ok.inj, ok.has, ok.cab, ok.hd, ok.frames, ok.stk, ok.exf, ok.bs, ok.bsz, ok.noex, ok.exfs, ok.funs, ok.frf⟩
theorem Cx.Ok.unwish {X : Cx} {E : Value → Shared → Prop} (ok : (X.wish E).Ok) : X.Ok :=
  ⟨ok.mod, ok.kind, ok.glob, ok.blt, ok.above, ok.inj, ok.has, ok.cab, ok.hd, ok.frames, ok.stk, ok.exf, ok.bs, ok.bsz, ok.noex, ok.exfs, ok.funs, ok.frf⟩
section
variable {X : Cx} {pins : List (Addr × Obj)} {σ : St} {H : Hp} {s : Shared} {E : Value → Shared → Prop}
theorem Inv.wish (I : Inv X pins σ H s) (E : Value → Shared → Prop) : Inv (X.wish E) pins σ H s := ⟨I.ok.wish E, I.os, I.bare, I.base, I.loc, I.cell, I.free, I.freeC, I.pin, I.hok, I.len⟩
theorem Inv.unwish (I : Inv (X.wish E) pins σ H s) : Inv X pins σ H s := ⟨I.ok.unwish, I.os, I.bare, I.base, I.loc, I.cell, I.free, I.freeC, I.pin, I.hok, I.len⟩
theorem SP.unwish {D : Ends} {f : Flow} {s' : Shared} (h : SP (X.wish E) pins D f s') : SP X pins D f s' := by
  cases f with
  | next => obtain ⟨σ', H', I, q⟩ := h; exact ⟨σ', H', I.unwish, q⟩
  | brk => obtain ⟨σ', H', I, q⟩ := h; exact ⟨σ', H', I.unwish, q⟩
  | cont => obtain ⟨σ', H', I, q⟩ := h; exact ⟨σ', H', I.unwish, q⟩
  | ret u => obtain ⟨v, σ', H', I, r, q⟩ := h; exact ⟨v, σ', H', I.unwish, r, q⟩
theorem PE.nox {e : Expr} {t : TE} (h : PE X.nox e t) : PE X e t := fun pins s σ H Q I hw =>
  wpAny_mono (h pins s σ H Q (I.wish _) hw) (fun _ _ ⟨v, H', I', r, q⟩ => ⟨v, H', I'.unwish, r, q⟩) fun _ _ z => False.elim z
theorem PT.nox {e : Expr} {t : TT} (h : PT X.nox e t) : PT X e t := fun pins s σ H Q I hw =>
  wpAny_mono (h pins s σ H Q (I.wish _) hw) (fun _ _ ⟨H', I', q⟩ => ⟨H', I'.unwish, q⟩) fun _ _ z => False.elim z
theorem PSs.nox {st : List Stmt} {t : TS} (h : PSs X.nox st t) : PSs X st t := fun pins s σ H D I hw =>
  wpAny_mono (h pins s σ H D (I.wish _) hw) (fun _ _ q => q.unwish) fun _ _ z => False.elim z
end

/-! ### blocks and small statements -/
section
variable {X : Cx} {st : Stmt} {rest : List Stmt} {t u : TS} {e : Expr} {te : TE} {pos : Pos}
def tNext : TS := fun D σ H => D.nx σ H
def tSeq (t u : TS) : TS := fun D σ H => t { D with nx := u D } σ H
theorem pss_nil : PSs X [] tNext := fun _ _ σ H _ I h => wpAny_execs_nil ⟨σ, H, I, h⟩
theorem pss_cons (h1 : PS X st t) (h2 : PSs X rest u) : PSs X (st :: rest) (tSeq t u) := by
  intro pins s σ H D I h
  refine wpAny_execs_cons (thn (h1 pins s σ H { D with nx := u D } I h) fun f s1 q => ?_)
  cases f with
  | next =>
    obtain ⟨σ', H', I', q⟩ := q
    exact h2 pins s1 σ' H' D I' q
  | ret v => exact q
  | brk => exact q
  | cont => exact q
theorem pss_one (h1 : PS X st t) : PSs X [st] t := by
  intro pins s σ H D I h
  refine wpAny_execs_cons (thn (h1 pins s σ H D I h) fun f s1 q => ?_)
  cases f with
  | next => exact wpAny_execs_nil q
  | ret v => exact q
  | brk => exact q
  | cont => exact q
def tBreak : TS := fun D σ H => D.bk σ H
def tCont : TS := fun D σ H => D.ct σ H
theorem ps_pass : PS X (.Pass pos) tNext := fun _ _ σ H _ I h => wpAny_Pass ⟨σ, H, I, h⟩
theorem ps_break : PS X (.Break pos) tBreak := fun _ _ σ H _ I h => wpAny_Break ⟨σ, H, I, h⟩
theorem ps_continue : PS X (.Continue pos) tCont := fun _ _ σ H _ I h => wpAny_Continue ⟨σ, H, I, h⟩
/-- in a def's body nothing is shown -/
theorem Inv.quiet {pins : List (Addr × Obj)} {σ : St} {H : Hp} {s : Shared} (I : Inv X pins σ H s) : interactive X.env = false := by simp [interactive, I.ok.kind]
/-- a docstring -/
theorem ps_doc {x j pos pos'} : PS X (.Expr (.Constant (.str x) j pos) pos') tNext := fun _ s σ H _ I h => wpAny_Expr (Calls.Constant_str (show SP X _ _ .next { s with toks := s.toks + 1 } from ⟨σ, H, I.tok _, h⟩)) I.quiet
/-- an expression whose value is dropped -/
def tDrop (te : TE) : TS := fun D σ H => te σ H fun _ H1 => D.nx σ H1
theorem ps_expr (he : PE X e te) (hs : swapsWith e none pos.line X.env = pure false := by rfl) : PS X (.Expr e pos) (tDrop te) := by
  intro pins s σ H D I h
  exact wpAny_Expr_any (thn (he pins s σ H _ I h) fun v s1 ⟨x, H1, I1, r1, q1⟩ => ⟨σ, H1, I1, q1⟩) I.quiet hs
def tRet (te : TE) : TS := fun D σ H => te σ H D.rt
theorem ps_ret (he : PE X e te) : PS X (.Return (some e) pos) (tRet te) := by
  intro pins s σ H D I h
  exact wpAny_Return_some (thn (he pins s σ H _ I h) fun v s1 ⟨x, H1, I1, r1, q1⟩ => ⟨x, σ, H1, I1, r1, q1⟩)
def tRetN : TS := fun D _ H => D.rt .non H
theorem ps_retN : PS X (.Return none pos) tRetN := fun _ _ σ H _ I h => wpAny_Return_none ⟨.non, σ, H, I, rfl, h⟩
def tIfS (c : TT) (t u : TS) : TS := fun D σ H => c σ H fun b H1 => if b = true then t D σ H1 else u D σ H1
theorem ps_if {c : Expr} {a b : List Stmt} {tc : TT} (hc : PT X c tc) (ha : PSs X a t) (hb : PSs X b u) : PS X (.If c a b pos) (tIfS tc t u) := by
  intro pins s σ H D I h
  refine wpAny_If (thn (hc pins s σ H _ I h) fun d s1 ⟨H1, I1, q1⟩ => ?_)
  cases d with
  | true => exact ha pins s1 σ H1 D I1 q1
  | false => exact hb pins s1 σ H1 D I1 q1
/-- code that the proof never comes to -/
def tNever : TS := fun _ _ _ => False
theorem ps_never : PS X st tNever := fun _ _ _ _ _ _ h => h.elim
theorem pss_never {sts : List Stmt} : PSs X sts tNever := fun _ _ _ _ _ _ h => h.elim
end

/-! ### targets -/
abbrev TG := V → St → Hp → (St → Hp → Prop) → Prop
abbrev TGs := List V → St → Hp → (St → Hp → Prop) → Prop
def PG (X : Cx) (target : Expr) (t : TG) : Prop :=
  ∀ (pins : List (Addr × Obj)) (s : Shared) (σ : St) (H : Hp) (v : V) (u : Value) (Q : St → Hp → Prop), Inv X pins σ H s → RelV v u → t v σ H Q →
    wpAny (model X.prog X.w) X.A (assign target X.env u) (fun _ s' => ∃ σ' H', Inv X pins σ' H' s' ∧ Q σ' H') X.xe s
/-- several targets, one after another -/
def PGs (X : Cx) (ts : List Expr) (t : TGs) : Prop :=
  ∀ (pins : List (Addr × Obj)) (s : Shared) (σ : St) (H : Hp) (vs : List V) (us : List Value) (Q : St → Hp → Prop), Inv X pins σ H s → Vals vs us → t vs σ H Q →
    wpAny (model X.prog X.w) X.A (assignInOrder ((assignEach ts X.env).map (·.2)) us) (fun _ s' => ∃ σ' H', Inv X pins σ' H' s' ∧ Q σ' H') X.xe s
/-- o[i] = v, by values -/
abbrev TSet := V → V → V → Hp → (Hp → Prop) → Prop
def PSet (X : Cx) (t : TSet) : Prop :=
  ∀ (pins : List (Addr × Obj)) (s : Shared) (σ : St) (H : Hp) (o i v : V) (ov iv u : Value) (Q : Hp → Prop), Inv X pins σ H s → RelV o ov → RelV i iv → RelV v u → t o i v H Q →
    wpAny (model X.prog X.w) X.A (setItem ov iv u) (fun _ s' => ∃ H', Inv X pins σ H' s' ∧ Q H') X.xe s
/-- a op= b, by values -/
abbrev TIp := V → V → Hp → VK → Prop
def PIp (X : Cx) (op : Operator) (t : TIp) : Prop :=
  ∀ (pins : List (Addr × Obj)) (s : Shared) (σ : St) (H : Hp) (x y : V) (v u : Value) (Q : VK), Inv X pins σ H s → RelV x v → RelV y u → t x y H Q →
    wpAny (model X.prog X.w) X.A (inplaceOp op v u) (EP X pins σ Q) X.xe s
section
variable {X : Cx} {pos : Pos}
def gName (i : Nat) : TG := fun v σ H Q => Q (σ.set i (some v)) H
theorem pg_name {i : Nat} {x : Str} (hN : X.N.Nodup) (hi : X.N[i]? = some x) (hx : Loc X.env.scope x) (hf : X.fn x = true ∨ X.env.scope.names.lookup x = some .local := by first | exact .inl rfl | exact .inr rfl | assumption) : PG X (.Name x pos) (gName i) := by
  intro pins s σ H v u Q I r h
  exact wpAny_assign_Name (store_ok I hN hi hx r (fun s' I' => ⟨_, H, I', h⟩) hf)
def gNil : TGs := fun vs σ H Q => vs = [] ∧ Q σ H
def gCons (t : TG) (u : TGs) : TGs := fun vs σ H Q => ∃ v r, vs = v :: r ∧ t v σ H fun σ' H' => u r σ' H' Q
theorem pgs_nil : PGs X [] gNil := by
  intro pins s σ H vs us Q I r h
  obtain ⟨e, h⟩ := h
  subst e
  cases r
  exact assignInOrder_nil ⟨σ, H, I, h⟩
theorem pgs_cons {e : Expr} {es : List Expr} {t : TG} {u : TGs} (h1 : PG X e t) (h2 : PGs X es u)
    (hs : (assignEach (e :: es) X.env).map (·.2) = assign e X.env :: (assignEach es X.env).map (·.2) := by rfl) : PGs X (e :: es) (gCons t u) := by
  intro pins s σ H vs us Q I r h
  obtain ⟨v, vr, e1, h⟩ := h
  subst e1
  cases r with
  | cons r rr =>
    rw [hs]
    refine assignInOrder_cons (thn (h1 pins s σ H _ _ _ I r h) fun _ s1 ⟨σ1, H1, I1, q1⟩ => ?_)
    exact h2 pins s1 σ1 H1 _ _ Q I1 rr q1
/-- (a, b, ..) = a tuple of that length -/
def gTup (K : PySem.W.Frag) (n : Nat) (t : TGs) : TG := fun v σ H Q => ∃ a xs, v = .ref a ∧ SqT K H a xs ∧ xs.length = n ∧ t xs σ H Q
theorem pg_tup {es : List Expr} {k : Nat} {t : TGs} {n : Nat} (hc : X.calm = true) (h : PGs X es t)
    (hn : (assignEach es X.env).length = n := by rfl) (hst : (assignEach es X.env).findIdx? (·.1) = none := by rfl) : PG X (.Tuple es k pos) (gTup X.K n t) := by
  intro pins s σ H v u Q I r hw
  obtain ⟨a, xs, e1, hq, hl, hw⟩ := hw
  subst e1
  cases r
  obtain ⟨its, rv, ht, hz⟩ := I.tuple hq
  refine assign_Tuple_tuple (I.ok.hd hc) ht (by simp [hn, ← hl, rv.length]) hst fun h' hx => ?_
  have I1 : Inv X pins σ H { s with heap := h' } := I.kept (t' := s.toks) fun b o e => hx b o (Nat.ne_of_lt (Heap.lt_size e)) e
  exact h pins _ σ H xs _ Q I1 (by simpa using rv) hw
/-- o[i] = .. -/
def gSub (to ti : TE) (t : TSet) : TG := fun v σ H Q => to σ H fun o H1 => ti σ H1 fun i H2 => t o i v H2 fun H3 => Q σ H3
theorem pg_sub {o i : Expr} {to ti : TE} {t : TSet} (ho : PE X o to) (hi : PE X i ti) (hs : PSet X t)
    (ha : ∀ v, assign (.Subscript o i pos) X.env v = (do
      let ov ← holding [v] (eval o X.env)
      let iv ← holding [v, ov] (eval i X.env)
      standAt pos
      holding [v, ov, iv] (setItem ov iv v)
      release [v, ov, iv] []) := by intro _; rfl) : PG X (.Subscript o i pos) (gSub to ti t) := by
  intro pins s σ H v u Q I r h
  rw [ha]
  refine wpAny_bind (wpAny_holding (thn (ho pins s σ H _ I h) fun ov s1 ⟨x, H1, I1, r1, q1⟩ => ?_))
  refine wpAny_bind (wpAny_holding (thn (hi pins s1 σ H1 _ I1 q1) fun iv s2 ⟨y, H2, I2, r2, q2⟩ => ?_))
  refine wpAny_bind (wpAny_standAt (wpAny_bind (wpAny_holding (thn (hs pins s2 σ H2 x y v ov iv u _ I2 r1 r2 r q2) fun _ s3 ⟨H3, I3, q3⟩ => ?_))))
  exact wpAny_release ⟨σ, H3, I3, q3⟩
/-- target = value -/
def tAsg (te : TE) (g : TG) : TS := fun D σ H => te σ H fun x H1 => g x σ H1 D.nx
theorem ps_asg {tg e : Expr} {te : TE} {g : TG} (he : PE X e te) (hg : PG X tg g) (hs : swapsWithSole [tg] e pos.line X.env = pure false := by rfl) (hw : swappedStores [tg] e X.env = pure none := by rfl)
    (h1 : (assignEach [tg] X.env).map (·.2) = [assign tg X.env] := by rfl) : PS X (.Assign [tg] e pos) (tAsg te g) := by
  intro pins s σ H D I h
  refine wpAny_Assign_stores (thn (he pins s σ H _ I h) fun v s1 ⟨x, H1, I1, r1, q1⟩ => ?_) hs hw
  rw [h1]
  exact thn (hg pins s1 σ H1 x v _ I1 r1 q1) fun _ s2 q => q
/-- name = value -/
theorem ps_set {i : Nat} {x : Str} {e : Expr} {te : TE} {pos' : Pos} (hN : X.N.Nodup) (hi : X.N[i]? = some x) (hx : Loc X.env.scope x) (he : PE X e te) (hs : swapsWith e (some (.Name x pos')) pos.line X.env = pure false := by rfl) (hf : X.fn x = true ∨ X.env.scope.names.lookup x = some .local := by first | exact .inl rfl | exact .inr rfl | assumption) :
    PS X (.Assign [.Name x pos'] e pos) (tAsg te (gName i)) := by
  intro pins s σ H D I h
  refine wpAny_Assign_Name (thn (he pins s σ H _ I h) fun v s1 ⟨y, H1, I1, r1, q1⟩ => ?_) hs
  exact store_ok I1 hN hi hx r1 (fun s2 I2 => ⟨_, H1, I2, q1⟩) hf
/-- a, b = x, y with plain local names: stored from the right; the pair itself is not tracked (the opening rows as in PyProof/Rows/TupAssign.lean:23) -/
def tPar (i j : Nat) (ta : TA) : TS := fun D σ H => ta σ H fun vs H1 => ∃ v w, vs = [v, w] ∧ D.nx ((σ.set i (some v)).set j (some w)) H1
theorem ps_par {i j : Nat} {x y : Str} {a b : Expr} {ta : TA} {px py pt : Pos} {kt k2 pt2} (hc : X.calm = true) (hN : X.N.Nodup) (hi : X.N[i]? = some x) (hj : X.N[j]? = some y) (hij : i ≠ j)
    (hx : X.env.scope.names.lookup x = some .local) (hy : X.env.scope.names.lookup y = some .local) (ha : PA X [a, b] ta)
    (hw : swappedStores [.Tuple [.Name x px, .Name y py] kt pt] (.Tuple [a, b] k2 pt2) X.env = pure (some [x, y]))
    (hs : swapsWithSole [.Tuple [.Name x px, .Name y py] kt pt] (.Tuple [a, b] k2 pt2) pos.line X.env = pure false := by rfl) :
    PS X (.Assign [.Tuple [.Name x px, .Name y py] kt pt] (.Tuple [a, b] k2 pt2) pos) (tPar i j ta) := by
  intro pins s σ H D I h
  rw [exec_Assign_arm]
  refine wpAny_bind (wpAny_standAt ?_)
  rw [hs]
  refine wpAny_bind (wpAny_pure ?_)
  rw [if_neg (by decide)]
  refine wpAny_bind (Tuple_ (thn (ha _ pins s σ H _ I h) fun us s1 ⟨vs, H1, I1, r1, q1⟩ => ?_))
  obtain ⟨v, w, e1, q1⟩ := q1
  subst e1
  obtain ⟨u1, u2, rfl, rv, rw'⟩ : ∃ u1 u2, us = [u1, u2] ∧ RelV v u1 ∧ RelV w u2 := by
    cases r1 with
    | cons p q =>
      cases q with
      | cons p' q' =>
        cases q'
        exact ⟨_, _, rfl, p, p'⟩
  refine wpAny_newObj_type ?_ (by show 2 ≤ sizeLine; decide)
  have I2 : Inv X pins σ H1 { s1 with heap := s1.heap.push { cls := .type "tuple", data := .seq [u1, u2].toArray } } := I1.kept (t' := s1.toks) fun b o e => Heap.get?_push_of_some _ e
  rw [hw]
  refine wpAny_bind (wpAny_pure ?_)
  show wpAny (model X.prog X.w) X.A (do rule "assign.swapped-stores"; let items ← unpackItems (.ref s1.heap.objs.size) 2 none; assignInOrder [fun v => bindName X.env y v, fun v => bindName X.env x v] items.reverse; pure Flow.next) _ _ _
  refine wpAny_bind (wpAny_rule (wpAny_bind (unpackItems_tuple (items := #[u1, u2]) (I.ok.hd hc) (IsTup.new s1.heap _) fun h' hx' => ?_)))
  have I3 := I2.kept (h' := h') (t' := s1.toks) fun b o e => hx' b o (Nat.ne_of_lt (Heap.lt_size e)) e
  show wpAny _ _ (assignInOrder [fun v => bindName X.env y v, fun v => bindName X.env x v] [u2, u1] >>= fun _ => pure Flow.next) _ _ _
  refine wpAny_bind (assignInOrder_cons (wpAny_bindName (store_ok I3 hN hj (.inl hy) rw' (fun s2 I4 => ?_) (.inr hy))))
  refine assignInOrder_cons (wpAny_bindName (store_ok I4 hN hi (.inl hx) rv (fun s3 I5 => assignInOrder_nil (wpAny_pure ?_)) (.inr hx)))
  rw [List.set_comm _ _ (Ne.symm hij)] at I5
  exact ⟨_, H1, I5, q1⟩
/-- name op= e -/
def tAug (i : Nat) (te : TE) (ti : TIp) : TS := fun D σ H => ∃ x, σ[i]? = some (some x) ∧ te σ H fun y H1 => ti x y H1 fun z H2 => D.nx (σ.set i (some z)) H2
theorem ps_aug {i : Nat} {x : Str} {e : Expr} {te : TE} {op : Operator} {ti : TIp} {pos' : Pos} (hN : X.N.Nodup) (hi : X.N[i]? = some x) (hx : Loc X.env.scope x) (he : PE X e te) (ho : PIp X op ti) (hf : X.fn x = true ∨ X.env.scope.names.lookup x = some .local := by first | exact .inl rfl | exact .inr rfl | assumption) :
    PS X (.AugAssign (.Name x pos') op e pos) (tAug i te ti) := by
  intro pins s σ H D I h
  obtain ⟨v, e1, h⟩ := h
  obtain ⟨m, hn, hl⟩ := I.loc
  have vis : Vis X.env.scope x := by rcases hx with k | k; exact .inl k; exact .inr (.inl k)
  obtain ⟨u, r, l⟩ := hl i x v hi e1 vis
  refine wpAny_AugAssign_Name ?_
  have go : wpAny (model X.prog X.w) X.A (eval e X.env) (fun w s₂ => wpAny (model X.prog X.w) X.A (inplaceOp op u w) (fun r s₃ => wpAny (model X.prog X.w) X.A (storeName X.env x r) (fun _ => SP X pins D .next) X.xe s₃) X.xe s₂) X.xe s := by
    refine thn (he pins s σ H _ I h) fun w s1 ⟨y, H1, I1, r1, q1⟩ => ?_
    refine thn (ho pins s1 σ H1 v y u w _ I1 r r1 q1) fun z s2 ⟨zv, H2, I2, r2, q2⟩ => ?_
    exact store_ok I2 hN hi hx r2 (fun s3 I3 => ⟨_, H2, I3, q2⟩) hf
  rcases l with ⟨hk, hm⟩ | ⟨hk, c, hc, hcell⟩
  · exact wpAny_loadName_local I.ok.kind hk hn hm go
  · rcases hk with hk | hk
    · exact wpAny_loadName_cell I.ok.kind hk hc hcell go
    · rcases hx with k | k
      · have : X.env.scope.names.lookup x = some .free := hk
        rw [k] at this; cases this
      · have : X.env.scope.names.lookup x = some .free := hk
        rw [k] at this; cases this
/-- o[i] op= e -/
def tAugS (to ti te : TE) (tget : V → V → Hp → VK → Prop) (tip : TIp) (tset : TSet) : TS := fun D σ H => to σ H fun o H1 => ti σ H1 fun i H2 => tget o i H2 fun x H3 => te σ H3 fun y H4 => tip x y H4 fun z H5 => tset o i z H5 fun H6 => D.nx σ H6
/-- o[i], by values -/
def PGet (X : Cx) (t : V → V → Hp → VK → Prop) : Prop :=
  ∀ (pins : List (Addr × Obj)) (s : Shared) (σ : St) (H : Hp) (o i : V) (ov iv : Value) (Q : VK), Inv X pins σ H s → RelV o ov → RelV i iv → t o i H Q →
    wpAny (model X.prog X.w) X.A (getItem ov iv) (EP X pins σ Q) X.xe s
theorem ps_augS {o i e : Expr} {to ti te : TE} {tget : V → V → Hp → VK → Prop} {tip : TIp} {tset : TSet} {op : Operator} {tpos : Pos} (ho : PE X o to) (hi : PE X i ti) (hg : PGet X tget) (he : PE X e te) (hp : PIp X op tip) (hs : PSet X tset)
    (ha : ∀ ov iv new, augStore i ov iv new = (do holding [new, ov, iv] (setItem ov iv new); release [new, ov, iv] []; pure .next) := by intros; rfl) : PS X (.AugAssign (.Subscript o i tpos) op e pos) (tAugS to ti te tget tip tset) := by
  intro pins s σ H D I h
  refine wpAny_AugAssign_SubscriptAny (thn (ho pins s σ H _ I h) fun ov s1 ⟨x1, H1, I1, r1, q1⟩ => ?_) ha
  refine thn (hi pins s1 σ H1 _ I1 q1) fun iv s2 ⟨x2, H2, I2, r2, q2⟩ => ?_
  refine thn (hg pins s2 σ H2 x1 x2 ov iv _ I2 r1 r2 q2) fun old s3 ⟨x3, H3, I3, r3, q3⟩ => ?_
  refine thn (he pins s3 σ H3 _ I3 q3) fun v s4 ⟨x4, H4, I4, r4, q4⟩ => ?_
  refine thn (hp pins s4 σ H4 x3 x4 old v _ I4 r3 r4 q4) fun new s5 ⟨x5, H5, I5, r5, q5⟩ => ?_
  exact thn (hs pins s5 σ H5 x1 x2 x5 ov iv new _ I5 r1 r2 r5 q5) fun _ s6 ⟨H6, I6, q6⟩ => ⟨σ, H6, I6, q6⟩
/-- ints -/
def ipI (f : Int → Int → Int) : TIp := fun x y H Q => ∃ i j, x = .int i ∧ y = .int j ∧ Q (.int (f i j)) H
theorem ip_add : PIp X .Add (ipI fun i j => i + j) := by
  intro pins s σ H x y v u Q I r1 r2 h
  obtain ⟨i, j, e1, e2, q⟩ := h
  subst e1; subst e2
  obtain ⟨t, rfl⟩ := r1
  obtain ⟨t', rfl⟩ := r2
  exact iadd_int ⟨.int _, H, I.tok _, ⟨_, rfl⟩, q⟩
theorem ip_sub : PIp X .Sub (ipI fun i j => i - j) := by
  intro pins s σ H x y v u Q I r1 r2 h
  obtain ⟨i, j, e1, e2, q⟩ := h
  subst e1; subst e2
  obtain ⟨t, rfl⟩ := r1
  obtain ⟨t', rfl⟩ := r2
  exact isub_int ⟨.int _, H, I.tok _, ⟨_, rfl⟩, q⟩
end

/-! ### while -/
section
variable {X : Cx} {pos : Pos}
/-- the invariant W with its measure -/
def tWhile (c : TT) (tb : TS) : TS := fun D σ H => ∃ W : Nat → St → Hp → Prop, (∃ m, W m σ H) ∧ ∀ m σ H, W m σ H →
  c σ H fun b H1 => if b = true then ∃ N : St → Hp → Prop, (∀ σ' H', N σ' H' → ∃ m', m' < m ∧ W m' σ' H') ∧ tb { D with nx := N, ct := N, bk := D.nx } σ H1 else D.nx σ H1
theorem ps_while {c : Expr} {body : List Stmt} {tc : TT} {tb : TS} (hp : PassesOwn (model X.prog X.w) X.A X.env X.xe) (hc : PT X c tc) (hb : PSs X body tb) : PS X (.While c body [] pos) (tWhile tc tb) := by
  intro pins s σ H D I h
  obtain ⟨W, ⟨m0, w0⟩, turn⟩ := h
  refine wpAny_While (codeAny_whileLoop (fun n s' => ∃ σ' H', Inv X pins σ' H' s' ∧ W n σ' H') ?_ m0 ⟨σ, H, I, w0⟩)
  rintro n s1 ⟨σ1, H1, I1, w1⟩
  refine wpAny_passesOwn hp (thn (hc pins s1 σ1 H1 _ I1 (turn n σ1 H1 w1)) fun b s2 ⟨H2, I2, q2⟩ => ?_)
  cases b with
  | true =>
    obtain ⟨N, hN, q2⟩ := q2
    rw [if_pos rfl]
    refine wpAny_passesOwn hp (thn (hb pins s2 σ1 H2 _ I2 q2) fun f s3 q3 => ?_)
    cases f with
    | next =>
      obtain ⟨σ3, H3, I3, n3⟩ := q3
      obtain ⟨m', hm, w3⟩ := hN σ3 H3 n3
      exact ⟨m', hm, σ3, H3, I3, w3⟩
    | cont =>
      obtain ⟨σ3, H3, I3, n3⟩ := q3
      obtain ⟨m', hm, w3⟩ := hN σ3 H3 n3
      exact ⟨m', hm, σ3, H3, I3, w3⟩
    | brk => exact q3
    | ret v => exact q3
  | false =>
    rw [if_neg Bool.false_ne_true]
    exact wpAny_execs_nil ⟨σ1, H2, I2, q2⟩
end

/-! ### what a loop or a comprehension walks -/
/-- at turn i: it yields x (the heap may grow), or it stops -/
structure It where
  go : Nat → Hp → Prop
  yld : Nat → Hp → V → Hp → Prop
  stop : Nat → Hp → Prop
/-- the iterator's own objects may turn: they are not the frame's, not pinned, younger than the entry (or a comprehension's own) -/
def FpOk (X : Cx) (pins : List (Addr × Obj)) (H : Hp) (b : Addr) : Prop :=
  H b = none ∧ b ≠ X.env.locals ∧ b ∉ X.fs ∧ (b ∈ X.ex ∨ X.s₀.heap.objs.size ≤ b) ∧ (∀ x c, X.env.cells.lookup x = some c → c ≠ b) ∧ ∀ p ∈ X.pn ++ pins, p.1 ≠ b
theorem Inv.fpOk {X : Cx} {pins : List (Addr × Obj)} {σ : St} {H H' : Hp} {s : Shared} {b : Addr} (I : Inv X pins σ H s) (hb : s.heap.objs.size ≤ b) (hn : H' b = none) : FpOk X pins H' b := by
  refine ⟨hn, Nat.ne_of_gt (Nat.lt_of_lt_of_le I.lt hb), I.nofs hb, .inr (Nat.le_trans I.sz hb), fun x c e z => ?_, fun p hp z => ?_⟩
  · obtain ⟨v, q⟩ := I.cell x c e
    exact absurd (Nat.lt_of_lt_of_le q.lt (by rw [z]; exact hb)) (Nat.lt_irrefl _)
  · exact absurd (Nat.lt_of_lt_of_le (Heap.lt_size (I.pin p hp).1) (by rw [z]; exact hb)) (Nat.lt_irrefl _)
structure Turn (P : Program) (w : World) (K : PySem.W.Frag) (tg : Expr) (J : It) (fp : List Addr) (it : Addr) (tn : Nat → Heap → Prop) : Prop where
  mem : it ∈ fp
  obj : ∀ i h, tn i h → ∀ b ∈ fp, ∃ o, h.get? b = some o ∧ ∀ v, o.data ≠ .cell v
  keep : ∀ i h h', tn i h → (∀ b ∈ fp, ∀ o, h.get? b = some o → h'.get? b = some o) → tn i h'
  item : ∀ (X : Cx), X.prog = P → X.w = w → X.K = K → X.calm = true → ∀ (i : Nat) (pins : List (Addr × Obj)) (s : Shared) (σ : St) (H : Hp) (E : Value → Shared → Prop), Inv X pins σ H s → (∀ b ∈ fp, FpOk X pins H b) → tn i s.heap → J.go i H →
    wpAny (model P w) X.A (pyNext (.ref it)) (fun r s1 => ∃ u, r = some u ∧
      wpAny (model P w) X.A (letOwnedTupleGo tg (.ref it) u) (fun _ s2 => ∃ x H', Inv X pins σ H' s2 ∧ RelV x u ∧ J.yld i H x H' ∧ tn (i + 1) s2.heap ∧ ∀ b ∈ fp, H' b = none) E s1) E s
  done : ∀ (X : Cx), X.prog = P → X.w = w → X.K = K → X.calm = true → ∀ (i : Nat) (pins : List (Addr × Obj)) (s : Shared) (σ : St) (H : Hp) (E : Value → Shared → Prop), Inv X pins σ H s → (∀ b ∈ fp, FpOk X pins H b) → tn i s.heap → J.stop i H →
    wpAny (model P w) X.A (pyNext (.ref it)) (fun r s1 => r = none ∧ Inv X pins σ H s1) E s
  self : ∀ (A : Around) (i : Nat) (s : Shared) (Q : Value → Shared → Prop) (E : Value → Shared → Prop), tn i s.heap → Q (.ref it) s → wpAny (model P w) A (pyIter (.ref it)) Q E s
abbrev TI := St → Hp → (It → Hp → Prop) → Prop
/-- an iterator has come -/
def PIE (X : Cx) (pins : List (Addr × Obj)) (σ : St) (tg : Expr) (R : It → Hp → Prop) (itv : Value) (s2 : Shared) : Prop :=
  ∃ (it : Addr) (fp : List Addr) (tn : Nat → Heap → Prop) (J : It) (H' : Hp), itv = .ref it ∧ Inv X pins σ H' s2 ∧ Turn X.prog X.w X.K tg J fp it tn ∧ tn 0 s2.heap ∧ (∀ b ∈ fp, FpOk X pins H' b) ∧ R J H'
def PI (X : Cx) (tg iter : Expr) (wi : TI) : Prop :=
  ∀ (pins : List (Addr × Obj)) (s : Shared) (σ : St) (H : Hp) (R : It → Hp → Prop), Inv X pins σ H s → wi σ H R →
    wpAny (model X.prog X.w) X.A (eval iter X.env) (fun v s1 => wpAny (model X.prog X.w) X.A (pyIter v) (PIE X pins σ tg R) X.xe s1) X.xe s

/-- the step ahead of the store is nothing for an iterator that keeps no tuple -/
theorem go_of {M : Model} {A : Around} {E : Value → Shared → Prop} {s : Shared} {tg : Expr} {it : Addr} {u : Value} {o : Obj} {n : String} {vs : Array Value} {Q : Unit → Shared → Prop} (ho : s.heap.get? it = some o) (hc : o.cls = .type n) (hd : o.data = .fields vs)
    (hn : ["enumerate", "zip", "dict_itemiterator", "dict_reverseitemiterator", "odict_iterator", "itertools.zip_longest", "itertools.pairwise"].contains n = false) (hQ : Q () s) : wpAny M A (letOwnedTupleGo tg (.ref it) u) Q E s := by
  unfold letOwnedTupleGo
  cases tg <;> first
    | exact wpAny_pure hQ
    | (cases u <;> first
        | exact wpAny_pure hQ
        | (refine wpAny_bind (wpAny_load ho ?_)
           rw [hc, hd]
           show wpAny M A (if (["enumerate", "zip", "dict_itemiterator", "dict_reverseitemiterator", "odict_iterator", "itertools.zip_longest", "itertools.pairwise"].contains n && vs[0]? == some (rawInt _)) = true then _ else _) Q E s
           rw [if_neg (by intro h; rw [hn, Bool.false_and] at h; cases h)]
           exact wpAny_pure hQ))

/-- the list at a, as it stands at each turn (a loop may append to it) -/
def Itl (K : PySem.W.Frag) (a : Addr) : It :=
  ⟨fun i H => ∃ xs x, SqL K H a xs ∧ xs[i]? = some x, fun i H x H' => H' = H ∧ ∀ xs, SqL K H a xs → xs[i]? = some x, fun i H => ∃ xs, SqL K H a xs ∧ xs.length ≤ i⟩
def Itt (K : PySem.W.Frag) (a : Addr) : It :=
  ⟨fun i H => ∃ xs x, SqT K H a xs ∧ xs[i]? = some x, fun i H x H' => H' = H ∧ ∀ xs, SqT K H a xs → xs[i]? = some x, fun i H => ∃ xs, SqT K H a xs ∧ xs.length ≤ i⟩
/-- lo, lo + 1, .. (n of them) -/
def Itr (lo : Int) (n : Nat) : It := ⟨fun i _ => i < n, fun i H x H' => H' = H ∧ x = .int (lo + i), fun i _ => n ≤ i⟩
theorem turn_list {P : Program} {w : World} {K : PySem.W.Frag} {tg : Expr} (a it : Addr) : Turn P w K tg (Itl K a) [it] it (fun i h => h.IsListIter it a i) where
  mem := by simp
  obj := fun i h st b hb => by
    have e : b = it := by simpa using hb
    subst e
    obtain ⟨o, e, c, d⟩ := st
    exact ⟨o, e, fun v z => by rw [d] at z; cases z⟩
  keep := fun i h h' st k => st.at fun o e => k it (by simp) o e
  item := by
    intro X hP hw hK hc i pins s σ H E I hf st hg
    subst hP hw hK
    obtain ⟨xs, x, hq, hx⟩ := hg
    obtain ⟨its, rv, p, hz⟩ := I.list hq
    obtain ⟨u, hu, ru⟩ := rv.get hx
    obtain ⟨f0, f1, f2, f3, f4, f5⟩ := hf it (by simp)
    refine wpAny_pyNext_list_item st p.isList (x := u) (by simpa using hu) fun h' st' sb => ?_
    have I1 : Inv X pins σ H { s with heap := h' } := I.turned (t' := s.toks) (fun b o hb e => (sb.2 b hb).trans e) f0 f1 f3 f4 f5
    obtain ⟨o, e, c, d⟩ := id st'
    exact ⟨u, rfl, go_of (s := { s with heap := h' }) e c d (by decide) ⟨x, H, I1, ru, ⟨rfl, fun ys hy => by rw [I.list_inj hy hq]; exact hx⟩, st', fun b hb => (hf b hb).1⟩⟩
  done := by
    intro X hP hw hK hc i pins s σ H E I hf st hg
    subst hP hw hK
    obtain ⟨xs, hq, hx⟩ := hg
    obtain ⟨its, rv, p, hz⟩ := I.list hq
    obtain ⟨f0, f1, f2, f3, f4, f5⟩ := hf it (by simp)
    have hl := rv.length
    exact wpAny_pyNext_list_end (I.ok.hd hc) st p.isList (by simp; omega) fun h' eb => ⟨rfl, I.turned (t' := s.toks) (fun b o hb e => eb b o hb e) f0 f1 f3 f4 f5⟩
  self := fun _ _ _ _ _ st h => wpAny_pyIter_listiter st h
theorem turn_tuple {P : Program} {w : World} {K : PySem.W.Frag} {tg : Expr} (a it : Addr) : Turn P w K tg (Itt K a) [it] it (fun i h => h.IsTupleIter it a i) where
  mem := by simp
  obj := fun i h st b hb => by
    have e : b = it := by simpa using hb
    subst e
    obtain ⟨o, e, c, d⟩ := st
    exact ⟨o, e, fun v z => by rw [d] at z; cases z⟩
  keep := fun i h h' st k => st.at fun o e => k it (by simp) o e
  item := by
    intro X hP hw hK hc i pins s σ H E I hf st hg
    subst hP hw hK
    obtain ⟨xs, x, hq, hx⟩ := hg
    obtain ⟨its, rv, p, hz⟩ := I.tuple hq
    obtain ⟨u, hu, ru⟩ := rv.get hx
    obtain ⟨f0, f1, f2, f3, f4, f5⟩ := hf it (by simp)
    refine wpAny_pyNext_tuple_item st (show s.heap.IsTuple a its.toArray from p) (x := u) (by simpa using hu) fun h' st' sb => ?_
    have I1 : Inv X pins σ H { s with heap := h' } := I.turned (t' := s.toks) (fun b o hb e => (sb.2 b hb).trans e) f0 f1 f3 f4 f5
    obtain ⟨o, e, c, d⟩ := id st'
    exact ⟨u, rfl, go_of (s := { s with heap := h' }) e c d (by decide) ⟨x, H, I1, ru, ⟨rfl, fun ys hy => by rw [I.tuple_inj hy hq]; exact hx⟩, st', fun b hb => (hf b hb).1⟩⟩
  done := by
    intro X hP hw hK hc i pins s σ H E I hf st hg
    subst hP hw hK
    obtain ⟨xs, hq, hx⟩ := hg
    obtain ⟨its, rv, p, hz⟩ := I.tuple hq
    obtain ⟨f0, f1, f2, f3, f4, f5⟩ := hf it (by simp)
    have hl := rv.length
    exact wpAny_pyNext_tuple_end (I.ok.hd hc) st (show s.heap.IsTuple a its.toArray from p) (by simp; omega) fun h' eb => ⟨rfl, I.turned (t' := s.toks) (fun b o hb e => eb b o hb e) f0 f1 f3 f4 f5⟩
  self := fun _ _ _ _ _ st h => wpAny_pyIter_tupleiter st h
theorem turn_range {P : Program} {w : World} {K : PySem.W.Frag} {tg : Expr} (it : Addr) (lo : Int) (n : Nat) : Turn P w K tg (Itr lo n) [it] it (fun i h => IsRangeIter h it (lo + (i : Nat) * 1) ((n : Int) - (i : Nat)) 1) where
  mem := by simp
  obj := fun i h st b hb => by
    have e : b = it := by simpa using hb
    subst e
    exact ⟨_, st, fun v z => by
      have z' : Data.fields _ = Data.cell v := z
      cases z'⟩
  keep := fun i h h' st k => k it (by simp) _ st
  item := by
    intro X hP hw hK hc i pins s σ H E I hf st hg
    subst hP hw hK
    obtain ⟨f0, f1, f2, f3, f4, f5⟩ := hf it (by simp)
    have W := Walks.range (prog := X.prog) (w := X.w) (I.ok.hd hc) it lo 1 n
    refine W.item i s _ _ hg st fun v h' tk hv st' kk => ?_
    obtain ⟨t, rfl⟩ := hv
    have I1 : Inv X pins σ H { s with heap := h', toks := tk } := I.turned (fun b o hb e => kk b o (by simpa using hb) e) f0 f1 f3 f4 f5
    refine ⟨_, rfl, go_of (s := { s with heap := h', toks := tk }) (n := "range_iterator") st' rfl rfl (by decide) ⟨.int (lo + i), H, I1, ⟨t, ?_⟩, ⟨rfl, rfl⟩, st', fun b hb => (hf b hb).1⟩⟩
    rw [Int.mul_one]
  done := by
    intro X hP hw hK hc i pins s σ H E I hf st hg
    subst hP hw hK
    obtain ⟨f0, f1, f2, f3, f4, f5⟩ := hf it (by simp)
    exact wpAny_pyNext_range_end (I.ok.hd hc) st (by have : n ≤ i := hg; omega) fun h' eb => ⟨rfl, I.turned (t' := s.toks) (fun b o hb e => eb b o hb e) f0 f1 f3 f4 f5⟩
  self := fun _ _ _ _ _ st h => wpAny_pyIter_rangeiter st h
end L2

namespace L2
open PySem PySem.Spec PyProof.Rows
section
variable {X : Cx} {tg : Expr}
def iList (K : PySem.W.Frag) (tl : TE) : TI := fun σ H R => tl σ H fun x H1 => ∃ a, x = .ref a ∧ (∃ xs, SqL K H1 a xs) ∧ R (Itl K a) H1
def iTup (K : PySem.W.Frag) (tl : TE) : TI := fun σ H R => tl σ H fun x H1 => ∃ a, x = .ref a ∧ (∃ xs, SqT K H1 a xs) ∧ R (Itt K a) H1
theorem pi_list {l : Expr} {tl : TE} (hl : PE X l tl) : PI X tg l (iList X.K tl) := by
  intro pins s σ H R I h
  refine thn (hl pins s σ H _ I h) fun v s1 ⟨x, H1, I1, r1, q1⟩ => ?_
  obtain ⟨a, e, ⟨xs, hq⟩, q⟩ := q1
  subst e
  cases r1
  obtain ⟨its, rv, p, hz⟩ := I1.list hq
  refine wpAny_pyIter_list p.isList ?_
  refine ⟨s1.heap.objs.size, [s1.heap.objs.size], _, _, H1, rfl, I1.kept (t' := s1.toks) fun b o e => Heap.get?_push_of_some _ e, turn_list a _, ⟨_, Heap.get?_push_size _ rfl, rfl, rfl⟩, fun b hb => ?_, q⟩
  have e : b = s1.heap.objs.size := by simpa using hb
  subst e
  exact I1.fpOk (Nat.le_refl _) (I1.hok.fresh (Nat.le_refl _))
theorem pi_tup {l : Expr} {tl : TE} (hl : PE X l tl) : PI X tg l (iTup X.K tl) := by
  intro pins s σ H R I h
  refine thn (hl pins s σ H _ I h) fun v s1 ⟨x, H1, I1, r1, q1⟩ => ?_
  obtain ⟨a, e, ⟨xs, hq⟩, q⟩ := q1
  subst e
  cases r1
  obtain ⟨its, rv, p, hz⟩ := I1.tuple hq
  refine wpAny_pyIter_tuple (show s1.heap.IsTuple a its.toArray from p) ?_
  refine ⟨s1.heap.objs.size, [s1.heap.objs.size], _, _, H1, rfl, I1.kept (t' := s1.toks) fun b o e => Heap.get?_push_of_some _ e, turn_tuple a _, ⟨_, Heap.get?_push_size _ rfl, rfl, rfl⟩, fun b hb => ?_, q⟩
  have e : b = s1.heap.objs.size := by simpa using hb
  subst e
  exact I1.fpOk (Nat.le_refl _) (I1.hok.fresh (Nat.le_refl _))
/-- a range object just made, walked -/
theorem range_it {pins : List (Addr × Obj)} {σ : St} {H : Hp} {s : Shared} {R : It → Hp → Prop} {E : Value → Shared → Prop} {lo hi : Int} {t u v : Tok} {tk : Nat} (I : Inv X pins σ H s) (h1 : -(2 ^ 62) ≤ lo) (h2 : lo < 2 ^ 62) (h3 : -(2 ^ 62) ≤ hi) (h4 : hi < 2 ^ 62)
    (q : R (Itr lo (hi - lo).toNat) H) : wpAny (model X.prog X.w) X.A (pyIter (.ref s.heap.objs.size)) (PIE X pins σ tg R) E { s with heap := s.heap.push { cls := .type "range", data := .fields #[.int lo t, .int hi u, .int 1 v] }, toks := tk } := by
  refine wpAny_pyIter_range (IsRange.new ..) (small_one h1 h2 h3 h4) ?_
  have I1 : Inv X pins σ H { s with heap := s.heap.push { cls := .type "range", data := .fields #[.int lo t, .int hi u, .int 1 v] }, toks := tk } := I.kept fun b o e => Heap.get?_push_of_some _ e
  refine ⟨(s.heap.push { cls := .type "range", data := .fields #[.int lo t, .int hi u, .int 1 v] }).objs.size, [(s.heap.push { cls := .type "range", data := .fields #[.int lo t, .int hi u, .int 1 v] }).objs.size], _, _, H, rfl,
    I1.kept (t' := tk) fun b o e => Heap.get?_push_of_some _ e, turn_range _ lo (hi - lo).toNat, ?_, fun b hb => ?_, q⟩
  · have e1 : lo + ((0 : Nat) : Int) * 1 = lo := by simp
    have e2 : (((hi - lo).toNat : Nat) : Int) - ((0 : Nat) : Int) = Builtin.Range.rangeSize lo hi 1 := by rw [rangeSize_one]; split <;> omega
    show IsRangeIter _ _ (lo + ((0 : Nat) : Int) * 1) ((((hi - lo).toNat : Nat) : Int) - ((0 : Nat) : Int)) 1
    rw [e1, e2]
    exact Heap.get?_push_size _ rfl
  · have e : b = (s.heap.push { cls := .type "range", data := .fields #[.int lo t, .int hi u, .int 1 v] }).objs.size := by simpa using hb
    subst e
    exact I1.fpOk (Nat.le_refl _) (I1.hok.fresh (Nat.le_refl _))
def iRng1 (ta : TA) : TI := fun σ H R => ta σ H fun vs H1 => ∃ j : Int, vs = [.int j] ∧ -(2 ^ 62) ≤ j ∧ j < 2 ^ 62 ∧ R (Itr 0 j.toNat) H1
def iRng2 (ta : TA) : TI := fun σ H R => ta σ H fun vs H1 => ∃ i j : Int, vs = [.int i, .int j] ∧ (-(2 ^ 62) ≤ i ∧ i < 2 ^ 62 ∧ -(2 ^ 62) ≤ j ∧ j < 2 ^ 62) ∧ R (Itr i (j - i).toNat) H1
theorem pi_range1 {a : Expr} {ta : TA} {p pos : Pos} (hg : Gl X "range") (hm : X.mg "range" = none) (ha : PA X [a] ta) (hs : starEach [a] X.env = [(false, eval a X.env)] := by rfl) : PI X tg (.Call (.Name "range" p) [a] [] pos) (iRng1 ta) := by
  intro pins s σ H R I h
  refine Call_ (ld_blt I hg hm boot_range (PyProof.Rows.callWith_type1 (thn (ha pos pins s σ H _ I h) fun us s1 ⟨vs, H1, I1, r1, q1⟩ => ?_) hs rfl))
  obtain ⟨j, e, q1, q2, q⟩ := q1
  subst e
  cases r1 with
  | cons r rr =>
    cases rr
    obtain ⟨t, rfl⟩ := r
    exact call_range_1 (range_it I1 (by omega) (by omega) q1 q2 (by simpa using q))
theorem pi_range2 {a b : Expr} {ta : TA} {p pos : Pos} (hg : Gl X "range") (hm : X.mg "range" = none) (ha : PA X [a, b] ta) (hs : starEach [a, b] X.env = [(false, eval a X.env), (false, eval b X.env)] := by rfl) (hs2 : starEach [b] X.env = [(false, eval b X.env)] := by rfl) :
    PI X tg (.Call (.Name "range" p) [a, b] [] pos) (iRng2 ta) := by
  intro pins s σ H R I h
  refine Call_ (ld_blt I hg hm boot_range (PyProof.Rows.callWith_type1 (thn (ha pos pins s σ H _ I h) fun us s1 ⟨vs, H1, I1, r1, q1⟩ => ?_) (by rw [hs, hs2]) (by rw [hs2]; rfl)))
  obtain ⟨i, j, e, ⟨q1, q2, q3, q4⟩, q⟩ := q1
  subst e
  cases r1 with
  | cons r rr =>
    cases rr with
    | cons r' rr =>
      cases rr
      obtain ⟨t, rfl⟩ := r
      obtain ⟨t', rfl⟩ := r'
      exact call_range_2 (range_it I1 q1 q2 q3 q4 q)

/-! ### for -/
/-- W: the invariant by the turn and a measure; N: what the body is to reach -/
def tFor (wi : TI) (g : TG) (tb : TS) : TS := fun D σ H => wi σ H fun J H1 => ∃ W : Nat → Nat → St → Hp → Prop, (∃ m, W 0 m σ H1) ∧ ∀ i m σ H, W i m σ H →
  (J.stop i H ∧ D.nx σ H) ∨ (J.go i H ∧ ∃ N : St → Hp → Prop, (∀ σ' H', N σ' H' → ∃ m', m' < m ∧ W (i + 1) m' σ' H') ∧ ∀ x H', J.yld i H x H' → g x σ H' fun σ2 H2 => tb { D with nx := N, ct := N, bk := D.nx } σ2 H2)
/-- the records at fp as they stand -/
def pinsAt (fp : List Addr) (h : Heap) : List (Addr × Obj) := fp.filterMap fun b => (h.get? b).map fun o => (b, o)
theorem mem_pinsAt {fp : List Addr} {h : Heap} {b : Addr} {o : Obj} (hb : b ∈ fp) (e : h.get? b = some o) : (b, o) ∈ pinsAt fp h := List.mem_filterMap.mpr ⟨b, hb, by rw [e]; rfl⟩
theorem of_pinsAt {fp : List Addr} {h : Heap} {p : Addr × Obj} (hp : p ∈ pinsAt fp h) : p.1 ∈ fp ∧ h.get? p.1 = some p.2 := by
  obtain ⟨b, hb, e⟩ := List.mem_filterMap.mp hp
  cases q : h.get? b with
  | none => rw [q] at e; cases e
  | some o =>
    rw [q] at e
    have e' : (b, o) = p := Option.some.inj e
    subst e'
    exact ⟨hb, q⟩
theorem Inv.pinned {pins : List (Addr × Obj)} {σ : St} {H : Hp} {s : Shared} {fp : List Addr} (I : Inv X pins σ H s) (hf : ∀ b ∈ fp, FpOk X pins H b) (ho : ∀ b ∈ fp, ∃ o, s.heap.get? b = some o ∧ ∀ v, o.data ≠ .cell v) : Inv X (pins ++ pinsAt fp s.heap) σ H s :=
  I.pins_of fun p hp => (List.mem_append.mp hp).elim (fun z => I.pin p (List.mem_append_right _ z)) fun z => by
    obtain ⟨hb, e⟩ := of_pinsAt z
    obtain ⟨f0, f1, f2, _⟩ := hf p.1 hb
    obtain ⟨o, e', d⟩ := ho p.1 hb
    rw [e] at e'; cases e'
    exact ⟨e, f0, f1, f2, d⟩
theorem Inv.unpinned {pins pl : List (Addr × Obj)} {σ : St} {H : Hp} {s : Shared} (I : Inv X (pins ++ pl) σ H s) : Inv X pins σ H s := I.pins_of fun p hp => I.pin p (List.mem_append_right _ (List.mem_append_left _ hp))
theorem ps_for {iter : Expr} {body : List Stmt} {wi : TI} {g : TG} {tb : TS} {pos : Pos} (hp : PassesOwn (model X.prog X.w) X.A X.env X.xe) (hc : X.calm = true) (hi : PI X tg iter wi) (hg : PG X tg g) (hb : PSs X body tb)
    (hs : ∀ x, foldedSetIterable iter X.env x = pure x := by intro _; rfl) : PS X (.For tg iter body [] pos) (tFor wi g tb) := by
  intro pins s σ H D I h
  refine wpAny_For (thn (hi pins s σ H _ I h) fun v s1 h1 => thn h1 fun itv s2 h2 => ?_) hs
  obtain ⟨it, fp, tn, J, H2, e, I2, T, st2, f2, W, ⟨m0, w0⟩, turn⟩ := h2
  subst e
  -- what stays true of the iterator's objects through the loop
  have stat : ∀ {H' : Hp}, (∀ b ∈ fp, H' b = none) → ∀ b ∈ fp, FpOk X pins H' b := fun hn b hb => ⟨hn b hb, (f2 b hb).2⟩
  refine codeAny_forLoop_any (fun n s' => ∃ i σ' H', Inv X pins σ' H' s' ∧ tn i s'.heap ∧ (∀ b ∈ fp, H' b = none) ∧ W i n σ' H') ?_ m0 ⟨0, σ, H2, I2, st2, fun b hb => (f2 b hb).1, w0⟩
  rintro n s3 ⟨i, σ3, H3, I3, st3, fr3, w3⟩
  rcases turn i n σ3 H3 w3 with ⟨stop, qn⟩ | ⟨go, N, hN, step⟩
  · refine wpAny_passesOwn hp (thn (T.done X rfl rfl rfl hc i pins s3 σ3 H3 X.xe I3 (stat fr3) st3 stop) fun r s4 ⟨hr, I4⟩ => ?_)
    subst hr
    exact wpAny_execs_nil ⟨σ3, H3, I4, qn⟩
  · refine wpAny_passesOwn hp (thn (T.item X rfl rfl rfl hc i pins s3 σ3 H3 X.xe I3 (stat fr3) st3 go) fun r s4 ⟨u, hr, h4⟩ => ?_)
    subst hr
    refine wpAny_passesOwn hp (thn h4 fun _ s5 ⟨x, H5, I5, r5, y5, st5, fr5⟩ => ?_)
    have I5' := I5.pinned (stat fr5) (T.obj _ _ st5)
    refine wpAny_passesOwn hp (thn (hg _ s5 σ3 H5 x u _ I5' r5 (step x H5 y5)) fun _ s6 ⟨σ6, H6, I6, q6⟩ => ?_)
    refine wpAny_passesOwn hp (thn (hb _ s6 σ6 H6 _ I6 q6) fun f s7 q7 => ?_)
    have again : ∀ {σ7 : St} {H7 : Hp}, Inv X (pins ++ pinsAt fp s5.heap) σ7 H7 s7 → N σ7 H7 → ∃ m, m < n ∧ ∃ i σ' H', Inv X pins σ' H' s7 ∧ tn i s7.heap ∧ (∀ b ∈ fp, H' b = none) ∧ W i m σ' H' := fun {σ7 H7} I7 n7 => by
      obtain ⟨m', hm, w7⟩ := hN σ7 H7 n7
      refine ⟨m', hm, i + 1, σ7, H7, I7.unpinned, T.keep _ _ _ st5 fun b hb o e => (I7.pin (b, o) (List.mem_append_right _ (List.mem_append_right _ (mem_pinsAt hb e)))).1, fun b hb => ?_, w7⟩
      obtain ⟨o, e, d⟩ := T.obj _ _ st5 b hb
      exact (I7.pin (b, o) (List.mem_append_right _ (List.mem_append_right _ (mem_pinsAt hb e)))).2.1
    cases f with
    | next => obtain ⟨σ7, H7, I7, n7⟩ := q7; exact again I7 n7
    | cont => obtain ⟨σ7, H7, I7, n7⟩ := q7; exact again I7 n7
    | brk => obtain ⟨σ7, H7, I7, q7⟩ := q7; exact ⟨σ7, H7, I7.unpinned, q7⟩
    | ret v => obtain ⟨x7, σ7, H7, I7, r7, q7⟩ := q7; exact ⟨x7, σ7, H7, I7.unpinned, r7, q7⟩
end

/-! ### the forms one uses -/
/-- over a list that the body leaves as it is -/
theorem for_list {K : PySem.W.Frag} {a : Addr} {xs : List V} {g : TG} {tb : TS} {D : Ends} {σ : St} {H : Hp} (Pv : Nat → St → Hp → Prop) (h0 : Pv 0 σ H) (hl : ∀ i σ H, i ≤ xs.length → Pv i σ H → SqL K H a xs)
    (hs : ∀ i x σ H, xs[i]? = some x → Pv i σ H → g x σ H fun σ2 H2 => tb { D with nx := Pv (i + 1), ct := Pv (i + 1), bk := D.nx } σ2 H2) (hd : ∀ σ H, Pv xs.length σ H → D.nx σ H) :
    ∃ W : Nat → Nat → St → Hp → Prop, (∃ m, W 0 m σ H) ∧ ∀ i m σ H, W i m σ H →
      ((Itl K a).stop i H ∧ D.nx σ H) ∨ ((Itl K a).go i H ∧ ∃ N : St → Hp → Prop, (∀ σ' H', N σ' H' → ∃ m', m' < m ∧ W (i + 1) m' σ' H') ∧ ∀ x H', (Itl K a).yld i H x H' → g x σ H' fun σ2 H2 => tb { D with nx := N, ct := N, bk := D.nx } σ2 H2) := by
  refine ⟨fun i m σ H => m = xs.length - i ∧ i ≤ xs.length ∧ Pv i σ H, ⟨xs.length, by simp, Nat.zero_le _, h0⟩, ?_⟩
  rintro i m σ H ⟨rfl, hi, p⟩
  have q := hl i σ H hi p
  by_cases hlt : i < xs.length
  · refine .inr ⟨⟨xs, xs[i], q, by simp [hlt]⟩, Pv (i + 1), fun σ' H' p' => ⟨xs.length - (i + 1), by omega, rfl, hlt, p'⟩, fun x H' y => ?_⟩
    obtain ⟨e, y⟩ := y
    subst e
    exact hs i x σ _ (y xs q) p
  · have e : i = xs.length := by omega
    subst e
    exact .inl ⟨⟨xs, q, Nat.le_refl _⟩, hd σ H p⟩
theorem for_tup {K : PySem.W.Frag} {a : Addr} {xs : List V} {g : TG} {tb : TS} {D : Ends} {σ : St} {H : Hp} (Pv : Nat → St → Hp → Prop) (h0 : Pv 0 σ H) (hl : ∀ i σ H, i ≤ xs.length → Pv i σ H → SqT K H a xs)
    (hs : ∀ i x σ H, xs[i]? = some x → Pv i σ H → g x σ H fun σ2 H2 => tb { D with nx := Pv (i + 1), ct := Pv (i + 1), bk := D.nx } σ2 H2) (hd : ∀ σ H, Pv xs.length σ H → D.nx σ H) :
    ∃ W : Nat → Nat → St → Hp → Prop, (∃ m, W 0 m σ H) ∧ ∀ i m σ H, W i m σ H →
      ((Itt K a).stop i H ∧ D.nx σ H) ∨ ((Itt K a).go i H ∧ ∃ N : St → Hp → Prop, (∀ σ' H', N σ' H' → ∃ m', m' < m ∧ W (i + 1) m' σ' H') ∧ ∀ x H', (Itt K a).yld i H x H' → g x σ H' fun σ2 H2 => tb { D with nx := N, ct := N, bk := D.nx } σ2 H2) := by
  refine ⟨fun i m σ H => m = xs.length - i ∧ i ≤ xs.length ∧ Pv i σ H, ⟨xs.length, by simp, Nat.zero_le _, h0⟩, ?_⟩
  rintro i m σ H ⟨rfl, hi, p⟩
  have q := hl i σ H hi p
  by_cases hlt : i < xs.length
  · refine .inr ⟨⟨xs, xs[i], q, by simp [hlt]⟩, Pv (i + 1), fun σ' H' p' => ⟨xs.length - (i + 1), by omega, rfl, hlt, p'⟩, fun x H' y => ?_⟩
    obtain ⟨e, y⟩ := y
    subst e
    exact hs i x σ _ (y xs q) p
  · have e : i = xs.length := by omega
    subst e
    exact .inl ⟨⟨xs, q, Nat.le_refl _⟩, hd σ H p⟩
theorem for_range {lo : Int} {n : Nat} {g : TG} {tb : TS} {D : Ends} {σ : St} {H : Hp} (Pv : Nat → St → Hp → Prop) (h0 : Pv 0 σ H)
    (hs : ∀ i σ H, i < n → Pv i σ H → g (.int (lo + i)) σ H fun σ2 H2 => tb { D with nx := Pv (i + 1), ct := Pv (i + 1), bk := D.nx } σ2 H2) (hd : ∀ σ H, Pv n σ H → D.nx σ H) :
    ∃ W : Nat → Nat → St → Hp → Prop, (∃ m, W 0 m σ H) ∧ ∀ i m σ H, W i m σ H →
      ((Itr lo n).stop i H ∧ D.nx σ H) ∨ ((Itr lo n).go i H ∧ ∃ N : St → Hp → Prop, (∀ σ' H', N σ' H' → ∃ m', m' < m ∧ W (i + 1) m' σ' H') ∧ ∀ x H', (Itr lo n).yld i H x H' → g x σ H' fun σ2 H2 => tb { D with nx := N, ct := N, bk := D.nx } σ2 H2) := by
  refine ⟨fun i m σ H => m = n - i ∧ i ≤ n ∧ Pv i σ H, ⟨n, by simp, Nat.zero_le _, h0⟩, ?_⟩
  rintro i m σ H ⟨rfl, hi, p⟩
  by_cases hlt : i < n
  · refine .inr ⟨hlt, Pv (i + 1), fun σ' H' p' => ⟨n - (i + 1), by omega, rfl, hlt, p'⟩, fun x H' y => ?_⟩
    obtain ⟨e, y⟩ := y
    subst e y
    exact hs i σ _ hlt p
  · have e : i = n := by omega
    subst e
    exact .inl ⟨Nat.le_refl _, hd σ H p⟩
/-- while, by a word and a measure of the state -/
theorem while_by {c : TT} {tb : TS} {D : Ends} {σ : St} {H : Hp} (Pv : St → Hp → Prop) (μ : St → Hp → Nat) (h0 : Pv σ H)
    (hs : ∀ σ H, Pv σ H → c σ H fun b H1 => if b = true then tb { D with nx := fun σ' H' => Pv σ' H' ∧ μ σ' H' < μ σ H, ct := fun σ' H' => Pv σ' H' ∧ μ σ' H' < μ σ H, bk := D.nx } σ H1 else D.nx σ H1)
    (mono : ∀ σ H Q Q', (∀ b H1, Q b H1 → Q' b H1) → c σ H Q → c σ H Q') : tWhile c tb D σ H := by
  refine ⟨fun m σ H => m = μ σ H ∧ Pv σ H, ⟨_, rfl, h0⟩, ?_⟩
  rintro m σ H ⟨rfl, p⟩
  refine mono σ H _ _ (fun b H1 q => ?_) (hs σ H p)
  cases b with
  | true => exact ⟨_, fun σ' H' ⟨p', l⟩ => ⟨_, l, rfl, p'⟩, q⟩
  | false => exact q
end L2

namespace L2
open PySem PySem.Spec PyProof.Rows

abbrev R2 := V → V → Hp → VK → Prop
/-- a two-place operation on values: f is binaryOp op, inplaceOp op or compareOp op -/
def OpR (X : Cx) (f : Value → Value → Sem Value) (r : R2) : Prop :=
  ∀ (pins : List (Addr × Obj)) (s : Shared) (σ : St) (H : Hp) (x y : V) (v u : Value) (Q : VK), Inv X pins σ H s → RelV x v → RelV y u → r x y H Q →
    wpAny (model X.prog X.w) X.A (f v u) (EP X pins σ Q) X.xe s
/-- a one-place operation -/
def UnR (X : Cx) (f : Value → Sem Value) (r : V → Hp → VK → Prop) : Prop :=
  ∀ (pins : List (Addr × Obj)) (s : Shared) (σ : St) (H : Hp) (x : V) (v : Value) (Q : VK), Inv X pins σ H s → RelV x v → r x H Q →
    wpAny (model X.prog X.w) X.A (f v) (EP X pins σ Q) X.xe s
/-- a call of a value that is known (a builtin, a type) with values -/
def CallR (X : Cx) (f : Value) (r : List V → Hp → VK → Prop) : Prop :=
  ∀ (pins : List (Addr × Obj)) (s : Shared) (σ : St) (H : Hp) (xs : List V) (us : List Value) (Q : VK), Inv X pins σ H s → Vals xs us → r xs H Q →
    wpAny (model X.prog X.w) X.A (call f us) (EP X pins σ Q) X.xe s
/-- a value's truth -/
def TruR (X : Cx) (r : V → Hp → (Bool → Hp → Prop) → Prop) : Prop :=
  ∀ (pins : List (Addr × Obj)) (s : Shared) (σ : St) (H : Hp) (x : V) (v : Value) (Q : Bool → Hp → Prop), Inv X pins σ H s → RelV x v → r x H Q →
    wpAny (model X.prog X.w) X.A (truthy v) (TP X pins σ Q) X.xe s

def tOp (r : R2) (ta tb : TE) : TE := fun σ H Q => ta σ H fun x H1 => tb σ H1 fun y H2 => r x y H2 Q
def tUn (r : V → Hp → VK → Prop) (ta : TE) : TE := fun σ H Q => ta σ H fun x H1 => r x H1 Q
/-- ints in, under C, and a value out -/
def rI (C : Int → Int → Prop) (g : Int → Int → V) : R2 := fun x y H Q => ∃ i j, x = .int i ∧ y = .int j ∧ C i j ∧ Q (g i j) H
def rI0 (g : Int → Int → V) : R2 := fun x y H Q => ∃ i j, x = .int i ∧ y = .int j ∧ Q (g i j) H
def rU (g : Int → V) : V → Hp → VK → Prop := fun x H Q => ∃ i, x = .int i ∧ Q (g i) H

section
variable {X : Cx} {a b c : Expr} {ta tb tc : TE} {pos : Pos}

theorem binT (ha : PE X a ta) (hb : PE X b tb) {pins : List (Addr × Obj)} {s : Shared} {σ : St} {H : Hp} {R : V → V → Hp → Prop} (I : Inv X pins σ H s)
    (h : ta σ H fun x H1 => tb σ H1 fun y H2 => R x y H2) {Q : Value → Shared → Prop} {f : Value → Value → Sem Value}
    (hf : ∀ v u s2 x y H2, Inv X pins σ H2 s2 → RelV x v → RelV y u → R x y H2 → wpAny (model X.prog X.w) X.A (f v u) Q X.xe s2) :
    wpAny (model X.prog X.w) X.A (eval a X.env) (fun v s₁ => wpAny (model X.prog X.w) X.A (eval b X.env) (fun u s₂ => wpAny (model X.prog X.w) X.A (f v u) Q X.xe s₂) X.xe s₁) X.xe s := by
  refine thn (ha pins s σ H _ I h) fun v s1 ⟨x, H1, I1, r1, q1⟩ => ?_
  refine thn (hb pins s1 σ H1 _ I1 q1) fun u s2 ⟨y, H2, I2, r2, q2⟩ => ?_
  exact hf v u s2 x y H2 I2 r1 r2 q2

theorem pe_op {op : Operator} {r : R2} (ho : OpR X (binaryOp op) r) (ha : PE X a ta) (hb : PE X b tb) : PE X (.BinOp a op b pos) (tOp r ta tb) := by
  intro pins s σ H Q I h
  exact wpAny_BinOp (binT ha hb I h fun v u s2 x y H2 I2 rx ry q => ho pins s2 σ H2 x y v u Q I2 rx ry q)
theorem pe_un {op : UnaryOp} {r : V → Hp → VK → Prop} (ho : UnR X (unaryOp op) r) (ha : PE X a ta) : PE X (.UnaryOp op a pos) (tUn r ta) := by
  intro pins s σ H Q I h
  exact UnaryOp_ (thn (ha pins s σ H _ I h) fun v s1 ⟨x, H1, I1, r1, q1⟩ => ho pins s1 σ H1 x v Q I1 r1 q1)
/-- a op= e at a name: the name's slot i -/
theorem augR {op : Operator} {r : R2} (ho : OpR X (inplaceOp op) r) {pins : List (Addr × Obj)} {s : Shared} {σ : St} {H : Hp} {x y : V} {v u : Value} {Q : VK} (I : Inv X pins σ H s)
    (rx : RelV x v) (ry : RelV y u) (q : r x y H Q) : wpAny (model X.prog X.w) X.A (inplaceOp op v u) (EP X pins σ Q) X.xe s := ho pins s σ H x y v u Q I rx ry q

/-! ### ints -/
theorem opI {f : Value → Value → Sem Value} {C : Int → Int → Prop} {g : Int → Int → Int}
    (rule : ∀ (i j : Int) (t u : Tok) (s : Shared) (Q : Value → Shared → Prop) (E : Value → Shared → Prop), C i j → Q (.int (g i j) s.toks) { s with toks := s.toks + 1 } → wpAny (model X.prog X.w) X.A (f (.int i t) (.int j u)) Q E s) :
    OpR X f (rI C fun i j => .int (g i j)) := by
  intro pins s σ H x y v u Q I rx ry h
  obtain ⟨i, j, rfl, rfl, hc, q⟩ := h
  obtain ⟨t, rfl⟩ := rx
  obtain ⟨t', rfl⟩ := ry
  exact rule i j t t' s _ _ hc ⟨.int (g i j), H, I.tok _, ⟨_, rfl⟩, q⟩
theorem opI0 {f : Value → Value → Sem Value} {g : Int → Int → Int}
    (rule : ∀ (i j : Int) (t u : Tok) (s : Shared) (Q : Value → Shared → Prop) (E : Value → Shared → Prop), Q (.int (g i j) s.toks) { s with toks := s.toks + 1 } → wpAny (model X.prog X.w) X.A (f (.int i t) (.int j u)) Q E s) :
    OpR X f (rI0 fun i j => .int (g i j)) := by
  intro pins s σ H x y v u Q I rx ry h
  obtain ⟨i, j, rfl, rfl, q⟩ := h
  obtain ⟨t, rfl⟩ := rx
  obtain ⟨t', rfl⟩ := ry
  exact rule i j t t' s _ _ ⟨.int (g i j), H, I.tok _, ⟨_, rfl⟩, q⟩
theorem opB0 {f : Value → Value → Sem Value} {g : Int → Int → Bool}
    (rule : ∀ (i j : Int) (t u : Tok) (s : Shared) (Q : Value → Shared → Prop) (E : Value → Shared → Prop), Q (.bool (g i j)) s → wpAny (model X.prog X.w) X.A (f (.int i t) (.int j u)) Q E s) :
    OpR X f (rI0 fun i j => .bl (g i j)) := by
  intro pins s σ H x y v u Q I rx ry h
  obtain ⟨i, j, rfl, rfl, q⟩ := h
  obtain ⟨t, rfl⟩ := rx
  obtain ⟨t', rfl⟩ := ry
  exact rule i j t t' s _ _ ⟨.bl (g i j), H, I, rfl, q⟩

def CDiv (i j : Int) : Prop := 0 < j ∧ j < 1073741824
def CDivN (i j : Int) : Prop := j ≠ 0 ∧ j.natAbs < 1073741824
def CPow (i j : Int) : Prop := 0 ≤ j ∧ j ≤ 1000000 ∧ i.natAbs < 2 ^ 64
def CMul (i j : Int) : Prop := (-(2 ^ 64) < i ∧ i < 2 ^ 64) ∨ (-(2 ^ 64) < j ∧ j < 2 ^ 64)
theorem CMul.ok {i j : Int} (h : CMul i j) : IntMulOk i j := by
  rcases h with ⟨h1, h2⟩ | ⟨h1, h2⟩
  · exact .of_left (intBits_le_64 h1 h2)
  · exact .of_right (intBits_le_64 h1 h2)
theorem two_pow_nn (k : Nat) : (0 : Int) ≤ 2 ^ k := by
  rw [two_pow_cast]
  exact Int.natCast_nonneg _

theorem op_add : OpR X (binaryOp .Add) (rI0 fun i j => .int (i + j)) := opI0 fun _ _ _ _ _ _ _ q => add_int q
theorem op_sub : OpR X (binaryOp .Sub) (rI0 fun i j => .int (i - j)) := opI0 fun _ _ _ _ _ _ _ q => sub_int q
theorem op_mul : OpR X (binaryOp .Mult) (rI CMul fun i j => .int (i * j)) := opI fun _ _ _ _ _ _ _ hc q => mul_int q hc.ok
/-- // by a positive divisor -/
theorem op_fdiv : OpR X (binaryOp .FloorDiv) (rI CDiv fun i j => .int (i / j)) := opI fun i j _ _ _ _ _ hc q => by
  have h1 : (0 : Int) < j := hc.1
  have h2 : j < 1073741824 := hc.2
  exact floordiv_int (by omega) (by rw [Int.fdiv_eq_ediv_of_nonneg i (by omega)]; exact q) (.inl (PyProof.noPylong_small (by omega)))
theorem op_fdivN : OpR X (binaryOp .FloorDiv) (rI CDivN fun i j => .int (i.fdiv j)) := opI fun _ _ _ _ _ _ _ hc q => floordiv_int hc.1 q (.inl (PyProof.noPylong_small hc.2))
/-- % by a positive divisor of any size -/
theorem op_mod : OpR X (binaryOp .Mod) (rI (fun _ j => 0 < j) fun i j => .int (i % j)) := opI fun i j _ _ _ _ _ hc q => by
  have h1 : (0 : Int) < j := hc
  exact mod_int' (by omega) (by rw [Int.fmod_eq_emod_of_nonneg i (by omega)]; exact q)
theorem op_modN : OpR X (binaryOp .Mod) (rI (fun _ j => j ≠ 0) fun i j => .int (i.fmod j)) := opI fun _ _ _ _ _ _ _ hc q => mod_int' hc q
theorem op_pow : OpR X (binaryOp .Pow) (rI CPow fun i j => .int (i ^ j.toNat)) := opI fun _ _ _ _ _ _ _ hc q => pow_int_small hc.1 hc.2.1 hc.2.2 q
theorem op_shl : OpR X (binaryOp .LShift) (rI CPow fun i j => .int (i * 2 ^ j.toNat)) := opI fun _ _ _ _ _ _ _ hc q => lshift_int_small hc.1 hc.2.1 hc.2.2 q
theorem op_shr : OpR X (binaryOp .RShift) (rI (fun _ j => 0 ≤ j) fun i j => .int (i / 2 ^ j.toNat)) := opI fun i j _ _ _ _ _ hc q =>
  rshift_int hc (by rw [Int.fdiv_eq_ediv_of_nonneg i (two_pow_nn _)]; exact q)
theorem op_and : OpR X (binaryOp .BitAnd) (rI0 fun i j => .int (Builtin.bitAnd i j)) := opI0 fun _ _ _ _ _ _ _ q => and_int q
theorem op_or : OpR X (binaryOp .BitOr) (rI0 fun i j => .int (Builtin.bitOr i j)) := opI0 fun _ _ _ _ _ _ _ q => or_int q
theorem op_xor : OpR X (binaryOp .BitXor) (rI0 fun i j => .int (Builtin.bitXor i j)) := opI0 fun _ _ _ _ _ _ _ q => xor_int q

theorem iop_add : OpR X (inplaceOp .Add) (rI0 fun i j => .int (i + j)) := opI0 fun _ _ _ _ _ _ _ q => iadd_int q
theorem iop_sub : OpR X (inplaceOp .Sub) (rI0 fun i j => .int (i - j)) := opI0 fun _ _ _ _ _ _ _ q => isub_int q
theorem iop_mul : OpR X (inplaceOp .Mult) (rI CMul fun i j => .int (i * j)) := opI fun _ _ _ _ _ _ _ hc q => imul_int q hc.ok
theorem iop_fdiv : OpR X (inplaceOp .FloorDiv) (rI CDiv fun i j => .int (i / j)) := opI fun i j _ _ _ _ _ hc q => by
  have h1 : (0 : Int) < j := hc.1
  have h2 : j < 1073741824 := hc.2
  exact ifloordiv_int (by omega) (by rw [Int.fdiv_eq_ediv_of_nonneg i (by omega)]; exact q) (.inl (PyProof.noPylong_small (by omega)))
theorem iop_mod : OpR X (inplaceOp .Mod) (rI (fun _ j => 0 < j) fun i j => .int (i % j)) := opI fun i j _ _ _ _ _ hc q => by
  have h1 : (0 : Int) < j := hc
  exact imod_int (by omega) (by rw [Int.fmod_eq_emod_of_nonneg i (by omega)]; exact q)
theorem iop_shl : OpR X (inplaceOp .LShift) (rI CPow fun i j => .int (i * 2 ^ j.toNat)) := opI fun _ _ _ _ _ _ _ hc q => ilshift_int_small hc.1 hc.2.1 hc.2.2 q
theorem iop_shr : OpR X (inplaceOp .RShift) (rI (fun _ j => 0 ≤ j) fun i j => .int (i / 2 ^ j.toNat)) := opI fun i j _ _ _ _ _ hc q =>
  irshift_int hc (by rw [Int.fdiv_eq_ediv_of_nonneg i (two_pow_nn _)]; exact q)
theorem iop_and : OpR X (inplaceOp .BitAnd) (rI0 fun i j => .int (Builtin.bitAnd i j)) := opI0 fun _ _ _ _ _ _ _ q => iand_int q
theorem iop_or : OpR X (inplaceOp .BitOr) (rI0 fun i j => .int (Builtin.bitOr i j)) := opI0 fun _ _ _ _ _ _ _ q => ior_int q
theorem iop_xor : OpR X (inplaceOp .BitXor) (rI0 fun i j => .int (Builtin.bitXor i j)) := opI0 fun _ _ _ _ _ _ _ q => ixor_int q

theorem unI {f : Value → Sem Value} {g : Int → Int}
    (rule : ∀ (i : Int) (t : Tok) (s : Shared) (Q : Value → Shared → Prop) (E : Value → Shared → Prop), Q (.int (g i) s.toks) { s with toks := s.toks + 1 } → wpAny (model X.prog X.w) X.A (f (.int i t)) Q E s) :
    UnR X f (rU fun i => .int (g i)) := by
  intro pins s σ H x v Q I rx h
  obtain ⟨i, rfl, q⟩ := h
  obtain ⟨t, rfl⟩ := rx
  exact rule i t s _ _ ⟨.int (g i), H, I.tok _, ⟨_, rfl⟩, q⟩
theorem un_neg : UnR X (unaryOp .USub) (rU fun i => .int (-i)) := unI fun _ _ _ _ _ q => neg_int q
theorem un_inv : UnR X (unaryOp .Invert) (rU fun i => .int (Builtin.bitNot i)) := unI fun _ _ _ _ _ q => invert_int q

/-! ### bools among ints: n += (a < b) -/
theorem op_add_ib : OpR X (binaryOp .Add) (fun x y H Q => ∃ i k, x = .int i ∧ y = .bl k ∧ Q (.int (i + b2i k)) H) := by
  intro pins s σ H x y v u Q I rx ry h
  obtain ⟨i, k, rfl, rfl, q⟩ := h
  obtain ⟨t, rfl⟩ := rx
  cases ry
  exact add_int_bool ⟨.int (i + b2i k), H, I.tok _, ⟨_, rfl⟩, q⟩
end

/-! ### comparisons -/
/-- the scalars that == tells apart as data does -/
def scal : V → V → Bool
  | .non, .non => true | .non, .int _ => true | .int _, .non => true | .non, .bl _ => true | .bl _, .non => true | .non, .str _ => true | .str _, .non => true
  | .int _, .int _ => true | .bl _, .bl _ => true | .str _, .str _ => true | .byt _, .byt _ => true
  | .int _, .str _ => true | .str _, .int _ => true | .bl _, .str _ => true | .str _, .bl _ => true
  | _, _ => false
def rEq : R2 := fun x y H Q => scal x y = true ∧ Q (.bl (decide (x = y))) H
def rNe : R2 := fun x y H Q => scal x y = true ∧ Q (.bl (!decide (x = y))) H

theorem dec_int {i j : Int} : decide (V.int i = V.int j) = (i == j) := by
  rw [Bool.eq_iff_iff]
  simp
theorem dec_bl {i j : Bool} : decide (V.bl i = V.bl j) = (i == j) := by
  rw [Bool.eq_iff_iff]
  simp
theorem dec_str {i j : Str} : decide (V.str i = V.str j) = (i == j) := by
  rw [Bool.eq_iff_iff]
  simp
theorem dec_byt {i j : Array UInt8} : decide (V.byt i = V.byt j) = (i.toList == j.toList) := by
  rw [Bool.eq_iff_iff]
  cases i
  cases j
  simp

section
variable {X : Cx} {a b c : Expr} {ta tb tc : TE} {pos : Pos}
theorem fin_bl {pins : List (Addr × Obj)} {σ : St} {H : Hp} {s : Shared} {Q : VK} {k k' : Bool} (I : Inv X pins σ H s) (q : Q (.bl k) H) (e : k = k') : EP X pins σ Q (.bool k') s := by
  subst e
  exact ⟨.bl k, H, I, rfl, q⟩
theorem op_eq : OpR X (compareOp .Eq) rEq := by
  intro pins s σ H x y v u Q I rx ry h
  obtain ⟨hs, q⟩ := h
  cases x with
  | non =>
    cases rx
    cases y with
    | non => cases ry; exact PySem.EqNone.eq_none_none (fin_bl I q (by simp))
    | bl j => cases ry; exact PySem.EqNone.eq_none_bool (fin_bl I q (by simp))
    | int j => obtain ⟨t', rfl⟩ := ry; exact PySem.EqNone.eq_none_int (fin_bl I q (by simp))
    | str j => obtain ⟨t', rfl⟩ := ry; exact PySem.EqNone.eq_none_str (fin_bl I q (by simp))
    | _ => exact absurd (show false = true from hs) Bool.false_ne_true
  | bl i =>
    cases rx
    cases y with
    | non => cases ry; exact PySem.EqNone.eq_bool_none (fin_bl I q (by simp))
    | bl j => cases ry; exact eq_bool (fin_bl I q dec_bl)
    | str j => obtain ⟨t', rfl⟩ := ry; exact PySem.EqMixed.eq_bool_str (fin_bl I q (by simp))
    | _ => exact absurd (show false = true from hs) Bool.false_ne_true
  | int i =>
    obtain ⟨t, rfl⟩ := rx
    cases y with
    | non => cases ry; exact PySem.EqNone.eq_int_none (fin_bl I q (by simp))
    | int j => obtain ⟨t', rfl⟩ := ry; exact eq_int (fin_bl I q dec_int)
    | str j => obtain ⟨t', rfl⟩ := ry; exact PySem.EqMixed.eq_int_str (fin_bl I q (by simp))
    | _ => exact absurd (show false = true from hs) Bool.false_ne_true
  | str i =>
    obtain ⟨t, rfl⟩ := rx
    cases y with
    | non => cases ry; exact PySem.EqNone.eq_str_none (fin_bl I q (by simp))
    | bl j => cases ry; exact PySem.EqMixed.eq_str_bool (fin_bl I q (by simp))
    | int j => obtain ⟨t', rfl⟩ := ry; exact PySem.EqMixed.eq_str_int (fin_bl I q (by simp))
    | str j => obtain ⟨t', rfl⟩ := ry; exact eq_str (fin_bl I q dec_str)
    | _ => exact absurd (show false = true from hs) Bool.false_ne_true
  | byt i =>
    obtain ⟨t, rfl⟩ := rx
    cases y with
    | byt j => obtain ⟨t', rfl⟩ := ry; exact PySem.W.eq_bytes (fin_bl I q dec_byt)
    | _ => exact absurd (show false = true from hs) Bool.false_ne_true
  | _ => cases y <;> exact absurd (show false = true from hs) Bool.false_ne_true
theorem op_ne : OpR X (compareOp .NotEq) rNe := by
  intro pins s σ H x y v u Q I rx ry h
  obtain ⟨hs, q⟩ := h
  cases x with
  | non =>
    cases rx
    cases y with
    | non => cases ry; exact PySem.EqNone.ne_none_none (fin_bl I q (by simp))
    | bl j => cases ry; exact PySem.EqNone.ne_none_bool (fin_bl I q (by simp))
    | int j => obtain ⟨t', rfl⟩ := ry; exact PySem.EqNone.ne_none_int (fin_bl I q (by simp))
    | str j => obtain ⟨t', rfl⟩ := ry; exact PySem.EqNone.ne_none_str (fin_bl I q (by simp))
    | _ => exact absurd (show false = true from hs) Bool.false_ne_true
  | bl i =>
    cases rx
    cases y with
    | non => cases ry; exact PySem.EqNone.ne_bool_none (fin_bl I q (by simp))
    | bl j => cases ry; exact ne_bool (fin_bl I q (congrArg not dec_bl))
    | str j => obtain ⟨t', rfl⟩ := ry; exact PySem.EqMixed.ne_bool_str (fin_bl I q (by simp))
    | _ => exact absurd (show false = true from hs) Bool.false_ne_true
  | int i =>
    obtain ⟨t, rfl⟩ := rx
    cases y with
    | non => cases ry; exact PySem.EqNone.ne_int_none (fin_bl I q (by simp))
    | int j => obtain ⟨t', rfl⟩ := ry; exact ne_int (fin_bl I q (congrArg not dec_int))
    | str j => obtain ⟨t', rfl⟩ := ry; exact PySem.EqMixed.ne_int_str (fin_bl I q (by simp))
    | _ => exact absurd (show false = true from hs) Bool.false_ne_true
  | str i =>
    obtain ⟨t, rfl⟩ := rx
    cases y with
    | non => cases ry; exact PySem.EqNone.ne_str_none (fin_bl I q (by simp))
    | bl j => cases ry; exact PySem.EqMixed.ne_str_bool (fin_bl I q (by simp))
    | int j => obtain ⟨t', rfl⟩ := ry; exact PySem.EqMixed.ne_str_int (fin_bl I q (by simp))
    | str j => obtain ⟨t', rfl⟩ := ry; exact ne_str (fin_bl I q (congrArg not dec_str))
    | _ => exact absurd (show false = true from hs) Bool.false_ne_true
  | byt i =>
    obtain ⟨t, rfl⟩ := rx
    cases y with
    | byt j => obtain ⟨t', rfl⟩ := ry; exact PySem.W.ne_bytes (fin_bl I q (congrArg not dec_byt))
    | _ => exact absurd (show false = true from hs) Bool.false_ne_true
  | _ => cases y <;> exact absurd (show false = true from hs) Bool.false_ne_true

theorem op_lt : OpR X (compareOp .Lt) (rI0 fun i j => .bl (decide (i < j))) := opB0 fun _ _ _ _ _ _ _ q => lt_int q
theorem op_le : OpR X (compareOp .LtE) (rI0 fun i j => .bl (decide (i ≤ j))) := opB0 fun _ _ _ _ _ _ _ q => le_int q
theorem op_gt : OpR X (compareOp .Gt) (rI0 fun i j => .bl (decide (j < i))) := opB0 fun _ _ _ _ _ _ _ q => gt_int q
theorem op_ge : OpR X (compareOp .GtE) (rI0 fun i j => .bl (decide (j ≤ i))) := opB0 fun _ _ _ _ _ _ _ q => ge_int q
theorem op_lt_str : OpR X (compareOp .Lt) (fun x y H Q => ∃ i j, x = .str i ∧ y = .str j ∧ Q (.bl (decide (i.cps.toList < j.cps.toList))) H) := by
  intro pins s σ H x y v u Q I rx ry h
  obtain ⟨i, j, rfl, rfl, q⟩ := h
  obtain ⟨t, rfl⟩ := rx
  obtain ⟨t', rfl⟩ := ry
  exact lt_str (fin_bl I q rfl)
/-- the one string within the other -/
theorem op_in_str : OpR X (compareOp .In) (fun x y H Q => ∃ i j, x = .str i ∧ y = .str j ∧ Q (.bl (!(Builtin.Str.occurrences j i 0 j.length 1).isEmpty)) H) := by
  intro pins s σ H x y v u Q I rx ry h
  obtain ⟨i, j, rfl, rfl, q⟩ := h
  obtain ⟨t, rfl⟩ := rx
  obtain ⟨t', rfl⟩ := ry
  exact in_str (fin_bl I q rfl)

/-- is None, is not None: the right side a value none -/
theorem op_isN : OpR X (compareOp .Is) (fun x y H Q => y = .non ∧ Q (.bl (decide (x = .non))) H) := by
  intro pins s σ H x y v u Q I rx ry h
  obtain ⟨rfl, q⟩ := h
  cases ry
  refine is_none_gen (fin_bl I q ?_)
  cases x <;> first
    | (cases rx; rfl)
    | (obtain ⟨t, rfl⟩ := rx; rfl)
theorem op_notN : OpR X (compareOp .IsNot) (fun x y H Q => y = .non ∧ Q (.bl (!decide (x = .non))) H) := by
  intro pins s σ H x y v u Q I rx ry h
  obtain ⟨rfl, q⟩ := h
  cases ry
  refine isnot_none_gen (fin_bl I q ?_)
  cases x <;> first
    | (cases rx; rfl)
    | (obtain ⟨t, rfl⟩ := rx; rfl)

theorem op_notin_str : OpR X (compareOp .NotIn) (fun x y H Q => ∃ i j, x = .str i ∧ y = .str j ∧ Q (.bl (!(!(Builtin.Str.occurrences j i 0 j.length 1).isEmpty))) H) := by
  intro pins s σ H x y v u Q I rx ry h
  obtain ⟨i, j, rfl, rfl, q⟩ := h
  obtain ⟨t, rfl⟩ := rx
  obtain ⟨t', rfl⟩ := ry
  exact notIn_str (fin_bl I q rfl)
/-- is, is not of two objects that are tracked lists or instances -/
def isObj : HO → Bool
  | .lst _ => true
  | .ins _ _ _ => true
  | _ => false
theorem obj_there {pins : List (Addr × Obj)} {s : Shared} {σ : St} {H : Hp} {a : Addr} {o : HO} (I : Inv X pins σ H s) (h : H a = some o) (p : isObj o = true) : ∃ ob, s.heap.get? a = some ob ∧ ob.cls ≠ .type "tuple" := by
  cases o with
  | lst xs =>
    obtain ⟨_, its, n, _, e⟩ : xs.length ≤ sizeLine ∧ ∃ (its : List Value) (n : Nat), Vals xs its ∧ s.heap.get? a = some { cls := .type "list", data := .seq its.toArray n } := I.hok a _ h
    exact ⟨_, e, (by show Value.type "list" ≠ .type "tuple"; decide +kernel)⟩
  | ins C dx fs =>
    have x := I.hok a _ h
    obtain ⟨_, _, _, e, _⟩ := x
    exact ⟨_, e, (by show Value.ref C ≠ .type "tuple"; exact fun z => by cases z)⟩
  | _ => exact absurd (show false = true from p) Bool.false_ne_true
theorem op_is_ref : OpR X (compareOp .Is) (fun x y H Q => ∃ a b oa ob, x = .ref a ∧ y = .ref b ∧ H a = some oa ∧ isObj oa = true ∧ H b = some ob ∧ isObj ob = true ∧ Q (.bl (decide (a = b))) H) := by
  intro pins s σ H x y v u Q I rx ry h
  obtain ⟨a, b, oa, ob, rfl, rfl, ha, pa, hb, pb, q⟩ := h
  cases rx
  cases ry
  obtain ⟨o1, e1, n1⟩ := obj_there I ha pa
  obtain ⟨o2, e2, _⟩ := obj_there I hb pb
  by_cases z : a = b
  · subst z
    exact wpAny_is_ref_self (fin_bl I q (by simp))
  · exact wpAny_is_ref_other z e1 e2 n1 (fin_bl I q (by simp [z]))
theorem op_isnot_ref : OpR X (compareOp .IsNot) (fun x y H Q => ∃ a b oa ob, x = .ref a ∧ y = .ref b ∧ H a = some oa ∧ isObj oa = true ∧ H b = some ob ∧ isObj ob = true ∧ Q (.bl (!decide (a = b))) H) := by
  intro pins s σ H x y v u Q I rx ry h
  obtain ⟨a, b, oa, ob, rfl, rfl, ha, pa, hb, pb, q⟩ := h
  cases rx
  cases ry
  obtain ⟨o1, e1, n1⟩ := obj_there I ha pa
  obtain ⟨o2, e2, _⟩ := obj_there I hb pb
  by_cases z : a = b
  · subst z
    exact wpAny_isNot_ref_self (fin_bl I q (by simp))
  · exact wpAny_isNot_ref_other z e1 e2 n1 (fin_bl I q (by simp [z]))

/-- two rules for one operation: by cases -/
theorem OpR.or {f : Value → Value → Sem Value} {r r' : R2} (h : OpR X f r) (h' : OpR X f r') : OpR X f (fun x y H Q => r x y H Q ∨ r' x y H Q) := by
  intro pins s σ H x y v u Q I rx ry q
  rcases q with q | q
  · exact h pins s σ H x y v u Q I rx ry q
  · exact h' pins s σ H x y v u Q I rx ry q

theorem nomark (b : Expr) {op : CmpOp} (h : op ≠ .In := by decide) (h2 : op ≠ .NotIn := by decide) : behindInMarks op b = false := by
  have e1 : (op == CmpOp.In) = false := by cases op <;> first | rfl | exact absurd rfl h
  have e2 : (op == CmpOp.NotIn) = false := by cases op <;> first | rfl | exact absurd rfl h2
  cases b <;> simp [behindInMarks, e1, e2]
/-- a comparison as a value; hm: nomark b, or (for in, not in) by with_unfolding_all rfl -/
theorem pe_cmpR {op : CmpOp} {r : R2} (ho : OpR X (compareOp op) r) (ha : PE X a ta) (hb : PE X b tb) (hm : behindInMarks op b = false) : PE X (.Compare a [op] [b] pos) (tOp r ta tb) := by
  intro pins s σ H Q I h
  exact wpAny_Compare1 (binT ha hb I h fun v u s2 x y H2 I2 rx ry q => ho pins s2 σ H2 x y v u Q I2 rx ry q) hm
/-- a reading of a value as a test -/
def tTest (t : TE) : TT := fun σ H Q => t σ H fun x H' => ∃ k, x = .bl k ∧ Q k H'
theorem pt_cmpR {op : CmpOp} {r : R2} (ho : OpR X (compareOp op) r) (ha : PE X a ta) (hb : PE X b tb) (hm : behindInMarks op b = false) : PT X (.Compare a [op] [b] pos) (tTest (tOp r ta tb)) := by
  intro pins s σ H Q I h
  refine wpAny_isTrue_Compare1 (thn (ha pins s σ H _ I h) fun v s1 ⟨x, H1, I1, r1, q1⟩ => thn (hb pins s1 σ H1 _ I1 q1) fun u s2 ⟨y, H2, I2, r2, q2⟩ =>
    thn (ho pins s2 σ H2 x y v u _ I2 r1 r2 q2) fun c s3 ⟨z, H3, I3, r3, k, e, q3⟩ => ?_) hm
  subst e
  cases r3
  exact wpAny_truthy_bool ⟨H3, I3, q3⟩
/-- a op1 b op2 c -/
def tChain (r r' : R2) (ta tb tc : TE) : TE := fun σ H Q => ta σ H fun x H1 => tb σ H1 fun y H2 => r x y H2 fun z H3 => ∃ k, z = .bl k ∧
  (if k = true then tc σ H3 fun w' H4 => r' y w' H4 Q else Q (.bl false) H3)
theorem pe_chain {op op' : CmpOp} {r r' : R2} (ho : OpR X (compareOp op) r) (ho' : OpR X (compareOp op') r') (ha : PE X a ta) (hb : PE X b tb) (hc : PE X c tc)
    (hm : lastMarks [op, op'] [b, c] = false := by with_unfolding_all rfl) : PE X (.Compare a [op, op'] [b, c] pos) (tChain r r' ta tb tc) := by
  intro pins s σ H Q I h
  refine Compare_chain (thn (ha pins s σ H _ I h) fun v s1 ⟨x, H1, I1, r1, q1⟩ => chain_link (thn (hb pins s1 σ H1 _ I1 q1) fun u s2 ⟨y, H2, I2, r2, q2⟩ =>
    thn (ho pins s2 σ H2 x y v u _ I2 r1 r2 q2) fun d s3 ⟨z, H3, I3, r3, k, e, q3⟩ => ?_)) hm
  subst e
  cases r3
  refine wpAny_truthy_bool ?_
  cases k with
  | false => exact ite_ff ⟨.bl false, H3, I3, rfl, q3⟩
  | true => exact ite_tt (chain_last (thn (hc pins s3 σ H3 _ I3 q3) fun w' s4 ⟨z', H4, I4, r4, q4⟩ => ho' pins s4 σ H4 y z' u w' Q I4 r2 r4 q4))
theorem pt_chain {op op' : CmpOp} {r r' : R2} (ho : OpR X (compareOp op) r) (ho' : OpR X (compareOp op') r') (ha : PE X a ta) (hb : PE X b tb) (hc : PE X c tc)
    (hm : lastMarks [op, op'] [b, c] = false := by with_unfolding_all rfl) : PT X (.Compare a [op, op'] [b, c] pos) (tTest (tChain r r' ta tb tc)) := by
  intro pins s σ H Q I h
  refine isTrue_chain (thn (ha pins s σ H _ I h) fun v s1 ⟨x, H1, I1, r1, q1⟩ => test_link (thn (hb pins s1 σ H1 _ I1 q1) fun u s2 ⟨y, H2, I2, r2, q2⟩ =>
    thn (ho pins s2 σ H2 x y v u _ I2 r1 r2 q2) fun d s3 ⟨z, H3, I3, r3, k, e, q3⟩ => ?_)) hm
  subst e
  cases r3
  refine wpAny_truthy_bool ?_
  cases k with
  | false =>
    obtain ⟨k', e', q'⟩ := q3
    cases e'
    exact ite_ff ⟨H3, I3, q'⟩
  | true =>
    refine ite_tt (test_last (thn (hc pins s3 σ H3 _ I3 q3) fun w' s4 ⟨z', H4, I4, r4, q4⟩ => thn (ho' pins s4 σ H4 y z' u w' _ I4 r2 r4 q4) fun d' s5 ⟨z2, H5, I5, r5, k2, e2, q5⟩ => ?_))
    subst e2
    cases r5
    exact wpAny_truthy_bool ⟨H5, I5, q5⟩

/-! ### truth -/
/-- a value's truth by the abstract heap -/
def TruV (K : PySem.W.Frag) (x : V) (H : Hp) (k : Bool) : Prop :=
  match x with
  | .non => k = false
  | .bl b => k = b
  | .int i => k = (i != 0)
  | .str y => y.length ≤ sizeLine ∧ k = ((y.length : Int) != 0)
  | .byt y => y.size ≤ sizeLine ∧ k = ((y.size : Int) != 0)
  | .ref p => (∃ xs, SqL K H p xs ∧ k = !xs.isEmpty) ∨ (∃ xs, SqT K H p xs ∧ k = !xs.isEmpty) ∨ ∃ kvs, H p = some (.dK kvs) ∧ k = !kvs.isEmpty
  | _ => False
theorem isEmpty_kv {κ : Type} {kvs : List (κ × V)} {vs : List (κ × Value)} (r : KV kvs vs) : (!vs.isEmpty) = !kvs.isEmpty := by
  cases r <;> rfl
theorem isEmpty_of {xs : List V} {its : List Value} (r : Vals xs its) : (!its.toArray.isEmpty) = !xs.isEmpty := by
  cases r <;> simp
theorem line63 : (sizeLine : Nat) < 2 ^ 63 := by rw [sizeLine_eq]; decide
theorem tru_ok : TruR X (fun x H Q => ∃ k, TruV X.K x H k ∧ Q k H) := by
  intro pins s σ H x v Q I rx h
  obtain ⟨k, e, q⟩ := h
  have hl := line63
  have hs : sizeLine = 16777216 := sizeLine_eq
  cases x with
  | non =>
    cases rx
    have e' : k = false := e
    subst e'
    exact truthy_none ⟨H, I, q⟩
  | bl b =>
    cases rx
    have e' : k = b := e
    subst e'
    exact wpAny_truthy_bool ⟨H, I, q⟩
  | int i =>
    obtain ⟨t, rfl⟩ := rx
    have e' : k = (i != 0) := e
    subst e'
    exact PySem.P.truthy_int ⟨H, I, q⟩
  | str y =>
    obtain ⟨t, rfl⟩ := rx
    obtain ⟨hy, e'⟩ : y.length ≤ sizeLine ∧ k = ((y.length : Int) != 0) := e
    subst e'
    exact PySem.P.truthy_str (by omega) ⟨H, I.tok _, q⟩
  | byt y =>
    obtain ⟨t, rfl⟩ := rx
    obtain ⟨hy, e'⟩ : y.size ≤ sizeLine ∧ k = ((y.size : Int) != 0) := e
    subst e'
    exact PySem.W.truthy_bytes (by omega) ⟨H, I.tok _, q⟩
  | ref p =>
    cases rx
    have e' : (∃ xs, SqL X.K H p xs ∧ k = !xs.isEmpty) ∨ (∃ xs, SqT X.K H p xs ∧ k = !xs.isEmpty) ∨ ∃ kvs, H p = some (.dK kvs) ∧ k = !kvs.isEmpty := e
    rcases e' with ⟨xs, hx, e'⟩ | ⟨xs, hx, e'⟩ | ⟨kvs, hx, e'⟩
    · subst e'
      obtain ⟨its, r, pl, hz⟩ := I.list hx
      have hlen := r.length
      exact wpAny_truthy_list pl.isList (by simp only [List.size_toArray]; omega) ⟨H, I.tok _, by rw [isEmpty_of r]; exact q⟩
    · subst e'
      obtain ⟨its, r, pl, hz⟩ := I.tuple hx
      have hlen := r.length
      exact truthy_tuple pl (by simp only [List.size_toArray]; omega) ⟨H, I.tok _, by rw [isEmpty_of r]; exact q⟩
    · subst e'
      obtain ⟨hz, hS, vs, r, m⟩ : kvs.length ≤ sizeLine ∧ (p == sysModules) = false ∧ ∃ vs, KV kvs vs ∧ s.heap.DictOf (mixKind X.prog X.w) p vs := I.hok p _ hx
      have hlen : kvs.length = vs.length := Paired.length r
      exact wpAny_truthy_dict hS m (by omega) ⟨H, I.tok _, by rw [isEmpty_kv r]; exact q⟩
  | _ => exact (show False from e).elim
/-- any expression whose test is its value's truth (a name, a call, a subscript, a field ..: he by fun _ => rfl) -/
theorem pt_truth (ha : PE X a ta) (he : ∀ whole, isTrue a X.env whole = (do let v ← whole; standAt a.pos; holding [v] (truthy v))) :
    PT X a (fun σ H Q => ta σ H fun x H' => ∃ k, TruV X.K x H' k ∧ Q k H') := by
  intro pins s σ H Q I h
  exact isTrue_plain (thn (ha pins s σ H _ I h) fun v s1 ⟨x, H1, I1, r1, q1⟩ => tru_ok pins s1 σ H1 x v Q I1 r1 q1) (he _)

/-! ### strs and bytes -/
theorem pe_byt {x : List UInt8} {k : Nat} : PE X (.Constant (.bytes x) k pos) (fun _ H Q => Q (.byt x.toArray) H) := fun _ _ _ H _ I h => PySem.W.Constant_bytes ⟨.byt x.toArray, H, I.tok _, ⟨_, rfl⟩, h⟩
theorem op_add_str : OpR X (binaryOp .Add) (fun x y H Q => ∃ i j, x = .str i ∧ y = .str j ∧ i.length + j.length ≤ sizeLine ∧ Q (.str (i ++ j)) H) := by
  intro pins s σ H x y v u Q I rx ry h
  obtain ⟨i, j, rfl, rfl, hz, q⟩ := h
  obtain ⟨t, rfl⟩ := rx
  obtain ⟨t', rfl⟩ := ry
  exact add_str (fun t' tk => ⟨.str (i ++ j), H, I.tok _, ⟨_, rfl⟩, q⟩) hz
theorem iop_add_str : OpR X (inplaceOp .Add) (fun x y H Q => ∃ i j, x = .str i ∧ y = .str j ∧ i.length + j.length ≤ sizeLine ∧ Q (.str (i ++ j)) H) := by
  intro pins s σ H x y v u Q I rx ry h
  obtain ⟨i, j, rfl, rfl, hz, q⟩ := h
  obtain ⟨t, rfl⟩ := rx
  obtain ⟨t', rfl⟩ := ry
  exact iadd_str (fun t' tk => ⟨.str (i ++ j), H, I.tok _, ⟨_, rfl⟩, q⟩) hz
theorem op_add_byt : OpR X (binaryOp .Add) (fun x y H Q => ∃ i j, x = .byt i ∧ y = .byt j ∧ i.size + j.size ≤ 16777216 ∧ Q (.byt (i ++ j)) H) := by
  intro pins s σ H x y v u Q I rx ry h
  obtain ⟨i, j, rfl, rfl, hz, q⟩ := h
  obtain ⟨t, rfl⟩ := rx
  obtain ⟨t', rfl⟩ := ry
  exact PySem.W.KBy.add_bytes hz (fun t' tk => ⟨.byt (i ++ j), H, I.tok _, ⟨_, rfl⟩, q⟩)

def PlainIxT (b : Expr) : Prop := ∀ o i, subscripted b false o i = operate [o, i] (getItem o i)
/-- s[i], 0 ≤ i < len -/
theorem pe_item_str (ha : PE X a ta) (hb : PE X b tb) (hs : PlainIxT b) :
    PE X (.Subscript a b pos) (tOp (fun x y H Q => ∃ z i c, x = .str z ∧ y = .int i ∧ 0 ≤ i ∧ i < 2 ^ 63 ∧ i < z.length ∧ z.cps[i.toNat]? = some c ∧ Q (.str ⟨#[c]⟩) H) ta tb) := by
  intro pins s σ H Q I h
  refine Subscript_ (binT ha hb I h fun v u s2 x y H2 I2 rx ry q => ?_)
  obtain ⟨z, i, c, rfl, rfl, h0, h63, h1, hc, q⟩ := q
  obtain ⟨t, rfl⟩ := rx
  obtain ⟨t', rfl⟩ := ry
  have e : seqIndex? i z.length = some i.toNat := PySem.StrLaws.seqIndex_nonneg h0 h1
  exact tail_any (typeIs_str s2 z t) slot_str_getitem.lookup (getItem_str (c := c) (by
    have e1 : decide (i < -(2 ^ 63 : Int)) = false := decide_eq_false (by omega)
    have e2 : decide (i ≥ 2 ^ 63) = false := decide_eq_false (by omega)
    rw [e1, e2] <;> rfl) (by rw [e]; exact hc) ⟨.str ⟨#[c]⟩, H2, I2.tok _, ⟨_, rfl⟩, q⟩) (hs _ _)
/-- b[i], 0 ≤ i < len -/
theorem pe_item_byt (ha : PE X a ta) (hb : PE X b tb) (hs : PlainIxT b) :
    PE X (.Subscript a b pos) (tOp (fun x y H Q => ∃ (z : List UInt8) (i : Int), x = .byt z.toArray ∧ y = .int i ∧ z.length ≤ sizeLine ∧ 0 ≤ i ∧ i < z.length ∧ Q (.int ((z.getD i.toNat 0).toNat : Nat)) H) ta tb) := by
  intro pins s σ H Q I h
  refine Subscript_ (binT ha hb I h fun v u s2 x y H2 I2 rx ry q => ?_)
  obtain ⟨z, i, rfl, rfl, hz, h0, h1, q⟩ := q
  obtain ⟨t, rfl⟩ := rx
  obtain ⟨t', rfl⟩ := ry
  have hl : sizeLine = 16777216 := sizeLine_eq
  exact tail_any (PySem.W.typeIs_bytes s2 z.toArray t) PySem.W.FB.slot_bytes_getitem.lookup (PySem.W.getItem_bytes (by omega) h0 h1 ⟨.int ((z.getD i.toNat 0).toNat : Nat), H2, I2.tok _, ⟨_, rfl⟩, q⟩) (hs _ _)

/-! ### scalar builtins, by CallR -/
theorem vals1 {x : V} {us : List Value} (r : Vals [x] us) : ∃ u, us = [u] ∧ RelV x u := by
  cases r with
  | cons r1 r2 => cases r2; exact ⟨_, rfl, r1⟩
theorem vals2 {x y : V} {us : List Value} (r : Vals [x, y] us) : ∃ u w', us = [u, w'] ∧ RelV x u ∧ RelV y w' := by
  cases r with
  | cons r1 r2 =>
    cases r2 with
    | cons r3 r4 => cases r4; exact ⟨_, _, rfl, r1, r3⟩
theorem call_abs : CallR X (.builtin "abs") (fun xs H Q => ∃ i, xs = [.int i] ∧ Q (.int (if i < 0 then -i else i)) H) := by
  intro pins s σ H xs us Q I r h
  obtain ⟨i, rfl, q⟩ := h
  obtain ⟨u, rfl, t, rfl⟩ := vals1 r
  exact call_abs_int fun u tk => ⟨.int (if i < 0 then -i else i), H, I.tok _, ⟨_, rfl⟩, q⟩
theorem call_max2 (hc : X.calm = true) : CallR X (.builtin "max") (fun xs H Q => ∃ i j, xs = [.int i, .int j] ∧ Q (.int (if j > i then j else i)) H) := by
  intro pins s σ H xs us Q I r h
  obtain ⟨i, j, rfl, q⟩ := h
  obtain ⟨u, w', rfl, ⟨t, rfl⟩, ⟨t', rfl⟩⟩ := vals2 r
  refine max_two_ints (I.ok.hd hc) fun h' tk k => ⟨_, H, I.kept k, ?_, q⟩
  by_cases hj : j > i
  · rw [if_pos hj, if_pos hj]; exact ⟨_, rfl⟩
  · rw [if_neg hj, if_neg hj]; exact ⟨_, rfl⟩
theorem call_min2 (hc : X.calm = true) : CallR X (.builtin "min") (fun xs H Q => ∃ i j, xs = [.int i, .int j] ∧ Q (.int (if j < i then j else i)) H) := by
  intro pins s σ H xs us Q I r h
  obtain ⟨i, j, rfl, q⟩ := h
  obtain ⟨u, w', rfl, ⟨t, rfl⟩, ⟨t', rfl⟩⟩ := vals2 r
  refine min_two_ints (I.ok.hd hc) fun h' tk k => ⟨_, H, I.kept k, ?_, q⟩
  by_cases hj : j < i
  · rw [if_pos hj, if_pos hj]; exact ⟨_, rfl⟩
  · rw [if_neg hj, if_neg hj]; exact ⟨_, rfl⟩
theorem call_int1 : CallR X (.type "int") (fun xs H Q => (∃ i, xs = [.int i] ∧ Q (.int i) H) ∨ ∃ k, xs = [.bl k] ∧ Q (.int (if k then 1 else 0)) H) := by
  intro pins s σ H xs us Q I r h
  rcases h with ⟨i, rfl, q⟩ | ⟨k, rfl, q⟩
  · obtain ⟨u, rfl, t, rfl⟩ := vals1 r
    exact call_int_int ⟨.int i, H, I, ⟨_, rfl⟩, q⟩
  · obtain ⟨u, rfl, r1⟩ := vals1 r
    cases r1
    exact call_int_bool ⟨.int (if k then 1 else 0), H, I.tok _, ⟨_, rfl⟩, q⟩
theorem call_bool1 : CallR X (.type "bool") (fun xs H Q => (∃ i, xs = [.int i] ∧ Q (.bl (i != 0)) H) ∨ ∃ k, xs = [.bl k] ∧ Q (.bl k) H) := by
  intro pins s σ H xs us Q I r h
  rcases h with ⟨i, rfl, q⟩ | ⟨k, rfl, q⟩
  · obtain ⟨u, rfl, t, rfl⟩ := vals1 r
    exact call_bool_int ⟨.bl (i != 0), H, I, rfl, q⟩
  · obtain ⟨u, rfl, r1⟩ := vals1 r
    cases r1
    exact call_bool_bool ⟨.bl k, H, I, rfl, q⟩
theorem call_str_int : CallR X (.type "str") (fun xs H Q => ∃ i, xs = [.int i] ∧ i.natAbs.log2 < 1920 ∧ Q (.str (toString i)) H) := by
  intro pins s σ H xs us Q I r h
  obtain ⟨i, rfl, hz, q⟩ := h
  obtain ⟨u, rfl, t, rfl⟩ := vals1 r
  exact PySem.P.str_of_int hz ⟨.str _, H, I.tok _, ⟨_, rfl⟩, q⟩
theorem call_ord : CallR X (.builtin "ord") (fun xs H Q => ∃ x, xs = [.str x] ∧ x.length = 1 ∧ Q (.int (x.cps.getD 0 0 : Nat)) H) := by
  intro pins s σ H xs us Q I r h
  obtain ⟨x, rfl, hz, q⟩ := h
  obtain ⟨u, rfl, t, rfl⟩ := vals1 r
  exact ord_of_one hz ⟨.int _, H, I.tok _, ⟨_, rfl⟩, q⟩
theorem call_chr : CallR X (.builtin "chr") (fun xs H Q => ∃ i, xs = [.int i] ∧ 0 ≤ i ∧ i ≤ 1114111 ∧ Q (.str ⟨#[i.toNat]⟩) H) := by
  intro pins s σ H xs us Q I r h
  obtain ⟨i, rfl, h0, h1, q⟩ := h
  obtain ⟨u, rfl, t, rfl⟩ := vals1 r
  exact chr_of_range h0 h1 ⟨.str _, H, I.tok _, ⟨_, rfl⟩, q⟩
/-- len of a str, a bytes, a list, a tuple -/
def LenV (K : PySem.W.Frag) (x : V) (H : Hp) (n : Nat) : Prop :=
  match x with
  | .str y => y.length ≤ sizeLine ∧ n = y.length
  | .byt y => y.size ≤ sizeLine ∧ n = y.size
  | .ref p => (∃ xs, SqL K H p xs ∧ n = xs.length) ∨ ∃ xs, SqT K H p xs ∧ n = xs.length
  | _ => False
theorem call_len : CallR X (.builtin "len") (fun xs H Q => ∃ x n, xs = [x] ∧ LenV X.K x H n ∧ Q (.int n) H) := by
  intro pins s σ H xs us Q I r h
  obtain ⟨x, n, rfl, e, q⟩ := h
  obtain ⟨u, rfl, rx⟩ := vals1 r
  have hl := line63
  have hs : sizeLine = 16777216 := sizeLine_eq
  cases x with
  | str y =>
    obtain ⟨t, rfl⟩ := rx
    obtain ⟨hy, e'⟩ : y.length ≤ sizeLine ∧ n = y.length := e
    subst e'
    exact len_str (by omega) ⟨.int _, H, I.tok _, ⟨_, rfl⟩, q⟩
  | byt y =>
    obtain ⟨t, rfl⟩ := rx
    obtain ⟨hy, e'⟩ : y.size ≤ sizeLine ∧ n = y.size := e
    subst e'
    exact PySem.W.len_bytes (by omega) ⟨.int _, H, I.tok _, ⟨_, rfl⟩, q⟩
  | ref p =>
    cases rx
    have e' : (∃ xs, SqL X.K H p xs ∧ n = xs.length) ∨ ∃ xs, SqT X.K H p xs ∧ n = xs.length := e
    rcases e' with ⟨xs, hx, e'⟩ | ⟨xs, hx, e'⟩
    · subst e'
      obtain ⟨its, r', pl, hz⟩ := I.list hx
      have hlen := r'.length
      exact Calls.call_len_list pl.isList (by simp only [List.size_toArray]; omega) ⟨.int xs.length, H, I.tok _, ⟨_, by simp only [List.size_toArray]; rw [hlen]⟩, q⟩
    · subst e'
      obtain ⟨its, r', pl, hz⟩ := I.tuple hx
      have hlen := r'.length
      exact len_tuple pl (by simp only [List.size_toArray]; omega) ⟨.int xs.length, H, I.tok _, ⟨_, by simp only [List.size_toArray]; rw [hlen]⟩, q⟩
  | _ => exact (show False from e).elim
/-- divmod: a new tuple -/
theorem call_divmod : CallR X (.builtin "divmod") (fun xs H Q => ∃ i j, xs = [.int i, .int j] ∧ CDiv i j ∧ ∀ p, H p = none → Q (.ref p) (upd H p (.tup [.int (i / j), .int (i % j)]))) := by
  intro pins s σ H xs us Q I r h
  obtain ⟨i, j, rfl, ⟨h1, h2⟩, q⟩ := h
  obtain ⟨u, w', rfl, ⟨t, rfl⟩, ⟨t', rfl⟩⟩ := vals2 r
  refine divmod_int (by omega) ?_ (.inl (PyProof.noPylong_small (by omega)))
  rw [Int.fdiv_eq_ediv_of_nonneg i (by omega), Int.fmod_eq_emod_of_nonneg i (by omega)]
  have hn : H s.heap.objs.size = none := I.hok.fresh (Nat.le_refl _)
  refine ⟨.ref s.heap.objs.size, _, ?_, rfl, q _ hn⟩
  refine I.laid (fun b o e => Heap.get?_push_of_some _ e) (Nat.le_refl _) ⟨by simp only [List.length_cons, List.length_nil]; rw [sizeLine_eq]; decide, [.int (i / j) s.toks, .int (i % j) (s.toks + 1)], .cons ⟨_, rfl⟩ (.cons ⟨_, rfl⟩ .nil), ?_⟩
  exact ⟨_, Heap.get?_push_size s.heap rfl, rfl, 0, rfl⟩
end
end L2

namespace L2
open PySem PySem.Spec PyProof.Rows

/-! ### an instance, its attributes a map -/
structure ObjM (h : Heap) (x dx C : Addr) (mA : Str → Option Value) : Prop where
  obj : h.get? x = some (PySem.W.instObj C dx)
  ns : h.Ns1 dx mA
  ne : dx ≠ x

theorem lookIn_ns {h : Heap} {dx : Addr} {mA : Str → Option Value} (n : h.Ns1 dx mA) : ∃ od, h.get? dx = some od ∧ ∀ name, PySem.W.lookIn name od = some (mA name) := by
  obtain ⟨o, es, ep, ho, hd, hk, _, hm⟩ := n
  refine ⟨o, ho, fun name => ?_⟩
  have e := hm name
  unfold nsFind findBy at e
  rw [← Array.find?_toList] at e
  unfold PySem.W.lookIn
  rw [hd]
  dsimp only
  split
  · rename_i y q
    rw [q] at e
    exact congrArg some e
  · rename_i q
    rw [q] at e
    have a : es.toList.any (·.refKey) = false := by
      rw [List.any_eq_false]
      intro y hy
      obtain ⟨z, t, hkey⟩ := hk y (Array.mem_toList_iff.mp hy)
      simp [DictEntry.refKey, hkey]
    have a' : ¬ es.toList.any (·.refKey) = true := by rw [a]; exact Bool.false_ne_true
    rw [if_neg a']
    exact congrArg some e

theorem ObjM.look {h : Heap} {x dx C : Addr} {mA : Str → Option Value} (I : ObjM h x dx C mA) : ∃ od, PySem.W.InstAt h x (PySem.W.instObj C dx) C (some od) ∧ ∀ name, PySem.W.lookIn name od = some (mA name) :=
  let ⟨od, ho, hl⟩ := lookIn_ns I.ns
  ⟨od, ⟨I.obj, rfl, rfl, ho⟩, hl⟩

section
variable {prog : Program} {w : World} {A : Around} {E : Value → Shared → Prop} {s : Shared} {K : PySem.W.Frag} {x dx C f : Addr} {mA : Str → Option Value} {name : Str} {v : Value}

theorem get_map {expr : Bool} {Q : Value → Shared → Prop} (X : K.In s.heap) (I : ObjM s.heap x dx C mA) (hg : PySem.W.plainGet K C name = true) (hh : PySem.W.hasDictIn K C = true)
    (ha : PySem.W.findIn K (.ref C) name = some none) (hv : mA name = some v) (hv' : PySem.W.handedIn v = true) (h : Q v { s with toks := s.toks + 1 }) :
    wpAny (model prog w) A (getAttr (.ref x) name expr) Q E s := by
  obtain ⟨od, J, hl⟩ := I.look
  exact PySem.W.get_value X J (PySem.W.plainGet_of hg).1 (PySem.W.findObj_own hh ha rfl (by rw [hl, hv])) hv' h

theorem get_const {expr : Bool} {a : Value} {Q : Value → Shared → Prop} (X : K.In s.heap) (I : ObjM s.heap x dx C mA) (hg : PySem.W.plainGet K C name = true) (hh : PySem.W.hasDictIn K C = true)
    (ha : PySem.W.findIn K (.ref C) name = some (some a)) (hn : PySem.W.specialIn K a "__get__" = some none) (hc : PySem.W.copiedNames.contains name = false) (hv : mA name = none) (hv' : PySem.W.handedIn a = true)
    (h : Q a { s with toks := s.toks + 1 }) : wpAny (model prog w) A (getAttr (.ref x) name expr) Q E s := by
  obtain ⟨od, J, hl⟩ := I.look
  exact PySem.W.get_value X J (PySem.W.plainGet_of hg).1 (PySem.W.findObj_cls hh ha hn hv' hc (by rw [hl, hv])) hv' h

theorem get_meth {pl : Sem Bool} {Q : Value × List Value → Shared → Prop} (X : K.In s.heap) (I : ObjM s.heap x dx C mA) (hg : PySem.W.plainGet K C name = true)
    (hf : PySem.W.findIn K (.ref C) name = some (some (.ref f))) (ht : PySem.W.isFn K (.ref f) = true) (hv : mA name = none) (h : Q (.ref f, [.ref x]) s) :
    wpAny (model prog w) A (getMethod (.ref x) name pl) Q E s := by
  obtain ⟨od, J, hl⟩ := I.look
  exact PySem.W.method_fn X J (PySem.W.plainGet_of hg).1 (PySem.W.plainGet_of hg).2 hf (beq_iff_eq.mp ht) (by show (PySem.W.lookIn name od).map (·.isSome) = some false; rw [hl, hv]; rfl) h

theorem set_map {ns : List Str} {Q : Unit → Shared → Prop} (X : K.In s.heap) (I : ObjM s.heap x dx C mA)
    (hs : PySem.W.findIn K (.ref C) "__setattr__" = some (some (.builtin "object.__setattr__"))) (hp : PySem.W.plainOver K C = true) (ht : PySem.W.takerIn K C name = some none) (hh : PySem.W.hasDictIn K C = true)
    (hw : PySem.Within mA ns) (hsz : ns.length ≤ sizeLine)
    (h : ∀ h', ObjM h' x dx C (fun y => if y = name then some v else mA y) → Heap.SameBut dx s.heap h' → Q () { s with heap := h', toks := s.toks + 2 }) :
    wpAny (model prog w) A (setAttr (.ref x) name v) Q E s := by
  obtain ⟨od, J, hl⟩ := I.look
  refine PySem.W.set_plain X J hs (PySem.W.osa_open (s := { s with toks := s.toks + 1 }) (r := none) X J hp ht fun b => ?_)
  obtain ⟨cd, hc, hd'⟩ := PySem.W.any_some hh
  have hx : s.heap.get? x = some ⟨.ref C, some dx, .plain, #[]⟩ := I.obj
  refine wpAny_bind (wpAny_pure (wpAny_bind (wpAny_bind (wpAny_loadPart hx (wpAny_bind (PySem.W.Looks.here (s := { s with toks := s.toks + 1 }) (PySem.W.looks_clsIn X hc) ?_))))))
  rw [hd']
  refine wpAny_pure (a := some dx) (wpAny_bind (wpAny_pure (wpAny_bind ?_)))
  refine wpAny_nsSet1 (s := { s with toks := s.toks + 1 }) I.ns fun h' hn2 hs2 => ?_
  obtain ⟨oD, esD, epD, hoD, hdD, hcD⟩ := hn2.count (PySem.Within.cons name v hw)
  refine wpAny_bind (wpAny_lookBehind hoD (by rw [hdD]; exact pastItsLine_dict (Nat.le_trans hcD (by rw [List.length_cons]; omega))) ?_)
  exact wpAny_pure (h _ ⟨(hs2.2 _ (Ne.symm I.ne)).trans I.obj, hn2, I.ne⟩ hs2)

/-- C(..): the dict at the heap's end, the instance behind it; then its __init__ -/
theorem make_map {R : Result → Shared → Prop} {vs : List Value} {kw : List (Str × Value)} (X : K.In s.heap) (hm : PySem.W.makesIn K C = true)
    (hi : PySem.W.findIn K (.ref C) "__init__" = some (some (.ref f))) (hf : PySem.W.typeIn K (.ref f) = some (.type "function"))
    (h : codeAny (model prog w) (A.under (.builtin "type.__call__" ⟨.ref C :: vs, kw⟩)) (.call (.ref f) ⟨.ref (s.heap.objs.size + 1) :: vs, kw⟩) (PySem.W.InitBack (s.heap.objs.size + 1) R)
      { s with heap := (s.heap.push PySem.W.emptyDict).push (PySem.W.instObj C s.heap.objs.size) }) :
    codeAny (model prog w) A (.call (.ref C) ⟨vs, kw⟩) R s := by
  obtain ⟨hh, g, d, t, os⟩ := s
  exact PySem.W.make_core (PySem.W.makes_of X hm) (PySem.W.looks_findIn X hi) (fun self => PySem.W.bind_fn X self hf) (.inl rfl) h
/-- C() where there is no __init__ but object's -/
theorem make_map0 {R : Result → Shared → Prop} (X : K.In s.heap) (hm : PySem.W.makesIn K C = true)
    (hi : PySem.W.findIn K (.ref C) "__init__" = some (some (.builtin "object.__init__")))
    (hb : ∀ self, PySem.W.Looks (model prog w) s.heap (bindSpecial (.builtin "object.__init__") self) (.builtin "object.__init__", [self]))
    (h : codeAny (model prog w) (A.under (.builtin "type.__call__" ⟨[.ref C], []⟩)) (.call (.builtin "object.__init__") ⟨[.ref (s.heap.objs.size + 1)], []⟩) (PySem.W.InitBack (s.heap.objs.size + 1) R)
      { s with heap := (s.heap.push PySem.W.emptyDict).push (PySem.W.instObj C s.heap.objs.size) }) :
    codeAny (model prog w) A (.call (.ref C) ⟨[], []⟩) R s := by
  obtain ⟨hh, g, d, t, os⟩ := s
  exact PySem.W.make_core (PySem.W.makes_of X hm) (PySem.W.looks_findIn X hi) hb (.inr ⟨rfl, rfl⟩) h
end

/-! ### the attributes as a list of pairs -/
def putF (f : Str) (v : V) : List (Str × V) → List (Str × V)
  | [] => [(f, v)]
  | (g, x) :: r => if g = f then (g, v) :: r else (g, x) :: putF f v r
theorem lookup_putF (f g : Str) (v : V) : ∀ fs : List (Str × V), (putF f v fs).lookup g = if g = f then some v else fs.lookup g
  | [] => by
    show List.lookup g [(f, v)] = _
    by_cases h : g = f
    · have hb : (g == f) = true := beq_iff_eq.mpr h
      simp only [List.lookup, hb, if_pos h]
    · have hb : (g == f) = false := beq_eq_false_iff_ne.mpr h
      simp only [List.lookup, hb, if_neg h]
  | (k, x) :: r => by
    have ih := lookup_putF f g v r
    rw [show putF f v ((k, x) :: r) = (if k = f then (k, v) :: r else (k, x) :: putF f v r) from rfl]
    by_cases hk : k = f
    · rw [if_pos hk]
      by_cases h : g = k
      · have hb : (g == k) = true := beq_iff_eq.mpr h
        simp only [List.lookup, hb, if_pos (h.trans hk)]
      · have hb : (g == k) = false := beq_eq_false_iff_ne.mpr h
        simp only [List.lookup, hb, if_neg (fun e : g = f => h (e.trans hk.symm))]
    · rw [if_neg hk]
      by_cases h : g = k
      · have hb : (g == k) = true := beq_iff_eq.mpr h
        simp only [List.lookup, hb, if_neg (fun e : g = f => hk (h.symm.trans e))]
      · have hb : (g == k) = false := beq_eq_false_iff_ne.mpr h
        simp only [List.lookup, hb]
        exact ih
theorem keys_putF (f : Str) (v : V) : ∀ fs : List (Str × V), f ∈ (putF f v fs).map (·.1) ∧ ∀ g, g ∈ fs.map (·.1) → g ∈ (putF f v fs).map (·.1)
  | [] => ⟨by simp [putF], fun g h => by simp at h⟩
  | (k, x) :: r => by
    obtain ⟨i1, i2⟩ := keys_putF f v r
    rw [show putF f v ((k, x) :: r) = (if k = f then (k, v) :: r else (k, x) :: putF f v r) from rfl]
    by_cases hk : k = f
    · rw [if_pos hk]
      subst hk
      exact ⟨by simp, fun g h => by simpa using h⟩
    · rw [if_neg hk]
      refine ⟨?_, fun g h => ?_⟩
      · rw [List.map_cons]
        exact List.mem_cons_of_mem _ i1
      · rw [List.map_cons] at h ⊢
        rcases List.mem_cons.mp h with e | e
        · exact List.mem_cons.mpr (.inl e)
        · exact List.mem_cons_of_mem _ (i2 g e)
theorem length_putF (f : Str) (v : V) : ∀ fs : List (Str × V), (putF f v fs).length ≤ fs.length + 1
  | [] => by simp [putF]
  | (k, x) :: r => by
    have ih := length_putF f v r
    rw [show putF f v ((k, x) :: r) = (if k = f then (k, v) :: r else (k, x) :: putF f v r) from rfl]
    by_cases hk : k = f
    · rw [if_pos hk, List.length_cons, List.length_cons]; omega
    · rw [if_neg hk, List.length_cons, List.length_cons]; omega

theorem RelO.some_of {v : V} {o : Option Value} (r : RelO (some v) o) : ∃ u, o = some u ∧ RelV v u := by
  cases o with
  | none => exact (show False from r).elim
  | some u => exact ⟨u, rfl, r⟩
theorem RelO.none_of {o : Option Value} (r : RelO none o) : o = none := by
  cases o with
  | none => rfl
  | some u => exact (show False from r).elim
theorem handed_of {v : V} {u : Value} (r : RelV v u) : PySem.W.handedIn u = true := by
  cases v with
  | non => cases (show u = Value.none from r); rfl
  | bl b => cases (show u = Value.bool b from r); rfl
  | int i => obtain ⟨t, e⟩ := (show ∃ t, u = Value.int i t from r); cases e; rfl
  | str x => obtain ⟨t, e⟩ := (show ∃ t, u = Value.str x t from r); cases e; rfl
  | byt b => obtain ⟨t, e⟩ := (show ∃ t, u = Value.bytes b t from r); cases e; rfl
  | flt b => obtain ⟨t, e⟩ := (show ∃ t, u = Value.float b t from r); cases e; rfl
  | ref a => cases (show u = Value.ref a from r); rfl
  | ty n => cases (show u = Value.type n from r); rfl

section
variable {P : Program} {w : World} {H H' : Hp} {h h' : Heap} {a C dx : Addr} {fs fs' : List (Str × V)}
theorem ins_get (hok : HOk P w H h) (e : H a = some (.ins C dx fs)) : ∃ mA, ObjM h a dx C mA ∧ (∀ f, RelO (fs.lookup f) (mA f)) ∧ PySem.Within mA (fs.map (·.1)) ∧ fs.length ≤ 1000 ∧ H dx = some (.own a) := by
  obtain ⟨d, z, ne, ob, mA, n, r, q⟩ := (show ObjOk P w H h a (.ins C dx fs) from hok a _ e)
  exact ⟨mA, ⟨ob, n, ne⟩, r, q, z, d⟩
end

/-! ### what of the text a class must have -/
structure Cls (K : PySem.W.Frag) (C : Addr) : Prop where
  pg : PySem.W.plainGet K C Str.empty = true
  hd : PySem.W.hasDictIn K C = true
  po : PySem.W.plainOver K C = true
  sa : PySem.W.findIn K (.ref C) "__setattr__" = some (some (.builtin "object.__setattr__"))
theorem Cls.get {K : PySem.W.Frag} {C : Addr} (c : Cls K C) (f : Str) : PySem.W.plainGet K C f = true := c.pg
/-- no class of it has the name -/
def NoAttr (K : PySem.W.Frag) (C : Addr) (f : Str) : Prop := PySem.W.findIn K (.ref C) f = some none
theorem NoAttr.taker {K : PySem.W.Frag} {C : Addr} {f : Str} (n : NoAttr K C f) : PySem.W.takerIn K C f = some none := by
  unfold PySem.W.takerIn
  rw [show PySem.W.findIn K (.ref C) f = some none from n]
  rfl
/-- a constant of the class -/
structure Con (K : PySem.W.Frag) (C : Addr) (f : Str) (v : V) (u : Value) : Prop where
  at_ : PySem.W.findIn K (.ref C) f = some (some u)
  rel : RelV v u
  get : PySem.W.specialIn K u "__get__" = some none
  cp : PySem.W.copiedNames.contains f = false
/-- a method: a plain def of the class or of one above it -/
structure Meth (K : PySem.W.Frag) (C : Addr) (m : Str) (f : Addr) : Prop where
  at_ : PySem.W.findIn K (.ref C) m = some (some (.ref f))
  fn : PySem.W.isFn K (.ref f) = true
  kp : PySem.W.keepIn K (.ref f) = true

section
variable {X : Cx} {pins : List (Addr × Obj)} {σ : St} {H : Hp} {s : Shared} {a C dx : Addr} {fs : List (Str × V)} {f : Str} {v : V} {A : Around} {E : Value → Shared → Prop}

theorem getattr_ok {b : Bool} {Q : Value → Shared → Prop} (I : Inv X pins σ H s) (e : H a = some (.ins C dx fs)) (c : Cls X.K C) (n : NoAttr X.K C f) (l : fs.lookup f = some v)
    (h : ∀ u s', Inv X pins σ H s' → RelV v u → Q u s') : wpAny (model X.prog X.w) A (getAttr (.ref a) f b) Q E s := by
  obtain ⟨mA, O, r, _, _, _⟩ := ins_get I.hok e
  obtain ⟨u, hu, ru⟩ := RelO.some_of (v := v) (o := mA f) (by rw [← l]; exact r f)
  exact get_map I.kIn O (c.get f) c.hd n hu (handed_of ru) (h u _ (I.tok _) ru)

theorem getcon_ok {b : Bool} {u : Value} {Q : Value → Shared → Prop} (I : Inv X pins σ H s) (e : H a = some (.ins C dx fs)) (c : Cls X.K C) (k : Con X.K C f v u) (l : fs.lookup f = none)
    (h : ∀ s', Inv X pins σ H s' → Q u s') : wpAny (model X.prog X.w) A (getAttr (.ref a) f b) Q E s := by
  obtain ⟨mA, O, r, _, _, _⟩ := ins_get I.hok e
  have hn : mA f = none := RelO.none_of (by rw [← l]; exact r f)
  exact get_const I.kIn O (c.get f) c.hd k.at_ k.get k.cp hn (handed_of k.rel) (h _ (I.tok _))

theorem getmeth_ok {m : Str} {g : Addr} {pl : Sem Bool} {Q : Value × List Value → Shared → Prop} (I : Inv X pins σ H s) (e : H a = some (.ins C dx fs)) (c : Cls X.K C) (k : Meth X.K C m g) (l : fs.lookup m = none)
    (h : Q (.ref g, [.ref a]) s) : wpAny (model X.prog X.w) A (getMethod (.ref a) m pl) Q E s := by
  obtain ⟨mA, O, r, _, _, _⟩ := ins_get I.hok e
  have hn : mA m = none := RelO.none_of (by rw [← l]; exact r m)
  exact get_meth I.kIn O (c.get m) k.at_ k.fn hn h

theorem setattr_ok {y : V} {u : Value} {Q : Unit → Shared → Prop} (I : Inv X pins σ H s) (e : H a = some (.ins C dx fs)) (c : Cls X.K C) (n : NoAttr X.K C f) (hl : fs.length < 1000) (ry : RelV y u)
    (h : ∀ s', Inv X pins σ (upd H a (.ins C dx (putF f y fs))) s' → Q () s') : wpAny (model X.prog X.w) A (setAttr (.ref a) f u) Q E s := by
  obtain ⟨mA, O, r, wi, _, ho⟩ := ins_get I.hok e
  have hz : (fs.map (·.1)).length ≤ sizeLine := by rw [List.length_map, sizeLine_eq]; omega
  refine set_map I.kIn O c.sa c.po n.taker c.hd wi hz fun h' O' sb => h _ ?_
  have hd : ∃ o, h'.get? dx = some o := let ⟨o, _, _, e', _⟩ := O'.ns; ⟨o, e'⟩
  refine I.write (x := a) (e := dx) (by rw [e]; exact True.intro) (.inr ho) (fun b q hb z => (sb.2 b hb).trans z) hd ?_
  refine ⟨by rw [upd_ne O.ne]; exact ho, ?_, O.ne, O'.obj, _, O'.ns, fun g => ?_, fun g hg => ?_⟩
  · have := length_putF f y fs; omega
  · show RelO ((putF f y fs).lookup g) (if g = f then some u else mA g)
    rw [lookup_putF]
    by_cases q : g = f
    · rw [if_pos q, if_pos q]; exact ry
    · rw [if_neg q, if_neg q]; exact r g
  · by_cases q : g = f
    · rw [q]; exact (keys_putF f y fs).1
    · refine (keys_putF f y fs).2 g (wi g fun z => hg ?_)
      show (if g = f then some u else mA g) = none
      rw [if_neg q]; exact z

/-- a new instance, tracked, without attributes -/
theorem Inv.made (I : Inv X pins σ H s) : Inv X pins σ (upd (upd H s.heap.objs.size (.own (s.heap.objs.size + 1))) (s.heap.objs.size + 1) (.ins C s.heap.objs.size []))
    { s with heap := (s.heap.push PySem.W.emptyDict).push (PySem.W.instObj C s.heap.objs.size) } := by
  have e1 : (s.heap.push PySem.W.emptyDict).get? s.heap.objs.size = some PySem.W.emptyDict := Heap.get?_push_size s.heap rfl
  have e2 : ((s.heap.push PySem.W.emptyDict).push (PySem.W.instObj C s.heap.objs.size)).get? (s.heap.objs.size + 1) = some (PySem.W.instObj C s.heap.objs.size) := by
    have := Heap.get?_push_size (s.heap.push PySem.W.emptyDict) (o := PySem.W.instObj C s.heap.objs.size) rfl
    rwa [Heap.size_push] at this
  have e3 : (s.heap.push PySem.W.emptyDict).Ns s.heap.objs.size (fun _ => none) := ⟨PySem.W.emptyDict, #[], _, e1, rfl, (fun e he => absurd he (by simp)), fun _ => rfl⟩
  have I1 := I.laid (a := s.heap.objs.size) (o := .own (s.heap.objs.size + 1)) (h' := s.heap.push PySem.W.emptyDict) (t' := s.toks) (fun b u q => Heap.get?_push_of_some _ q) (Nat.le_refl _) ⟨_, e1⟩
  refine I1.laid (a := s.heap.objs.size + 1) (o := .ins C s.heap.objs.size []) (t' := s.toks) (fun b u q => Heap.get?_push_of_some _ q) (Nat.le_of_eq (Heap.size_push _ _)) ?_
  have ne : s.heap.objs.size ≠ s.heap.objs.size + 1 := Nat.ne_of_lt (Nat.lt_succ_self _)
  refine ⟨by rw [upd_ne ne, upd_same], Nat.zero_le _, ne, e2, fun _ => none, (Heap.Ns1.of_empty e3).at fun o q => Heap.get?_push_of_some _ q, fun _ => True.intro, fun y hy => absurd rfl hy⟩

/-- e.f where nothing but the object is asked: through attributeBase (super) and the last hold -/
theorem attr_of {prog : Program} {w : World} {env : Env} {e : Expr} {f : Str} {pos : Pos} {s : Shared} {Q : Value → Shared → Prop} (hb : attributeBase e f env (eval e env) = eval e env)
    (h : wpAny (model prog w) A (eval e env) (fun o s₁ => wpAny (model prog w) A (getAttr o f true) Q E s₁) E s) : wpAny (model prog w) A (eval (.Attribute e f pos) env) Q E s :=
  Attribute_any_ h (by rw [arm_eval_Attribute, hb])
end

/-! ### readings and rules -/
/-- e.f, an attribute of the instance -/
def tFld (K : PySem.W.Frag) (ta : TE) (f : Str) : TE := fun σ H Q => ta σ H fun x H1 => ∃ a C dx fs v, x = .ref a ∧ H1 a = some (.ins C dx fs) ∧ Cls K C ∧ NoAttr K C f ∧ fs.lookup f = some v ∧ Q v H1
/-- e.f, a constant of the class -/
def tCon (K : PySem.W.Frag) (ta : TE) (f : Str) : TE := fun σ H Q => ta σ H fun x H1 => ∃ a C dx fs v u, x = .ref a ∧ H1 a = some (.ins C dx fs) ∧ Cls K C ∧ Con K C f v u ∧ fs.lookup f = none ∧ Q v H1
/-- e.f = value -/
def sFld (K : PySem.W.Frag) (ta tv : TE) (f : Str) : TS := fun D σ H => tv σ H fun y H1 => ta σ H1 fun x H2 => ∃ a C dx fs, x = .ref a ∧ H2 a = some (.ins C dx fs) ∧ Cls K C ∧ NoAttr K C f ∧ fs.length < 1000 ∧
  D.nx σ (upd H2 a (.ins C dx (putF f y fs)))
/-- an augmented operator on two values -/
def InOp (X : Cx) (op : Operator) (rd : V → V → Hp → VK → Prop) : Prop :=
  ∀ (pins : List (Addr × Obj)) (s : Shared) (σ : St) (H : Hp) (x y : V) (u v : Value) (Q : VK), Inv X pins σ H s → RelV x u → RelV y v → rd x y H Q → wpAny (model X.prog X.w) X.A (inplaceOp op u v) (EP X pins σ Q) X.xe s
/-- e.f op= value -/
def sFldAug (K : PySem.W.Frag) (ta tv : TE) (rd : V → V → Hp → VK → Prop) (f : Str) : TS := fun D σ H => ta σ H fun x H1 => ∃ a C dx fs v, x = .ref a ∧ H1 a = some (.ins C dx fs) ∧ Cls K C ∧ NoAttr K C f ∧ fs.lookup f = some v ∧
  tv σ H1 fun y H2 => rd v y H2 fun z H3 => ∃ dx' fs', H3 a = some (.ins C dx' fs') ∧ fs'.length < 1000 ∧ D.nx σ (upd H3 a (.ins C dx' (putF f z fs')))

section
variable {X : Cx} {o e value : Expr} {f : Str} {pos pos' tpos : Pos} {ta tv : TE}
theorem pe_fld (he : PE X e ta) (hb : attributeBase e f X.env (eval e X.env) = eval e X.env) : PE X (.Attribute e f pos) (tFld X.K ta f) := by
  intro pins s σ H Q I h
  refine attr_of hb (thn (he pins s σ H _ I h) fun u s1 ⟨x, H1, I1, rx, a, C, dx, fs, v, ex, ea, c, n, l, q⟩ => ?_)
  subst ex
  obtain rfl : u = Value.ref a := rx
  exact getattr_ok I1 ea c n l fun u' s2 I2 ru => ⟨v, H1, I2, ru, q⟩
theorem pe_con (he : PE X e ta) (hb : attributeBase e f X.env (eval e X.env) = eval e X.env) : PE X (.Attribute e f pos) (tCon X.K ta f) := by
  intro pins s σ H Q I h
  refine attr_of hb (thn (he pins s σ H _ I h) fun u s1 ⟨x, H1, I1, rx, a, C, dx, fs, v, u0, ex, ea, c, k, l, q⟩ => ?_)
  subst ex
  obtain rfl : u = Value.ref a := rx
  exact getcon_ok I1 ea c k l fun s2 I2 => ⟨v, H1, I2, k.rel, q⟩
theorem ps_fld (ha : PE X o ta) (hv : PE X value tv) (hs : swapsWith value (some (.Attribute o f pos')) pos.line X.env = pure false) : PS X (.Assign [.Attribute o f pos'] value pos) (sFld X.K ta tv f) := by
  intro pins s σ H D I h
  refine plainObj_wpAny_Assign_Attribute (thn (hv pins s σ H _ I h) fun u s1 ⟨y, H1, I1, ry, q⟩ => thn (ha pins s1 σ H1 _ I1 q) fun ov s2 ⟨x, H2, I2, rx, a, C, dx, fs, ex, ea, c, n, l, q2⟩ => ?_) hs
  subst ex
  obtain rfl : ov = Value.ref a := rx
  exact setattr_ok I2 ea c n l ry fun s3 I3 => ⟨σ, _, I3, q2⟩
theorem ps_fldaug {op : Operator} {rd : V → V → Hp → VK → Prop} (ha : PE X o ta) (hv : PE X value tv) (hop : InOp X op rd) : PS X (.AugAssign (.Attribute o f tpos) op value pos) (sFldAug X.K ta tv rd f) := by
  intro pins s σ H D I h
  refine wpAny_AugAssign_AttributeAny (thn (ha pins s σ H _ I h) fun ov s1 ⟨x, H1, I1, rx, a, C, dx, fs, v, ex, ea, c, n, l, q⟩ => ?_)
  subst ex
  obtain rfl : ov = Value.ref a := rx
  refine getattr_ok I1 ea c n l fun u s2 I2 ru => thn (hv pins s2 σ H1 _ I2 q) fun w3 s3 ⟨y, H2, I3, ry, q3⟩ => thn (hop pins s3 σ H2 v y u w3 _ I3 ru ry q3) fun w4 s4 ⟨z, H3, I4, rz, dx', fs', ea', l', q4⟩ => ?_
  exact setattr_ok I4 ea' c n l' rz fun s5 I5 => ⟨σ, _, I5, q4⟩
def rAdd : V → V → Hp → VK → Prop := fun x y H Q => ∃ i j, x = .int i ∧ y = .int j ∧ Q (.int (i + j)) H
def rSub : V → V → Hp → VK → Prop := fun x y H Q => ∃ i j, x = .int i ∧ y = .int j ∧ Q (.int (i - j)) H
theorem in_add : InOp X .Add rAdd := by
  rintro pins s σ H x y u v Q I rx ry ⟨i, j, rfl, rfl, q⟩
  obtain ⟨t, rfl⟩ := (show ∃ t, u = Value.int i t from rx)
  obtain ⟨t', rfl⟩ := (show ∃ t', v = Value.int j t' from ry)
  exact PyProof.Rows.iadd_int ⟨.int (i + j), H, I.tok _, ⟨_, rfl⟩, q⟩
theorem in_sub : InOp X .Sub rSub := by
  rintro pins s σ H x y u v Q I rx ry ⟨i, j, rfl, rfl, q⟩
  obtain ⟨t, rfl⟩ := (show ∃ t, u = Value.int i t from rx)
  obtain ⟨t', rfl⟩ := (show ∃ t', v = Value.int j t' from ry)
  exact PyProof.Rows.isub_int ⟨.int (i - j), H, I.tok _, ⟨_, rfl⟩, q⟩

/-- what is between an instance and its method: the tree of a method call -/
theorem methcall_of {pl : Sem Bool} {m : Str} {apos : Pos} {args : List Expr} {pins : List (Addr × Obj)} {s : Shared} {σ : St} {H : Hp} {Q : Value → Shared → Prop} {te : TE} (he : PE X e te) (I : Inv X pins σ H s)
    (h : te σ H fun x H1 => ∃ a C dx fs g, x = .ref a ∧ H1 a = some (.ins C dx fs) ∧ Cls X.K C ∧ Meth X.K C m g ∧ fs.lookup m = none ∧
      ∀ s1, Inv X pins σ H1 s1 → wpAny (model X.prog X.w) X.A (callWith pos (.ref g) [.ref a] (backTo pos (starEach args X.env)) (backToKw pos (keywordEach [] X.env))) Q X.xe s1)
    (ht : eval (.Call (.Attribute e m apos) args [] pos) X.env = (do
      let ov ← eval e X.env
      standAt apos.atName
      let (f, first) ← holding [ov] (getMethod ov m pl)
      callWith pos f first (backTo pos (starEach args X.env)) (backToKw pos (keywordEach [] X.env)))) :
    wpAny (model X.prog X.w) X.A (eval (.Call (.Attribute e m apos) args [] pos) X.env) Q X.xe s := by
  refine PySem.W.methodCall_KW (pl := pl) (thn (he pins s σ H _ I h) fun u s1 ⟨x, H1, I1, rx, a, C, dx, fs, g, ex, ea, c, k, l, q⟩ => ?_) ht
  subst ex
  obtain rfl : u = Value.ref a := rx
  exact getmeth_ok I1 ea c k l (q s1 I1)
end

/-! ### isinstance -/
section
variable {X : Cx} {pins : List (Addr × Obj)} {σ : St} {H : Hp} {s : Shared} {A : Around} {E : Value → Shared → Prop} {Q : Value → Shared → Prop} {c : Value} {b : Bool}
/-- the type of a value, as the fragment's deciders take it; for an instance its class -/
inductive TyOf (K : PySem.W.Frag) (H : Hp) : V → Value → Prop where
  | non : TyOf K H .non (.type "NoneType")
  | bl (x : Bool) : TyOf K H (.bl x) (.type "bool")
  | int (i : Int) : TyOf K H (.int i) (.type "int")
  | str (x : Str) : TyOf K H (.str x) (.type "str")
  | flt (x : UInt64) : TyOf K H (.flt x) (.type "float")
  | lst {a : Addr} {xs : List V} (e : H a = some (.lst xs)) : TyOf K H (.ref a) (.type "list")
  | frz {a : Addr} {o : Obj} {xs : List V} (e : H a = some (.frz o (.lst xs))) : TyOf K H (.ref a) (.type "list")
  | tup {a : Addr} {xs : List V} (e : H a = some (.tup xs)) : TyOf K H (.ref a) (.type "tuple")
  | dK {a : Addr} {kvs : List (Key × V)} (e : H a = some (.dK kvs)) : TyOf K H (.ref a) (.type "dict")
  | dT {a : Addr} {kvs : List (List Key × V)} (e : H a = some (.dT kvs)) : TyOf K H (.ref a) (.type "dict")
  | ins {a C dx : Addr} {fs : List (Str × V)} (e : H a = some (.ins C dx fs)) (cl : Cls K C) (ha : PySem.W.findIn K (.ref C) "__class__" = some (some (.builtin "object.__class__")))
      (hn : PySem.W.specialIn K (.builtin "object.__class__") "__get__" = some (some (.builtin "getset_descriptor.__get__"))) (htk : PySem.W.takesIn K (.builtin "object.__class__") = some true)
      (hm : PySem.W.mroIn K C (.type "object") = some true) : TyOf K H (.ref a) (.ref C)
/-- isinstance(x, c) for one class c, a built-in or an own one: kitOne's answer -/
theorem isinst_ok {x : V} {u t : Value} (I : Inv X pins σ H s) (rx : RelV x u) (ty : TyOf X.K H x t) (e : PySem.W.kitOne X.K t c = some b) (h : ∀ tk, Q (.bool b) { s with toks := tk }) :
    wpAny (model X.prog X.w) A (call (.builtin "isinstance") [u, c]) Q E s := by
  cases ty with
  | non => cases (show u = Value.none from rx); exact PySem.W.kia_one PySem.W.kitx_none I.kIn True.intro e (fun z => nomatch z) h
  | bl y => cases (show u = Value.bool y from rx); exact PySem.W.kia_one PySem.W.kitx_bool I.kIn True.intro e (fun z => nomatch z) h
  | int i => obtain ⟨t, q⟩ := (show ∃ t, u = Value.int i t from rx); cases q; exact PySem.W.kia_one PySem.W.kitx_int I.kIn True.intro e (fun z => nomatch z) h
  | str y => obtain ⟨t, q⟩ := (show ∃ t, u = Value.str y t from rx); cases q; exact PySem.W.kia_one PySem.W.kitx_str I.kIn True.intro e (fun z => nomatch z) h
  | flt y => obtain ⟨t, q⟩ := (show ∃ t, u = Value.float y t from rx); cases q; exact PySem.W.kia_one PySem.W.kitx_float I.kIn True.intro e (fun z => nomatch z) h
  | @lst a xs ea =>
    cases (show u = Value.ref a from rx)
    obtain ⟨_, _, n, _, h1⟩ := (show ObjOk X.prog X.w H s.heap a (.lst xs) from I.hok a _ ea)
    exact PySem.W.kia_one PySem.W.kitx_list I.kIn ⟨_, h1, rfl⟩ e (fun z => nomatch z) h
  | @frz a ob xs ea =>
    cases (show u = Value.ref a from rx)
    obtain ⟨_, _, _, n, _, h1⟩ := (show ObjOk X.prog X.w H s.heap a (.frz ob (.lst xs)) from I.hok a _ ea)
    exact PySem.W.kia_one PySem.W.kitx_list I.kIn ⟨_, h1, rfl⟩ e (fun z => nomatch z) h
  | @tup a xs ea =>
    cases (show u = Value.ref a from rx)
    obtain ⟨_, _, _, p⟩ := (show ObjOk X.prog X.w H s.heap a (.tup xs) from I.hok a _ ea)
    obtain ⟨o, h1, h2, _⟩ := p
    exact PySem.W.kia_one PySem.W.kitx_tuple I.kIn ⟨o, h1, h2⟩ e (fun z => nomatch z) h
  | @dK a kvs ea =>
    cases (show u = Value.ref a from rx)
    obtain ⟨_, _, vs, _, p⟩ := (show ObjOk X.prog X.w H s.heap a (.dK kvs) from I.hok a _ ea)
    obtain ⟨o, es, ep, h1, h2, _⟩ := p
    exact PySem.W.kia_one PySem.W.kitx_dict I.kIn ⟨o, h1, h2.1⟩ e (fun z => nomatch z) h
  | @dT a kvs ea =>
    cases (show u = Value.ref a from rx)
    obtain ⟨_, _, xs, _, o, es, ep, h1, h2, _⟩ := (show ObjOk X.prog X.w H s.heap a (.dT kvs) from I.hok a _ ea)
    exact PySem.W.kia_one PySem.W.kitx_dict I.kIn ⟨o, h1, h2.1⟩ e (fun z => nomatch z) h
  | @ins a C dx fs ea cl ha hn htk hm =>
    cases (show u = Value.ref a from rx)
    obtain ⟨mA, O, _⟩ := ins_get I.hok ea
    obtain ⟨od, J, _⟩ := O.look
    exact PySem.W.kia_one (PySem.W.kitx_own (cl.get _) cl.hd ha hn htk hm) I.kIn J e (fun z => nomatch z) h
end
end L2

namespace L2
open PySem PySem.Spec PyProof.Rows

/-! ### room -/
structure Room (k : Nat) (A : Around) : Prop where
  hd : A.handled = none
  dp : A.depth + 3 * k + 5 < recursionLimit
  un : A.units + 16 * k + 200 < cLine
theorem Room.mono {j k : Nat} {A : Around} (r : Room k A) (h : j ≤ k) : Room j A := ⟨r.hd, by have := r.dp; omega, by have := r.un; omega⟩
theorem Room.deeper {k : Nat} {A : Around} (r : Room (k + 1) A) (env : Env) : Room k (A.deeper env) :=
  ⟨r.hd, by have := r.dp; show A.depth + 1 + 3 * k + 5 < _; omega, by have := r.un; show A.units + 3 + 16 * k + 200 < _; omega⟩
theorem Room.in1 {k : Nat} {A : Around} (r : Room (k + 1) A) : Room k A.in1 :=
  ⟨r.hd, by have := r.dp; show A.depth + 3 * k + 5 < _; omega, by have := r.un; show A.units + 1 + 16 * k + 200 < _; omega⟩
theorem make_depth {A : Around} {C : Addr} {us : List Value} {kw : List (Str × Value)} : (A.under (.builtin "type.__call__" ⟨.ref C :: us, kw⟩)).depth = A.depth + 1 := by
  first | rfl | simp [Around.under, Code.weight, Code.isCreation, Code.isGuard, Code.isCaller, Code.frames, Code.isFrame, guardIds]
theorem make_units {A : Around} {C : Addr} {us : List Value} {kw : List (Str × Value)} : (A.under (.builtin "type.__call__" ⟨.ref C :: us, kw⟩)).units = A.units + 1 := by
  first | rfl | simp [Around.under, Code.cUnits, Code.frames, Code.isFrame]
theorem Room.make {k : Nat} {A : Around} (r : Room (k + 1) A) (C : Addr) (us : List Value) (kw : List (Str × Value)) : Room k (A.under (.builtin "type.__call__" ⟨.ref C :: us, kw⟩)) :=
  ⟨r.hd, by have := r.dp; rw [make_depth]; omega, by have := r.un; rw [make_units]; omega⟩
theorem Room.depth {k : Nat} {A : Around} (r : Room k A) : A.depth < recursionLimit := by have := r.dp; omega
theorem Room.units {k : Nat} {A : Around} (r : Room k A) : A.units + 64 < cLine := by have := r.un; omega
theorem Room.units0 {k : Nat} {A : Around} (r : Room k A) : A.units < cLine := by have := r.un; omega

/-! ### argument lists and displays -/
def tNil : TA := fun _ H Q => Q [] H
def tCons (ta : TE) (tr : TA) : TA := fun σ H Q => ta σ H fun x H1 => tr σ H1 fun xs H2 => Q (x :: xs) H2
section
variable {X : Cx} {e : Expr} {es : List Expr} {te : TE} {t : TA} {pos : Pos}
theorem pa_nil : PA X [] tNil := fun _ _ _ _ H Q I h => Calls.spliced_nil ⟨[], H, I, .nil, h⟩
theorem pa_cons (ha : PE X e te) (hr : PA X es t) (hs : starEach (e :: es) X.env = (false, eval e X.env) :: starEach es X.env := by rfl) : PA X (e :: es) (tCons te t) := by
  intro pos pins s σ H Q I h
  rw [hs]
  show wpAny _ _ (spliced ((false, eval e X.env) :: backTo pos (starEach es X.env))) _ _ s
  refine Calls.spliced_cons (thn (ha pins s σ H _ I h) fun u s1 ⟨x, H1, I1, r1, q1⟩ => ?_)
  exact thn (hr pos pins s1 σ H1 _ I1 q1) fun us s2 ⟨xs, H2, I2, r2, q2⟩ => ⟨x :: xs, H2, I2, .cons r1 r2, q2⟩

/-- a tuple, a list of written items -/
def tTup (t : TA) : TE := fun σ H Q => t σ H fun xs H1 => xs.length ≤ sizeLine ∧ ∀ p, H1 p = none → Q (.ref p) (upd H1 p (.tup xs))
def tLst (t : TA) : TE := fun σ H Q => t σ H fun xs H1 => xs.length ≤ sizeLine ∧ ∀ p, H1 p = none → Q (.ref p) (upd H1 p (.lst xs))
theorem pe_tup {x1} (h : PA X es t) : PE X (.Tuple es x1 pos) (tTup t) := by
  intro pins s σ H Q I hq
  refine wpAny_Tuple_spliced (thn (h pos pins s σ H _ I hq) fun us s1 ⟨xs, H1, I1, r, z, q⟩ => ⟨by rw [← r.length]; exact z, ?_⟩)
  have hf : H1 s1.heap.objs.size = none := I1.hok.fresh (Nat.le_refl _)
  refine ⟨.ref s1.heap.objs.size, upd H1 s1.heap.objs.size (.tup xs), I1.laid (t' := s1.toks) (fun b u e => Heap.get?_push_of_some _ e) (Nat.le_refl _) ?_, rfl, q _ hf⟩
  exact ⟨z, us, r, ⟨_, Heap.get?_push_size _ rfl, rfl, _, rfl⟩⟩
theorem pe_lst (h : PA X es t) : PE X (.List es pos) (tLst t) := by
  intro pins s σ H Q I hq
  refine wpAny_List_spliced (thn (h pos pins s σ H _ I hq) fun us s1 ⟨xs, H1, I1, r, z, q⟩ => ⟨by rw [← r.length]; exact z, ?_⟩)
  have hf : H1 s1.heap.objs.size = none := I1.hok.fresh (Nat.le_refl _)
  refine ⟨.ref s1.heap.objs.size, upd H1 s1.heap.objs.size (.lst xs), I1.laid (t' := s1.toks) (fun b u e => Heap.get?_push_of_some _ e) (Nat.le_refl _) ?_, rfl, q _ hf⟩
  exact ⟨z, us, 0, r, Heap.get?_push_size _ rfl⟩
end

/-! ### what a def promises -/
/-- a def's promise: the bound arguments in the parameters' order, the heap, the wanted end, the wanted exception -/
abbrev Sp := List V → Hp → VK → XK → Prop
/-- how an exception lies behind a call (file 08 gives it): the callers' frames, abstract heap and state ahead of the call, the wish, the exception, the state -/
abbrev CXT := List Env → Hp → Shared → XK → Value → Shared → Prop

/-- the state at a call -/
structure Env0 (P : Program) (w : World) (K : PySem.W.Frag) (mg : Str → Option Value) (base : Heap) (A : Around) (outer : List Env) (s : Shared) (H : Hp) : Prop where
  frames : A.frames = some outer
  mod : Mod K mg base
  bs : ∀ b o, base.get? b = some o → s.heap.get? b = some o ∧ H b = none
  bsz : base.objs.size ≤ s.heap.objs.size
  funs : s.heap.FunFrames base outer
  frf : ∀ b ∈ frs outer, H b = none
  hok : HOk P w H s.heap
  bare : AllBare s.gens
/-- a call's end -/
def CE (outer : List Env) (P : Program) (w : World) (H : Hp) (s : Shared) (Q : VK) (u : Value) (s' : Shared) : Prop :=
  ∃ v H', s'.os = s.os ∧ AllBare s'.gens ∧ Un (frs outer) [] H H' s.heap s'.heap ∧ HOk P w H' s'.heap ∧ RelV v u ∧ Q v H'
def CR (CX : CXT) (outer : List Env) (P : Program) (w : World) (H : Hp) (s : Shared) (Q : VK) (E : XK) (r : Result) (s' : Shared) : Prop :=
  match r with
  | .ok (.ret u) => CE outer P w H s Q u s'
  | .ok _ => False
  | .error e => CX outer H s E e s'
structure FnOk (P : Program) (w : World) (K : PySem.W.Frag) (mg : Str → Option Value) (base : Heap) (CX : CXT) (k : Nat) (f : Addr) (fd : FuncData) (ps : List Str) (sp : Sp) : Prop where
  len : ∀ vs H Q E, sp vs H Q E → vs.length = ps.length
  run : ∀ (A : Around) (outer : List Env) (s : Shared) (H : Hp) (args : Args) (us : List Value) (vs : List V) (Q : VK) (E : XK), Room k A → Env0 P w K mg base A outer s H → BindsTo s fd args (ps.zip us) → Vals vs us → sp vs H Q E →
    codeAny (model P w) A (.call (.ref f) args) (CR CX outer P w H s Q E) s
theorem FnOk.mono {P : Program} {w : World} {K : PySem.W.Frag} {mg : Str → Option Value} {base : Heap} {CX : CXT} {j k : Nat} {f : Addr} {fd : FuncData} {ps : List Str} {sp : Sp} (F : FnOk P w K mg base CX j f fd ps sp) (h : j ≤ k) :
    FnOk P w K mg base CX k f fd ps sp := ⟨F.len, fun A outer s H args us vs Q E hr => F.run A outer s H args us vs Q E (hr.mono h)⟩
/-- a weaker promise -/
theorem FnOk.imp {P : Program} {w : World} {K : PySem.W.Frag} {mg : Str → Option Value} {base : Heap} {CX : CXT} {k : Nat} {f : Addr} {fd : FuncData} {ps : List Str} {sp sp' : Sp} (F : FnOk P w K mg base CX k f fd ps sp)
    (h : ∀ vs H Q E, sp' vs H Q E → sp vs H Q E) : FnOk P w K mg base CX k f fd ps sp' :=
  ⟨fun vs H Q E q => F.len vs H Q E (h _ _ _ _ q), fun A outer s H args us vs Q E hr he hb hv hs => F.run A outer s H args us vs Q E hr he hb hv (h _ _ _ _ hs)⟩

theorem Env0.make {P : Program} {w : World} {K : PySem.W.Frag} {mg : Str → Option Value} {base : Heap} {A : Around} {outer : List Env} {s : Shared} {H : Hp} (e : Env0 P w K mg base A outer s H) (C : Addr) (us : List Value) (kw : List (Str × Value)) :
    Env0 P w K mg base (A.under (.builtin "type.__call__" ⟨.ref C :: us, kw⟩)) outer s H := ⟨by first | exact e.frames | (simpa [Around.under, Code.envs, Code.isFrame, pushEnvs] using e.frames), e.mod, e.bs, e.bsz, e.funs, e.frf, e.hok, e.bare⟩
theorem Env0.in1 {P : Program} {w : World} {K : PySem.W.Frag} {mg : Str → Option Value} {base : Heap} {A : Around} {outer : List Env} {s : Shared} {H : Hp} (e : Env0 P w K mg base A outer s H) :
    Env0 P w K mg base A.in1 outer s H := ⟨e.frames, e.mod, e.bs, e.bsz, e.funs, e.frf, e.hok, e.bare⟩

section
variable {X : Cx} {pins : List (Addr × Obj)} {σ : St} {H : Hp} {s s' : Shared}
/-- from a body: what a callee wants -/
theorem Inv.env0 (I : Inv X pins σ H s) : Env0 X.prog X.w X.K X.mg X.base X.A X.stack s H :=
  ⟨I.ok.frames, I.ok.mod, I.bs, Nat.le_trans I.ok.bsz I.sz, I.stack, I.stkFree, I.hok, I.bare⟩
/-- behind a call -/
theorem Inv.after {Q : VK} {u : Value} (I : Inv X pins σ H s) (h : CE X.stack X.prog X.w H s Q u s') : EP X pins σ Q u s' := by
  obtain ⟨v, H', os, bare, un, hok, r, q⟩ := h
  obtain ⟨hh, g, d, t, os'⟩ := s'
  obtain rfl : os' = s.os := os
  exact ⟨v, H', I.call (h' := hh) (g' := g) (d' := d) (t' := t) (ch := []) un hok bare (fun b z => absurd z (by simp)), r, q⟩
end

/-! ### calls -/
/-- f(..): the written arguments, then the defaults dvs; E: what is wanted of an exception -/
def tCall (sp : Sp) (dvs : List V) (E : XK) (t : TA) : TE := fun σ H Q => t σ H fun vs H1 => sp (vs ++ dvs) H1 Q E
/-- o.m(..) of an instance of the class at C -/
def tMeth (C : Addr) (m : Str) (sp : Sp) (dvs : List V) (E : XK) (ta : TE) (t : TA) : TE := fun σ H Q => ta σ H fun x H1 => ∃ a dx fs, x = .ref a ∧ H1 a = some (.ins C dx fs) ∧ fs.lookup m = none ∧
  t σ H1 fun vs H2 => sp (x :: (vs ++ dvs)) H2 Q E
/-- C(..): a new instance and its dict, then __init__ -/
def tMake (C : Addr) (sp : Sp) (dvs : List V) (E : XK) (t : TA) : TE := fun σ H Q => t σ H fun vs H1 => ∀ x dx, H1 x = none → H1 dx = none → dx ≠ x →
  sp (.ref x :: (vs ++ dvs)) (upd (upd H1 dx (.own x)) x (.ins C dx [])) (fun v H2 => v = .non ∧ Q (.ref x) H2) E

/-- how the parameters are bound: us the positional arguments, kw the keywords' values by name, ds the defaults that fill up -/
def Binds (K : PySem.W.Frag) (fd : FuncData) (ps : List Str) (ds : List Value) : Prop :=
  ∀ (s : Shared) (us : List Value), K.In s.heap → (us ++ ds).length = ps.length → BindsTo s fd ⟨us, []⟩ (ps.zip (us ++ ds))
/-- every parameter is given -/
theorem Binds.all {K : PySem.W.Frag} {fd : FuncData} {ps : List Str} (h : ∀ us : List Value, us.length = ps.length → bindArgs fd ⟨us, []⟩ = pure (ps.zip us)) : Binds K fd ps [] := fun s us _ hl => by
  rw [List.append_nil] at hl ⊢
  exact .of_eq (h us hl)

/-- an exception of a callee reaches what this body wants of exceptions -/
def Passes (CX : CXT) (X : Cx) (E : XK) : Prop := ∀ (pins : List (Addr × Obj)) (σ : St) (H : Hp) (s : Shared) (e : Value) (s' : Shared), Inv X pins σ H s → CX X.stack H s E e s' → X.xe e s'

section
variable {X : Cx} {CX : CXT} {k : Nat} {f C : Addr} {fd : FuncData} {ps : List Str} {sp : Sp} {dvs : List V} {ds : List Value} {E : XK} {x m : Str} {p pos apos : Pos} {e o : Expr} {es : List Expr} {ta : TE} {t : TA}

/-- the callee runs -/
theorem run_fn {pins : List (Addr × Obj)} {σ : St} {H : Hp} {s : Shared} {Q : VK} {us : List Value} {vs : List V} (F : FnOk X.prog X.w X.K X.mg X.base CX k f fd ps sp) (hr : Room k X.A) (hb : Binds X.K fd ps ds) (hd : Vals dvs ds) (hx : Passes CX X E)
    (I : Inv X pins σ H s) (r : Vals vs us) (h : sp (vs ++ dvs) H Q E) : wpAny (model X.prog X.w) X.A (call (.ref f) us) (EP X pins σ Q) X.xe s := by
  have r2 : Vals (vs ++ dvs) (us ++ ds) := r.append hd
  have hl : (us ++ ds).length = ps.length := by rw [← r2.length]; exact F.len _ _ _ _ h
  refine wpAny_call (codeAny_mono (F.run X.A X.stack s H ⟨us, []⟩ (us ++ ds) (vs ++ dvs) Q E hr I.env0 (hb s us I.kIn hl) r2 h) fun r s' hq => ?_)
  cases r with
  | error e => exact hx pins σ H s e s' I hq
  | ok fl =>
    cases fl with
    | ret u => exact I.after hq
    | next => exact False.elim hq
    | brk => exact False.elim hq
    | cont => exact False.elim hq

theorem pe_call (F : FnOk X.prog X.w X.K X.mg X.base CX k f fd ps sp) (hr : Room k X.A) (hg : Gl X x) (hm : X.mg x = some (.ref f)) (hk : PySem.W.keepIn X.K (.ref f) = true) (hb : Binds X.K fd ps ds) (hd : Vals dvs ds) (hx : Passes CX X E)
    (ha : PA X (e :: es) t) (hdb : (x == ("__debug__" : Str)) = false := by decide) (he : starEach (e :: es) X.env = (false, eval e X.env) :: starEach es X.env := by rfl) (hpl : (backTo pos (starEach es X.env)).any (·.1) = false := by rfl) :
    PE X (.Call (.Name x p) (e :: es) [] pos) (tCall sp dvs E t) := by
  intro pins s σ H Q I h
  refine wpAny_Call_Name_kw (ld_glob I hg hm ?_ hdb)
  refine PySem.W.callWith_K (h₀ := X.base) I.ok.mod.kin hk (thn (ha pos pins s σ H _ I h) fun us s1 ⟨vs, H1, I1, r, q⟩ => ⟨I1.kIn, ?_⟩) he hpl
  exact run_fn F hr hb hd hx I1 r q
theorem pe_call0 (F : FnOk X.prog X.w X.K X.mg X.base CX k f fd ps sp) (hr : Room k X.A) (hg : Gl X x) (hm : X.mg x = some (.ref f)) (hk : PySem.W.keepIn X.K (.ref f) = true) (hb : Binds X.K fd ps ds) (hd : Vals dvs ds) (hx : Passes CX X E)
    (hdb : (x == ("__debug__" : Str)) = false := by decide) : PE X (.Call (.Name x p) [] [] pos) (tCall sp dvs E tNil) := by
  intro pins s σ H Q I h
  refine wpAny_Call_Name_kw (ld_glob I hg hm ?_ hdb)
  exact PySem.W.callWith_K0 I.kIn hk (run_fn (us := []) F hr hb hd hx I .nil h)

/-- o.m(e, ..) -/
theorem pe_meth {pl : Sem Bool} (he : PE X o ta) (c : Cls X.K C) (hm : Meth X.K C m f) (F : FnOk X.prog X.w X.K X.mg X.base CX k f fd ps sp) (hr : Room k X.A) (hb : Binds X.K fd ps ds) (hd : Vals dvs ds) (hx : Passes CX X E) (ha : PA X (e :: es) t)
    (hst : starEach (e :: es) X.env = (false, eval e X.env) :: starEach es X.env := by rfl) (hpl : (backTo pos (starEach es X.env)).any (·.1) = false := by rfl)
    (ht : eval (.Call (.Attribute o m apos) (e :: es) [] pos) X.env = (do
      let ov ← eval o X.env
      standAt apos.atName
      let (f, first) ← holding [ov] (getMethod ov m pl)
      callWith pos f first (backTo pos (starEach (e :: es) X.env)) (backToKw pos (keywordEach [] X.env))) := by rfl) :
    PE X (.Call (.Attribute o m apos) (e :: es) [] pos) (tMeth C m sp dvs E ta t) := by
  intro pins s σ H Q I h
  refine PySem.W.methodCall_KW (pl := pl) (thn (he pins s σ H _ I h) fun u s1 ⟨x, H1, I1, rx, a, dx, fs, ex, ea, l, q⟩ => ?_) ht
  subst ex
  obtain rfl : u = Value.ref a := rx
  refine getmeth_ok I1 ea c hm l ?_
  refine PySem.W.callWith_K (first := [.ref a]) (h₀ := X.base) I.ok.mod.kin hm.kp (thn (ha pos pins s1 σ H1 _ I1 q) fun us s2 ⟨vs, H2, I2, r, q2⟩ => ⟨I2.kIn, ?_⟩) hst hpl
  exact run_fn (us := .ref a :: us) (vs := .ref a :: vs) F hr hb hd hx I2 (.cons rfl r) q2
/-- o.m() -/
theorem pe_meth0 {pl : Sem Bool} (he : PE X o ta) (c : Cls X.K C) (hm : Meth X.K C m f) (F : FnOk X.prog X.w X.K X.mg X.base CX k f fd ps sp) (hr : Room k X.A) (hb : Binds X.K fd ps ds) (hd : Vals dvs ds) (hx : Passes CX X E)
    (ht : eval (.Call (.Attribute o m apos) [] [] pos) X.env = (do
      let ov ← eval o X.env
      standAt apos.atName
      let (f, first) ← holding [ov] (getMethod ov m pl)
      callWith pos f first (backTo pos (starEach [] X.env)) (backToKw pos (keywordEach [] X.env))) := by rfl) :
    PE X (.Call (.Attribute o m apos) [] [] pos) (tMeth C m sp dvs E ta tNil) := by
  intro pins s σ H Q I h
  refine PySem.W.methodCall_KW (pl := pl) (thn (he pins s σ H _ I h) fun u s1 ⟨x, H1, I1, rx, a, dx, fs, ex, ea, l, q⟩ => ?_) ht
  subst ex
  obtain rfl : u = Value.ref a := rx
  refine getmeth_ok I1 ea c hm l ?_
  exact PySem.W.callWith_K0 (first := [.ref a]) I1.kIn hm.kp (run_fn (us := [.ref a]) (vs := [.ref a]) F hr hb hd hx I1 (.cons rfl .nil) q)

/-- what a class must have to be made -/
structure Mk (K : PySem.W.Frag) (C f : Addr) : Prop where
  makes : PySem.W.makesIn K C = true
  init : PySem.W.findIn K (.ref C) "__init__" = some (some (.ref f))
  fn : PySem.W.isFn K (.ref f) = true
  kp : PySem.W.keepIn K (.ref C) = true

theorem run_make {pins : List (Addr × Obj)} {σ : St} {H : Hp} {s : Shared} {Q : VK} {us : List Value} {vs : List V} (M : Mk X.K C f) (F : FnOk X.prog X.w X.K X.mg X.base CX k f fd ps sp) (hr : Room (k + 1) X.A) (hb : Binds X.K fd ps ds) (hd : Vals dvs ds)
    (hx : Passes CX X E) (I : Inv X pins σ H s) (r : Vals vs us)
    (h : ∀ x dx, H x = none → H dx = none → dx ≠ x → sp (.ref x :: (vs ++ dvs)) (upd (upd H dx (.own x)) x (.ins C dx [])) (fun v H2 => v = .non ∧ Q (.ref x) H2) E) :
    wpAny (model X.prog X.w) X.A (call (.ref C) us) (EP X pins σ Q) X.xe s := by
  have hq := h (s.heap.objs.size + 1) s.heap.objs.size (I.hok.fresh (Nat.le_succ _)) (I.hok.fresh (Nat.le_refl _)) (Nat.ne_of_lt (Nat.lt_succ_self _))
  have I2 := Inv.made (C := C) I
  have r2 : Vals (V.ref (s.heap.objs.size + 1) :: (vs ++ dvs)) (Value.ref (s.heap.objs.size + 1) :: (us ++ ds)) := .cons rfl (r.append hd)
  have hl : (Value.ref (s.heap.objs.size + 1) :: us ++ ds).length = ps.length := by
    have e := r2.length
    rw [F.len _ _ _ _ hq] at e
    exact e.symm
  refine wpAny_call (make_map (f := f) I.kIn M.makes M.init (beq_iff_eq.mp M.fn) (codeAny_mono (F.run _ X.stack _ _ ⟨Value.ref (s.heap.objs.size + 1) :: us, []⟩ (Value.ref (s.heap.objs.size + 1) :: (us ++ ds)) _ _ E (hr.make C us [])
    (I2.env0.make C us []) (hb _ (Value.ref (s.heap.objs.size + 1) :: us) I2.kIn hl) r2 hq) fun r s' hq' => ?_))
  cases r with
  | error e => exact hx pins σ _ _ e s' I2 hq'
  | ok fl =>
    cases fl with
    | ret u =>
      obtain ⟨v, H', I3, rv, ev, q3⟩ := I2.after hq'
      subst ev
      exact ⟨rv, ⟨V.ref (s.heap.objs.size + 1), H', I3, rfl, q3⟩⟩
    | next => exact False.elim hq'
    | brk => exact False.elim hq'
    | cont => exact False.elim hq'
theorem pe_make (M : Mk X.K C f) (F : FnOk X.prog X.w X.K X.mg X.base CX k f fd ps sp) (hr : Room (k + 1) X.A) (hg : Gl X x) (hm : X.mg x = some (.ref C)) (hb : Binds X.K fd ps ds) (hd : Vals dvs ds) (hx : Passes CX X E)
    (ha : PA X (e :: es) t) (hdb : (x == ("__debug__" : Str)) = false := by decide) (he : starEach (e :: es) X.env = (false, eval e X.env) :: starEach es X.env := by rfl) (hpl : (backTo pos (starEach es X.env)).any (·.1) = false := by rfl) :
    PE X (.Call (.Name x p) (e :: es) [] pos) (tMake C sp dvs E t) := by
  intro pins s σ H Q I h
  refine wpAny_Call_Name_kw (ld_glob I hg hm ?_ hdb)
  refine PySem.W.callWith_K (h₀ := X.base) I.ok.mod.kin M.kp (thn (ha pos pins s σ H _ I h) fun us s1 ⟨vs, H1, I1, r, q⟩ => ⟨I1.kIn, ?_⟩) he hpl
  exact run_make M F hr hb hd hx I1 r q
theorem pe_make0 (M : Mk X.K C f) (F : FnOk X.prog X.w X.K X.mg X.base CX k f fd ps sp) (hr : Room (k + 1) X.A) (hg : Gl X x) (hm : X.mg x = some (.ref C)) (hb : Binds X.K fd ps ds) (hd : Vals dvs ds) (hx : Passes CX X E)
    (hdb : (x == ("__debug__" : Str)) = false := by decide) : PE X (.Call (.Name x p) [] [] pos) (tMake C sp dvs E tNil) := by
  intro pins s σ H Q I h
  refine wpAny_Call_Name_kw (ld_glob I hg hm ?_ hdb)
  exact PySem.W.callWith_K0 I.kIn M.kp (run_make (us := []) M F hr hb hd hx I .nil h)
end

/-! ### keywords -/
/-- the values of the keywords, from the left -/
def PK (X : Cx) (kws : List Keyword) (t : TA) : Prop :=
  ∀ (pos : Pos) (pins : List (Addr × Obj)) (s : Shared) (σ : St) (H : Hp) (Q : List V → Hp → Prop), Inv X pins σ H s → t σ H Q → wpAny (model X.prog X.w) X.A (evalAll ((backToKw pos (keywordEach kws X.env)).map (·.2))) (AP X pins σ Q) X.xe s
section
variable {X : Cx} {CX : CXT} {k : Nat} {f C : Addr} {fd : FuncData} {ps ks : List Str} {sp : Sp} {E : XK} {x m : Str} {p pos apos kpos : Pos} {e o : Expr} {es : List Expr} {kws : List Keyword} {te ta : TE} {t tk : TA} {nm : Option Str}
theorem pk_nil : PK X [] tNil := fun _ _ _ _ H Q I h => wpAny_evalAll_nil ⟨[], H, I, .nil, h⟩
theorem pk_cons (ha : PE X e te) (hr : PK X kws t) : PK X (⟨nm, e, kpos⟩ :: kws) (tCons te t) := by
  intro pos pins s σ H Q I h
  show wpAny _ _ (evalAll ((do let v ← eval e X.env; standAt pos; pure v) :: (backToKw pos (keywordEach kws X.env)).map (·.2))) _ _ s
  refine wpAny_evalAll_cons (wpAny_bind (thn (ha pins s σ H _ I h) fun u s1 ⟨x, H1, I1, r1, q1⟩ => wpAny_bind (wpAny_standAt (wpAny_pure ?_))))
  exact thn (hr pos pins s1 σ H1 _ I1 q1) fun us s2 ⟨xs, H2, I2, r2, q2⟩ => ⟨x :: xs, H2, I2, .cons r1 r2, q2⟩

/-- how a call with keywords binds: g puts the positional values us and the keywords' values ws (names ks) in the parameters' order, defaults among them -/
structure KBinds (K : PySem.W.Frag) (fd : FuncData) (ps ks : List Str) (g : List Value → List Value → List Value) (gV : List V → List V → List V) : Prop where
  to : ∀ (s : Shared) (us ws : List Value), K.In s.heap → (g us ws).length = ps.length → BindsTo s fd ⟨us, ks.zip ws⟩ (ps.zip (g us ws))
  rel : ∀ {vs : List V} {us : List Value} {zs : List V} {ws : List Value}, Vals vs us → Vals zs ws → Vals (gV vs zs) (g us ws)
def tCallK (sp : Sp) (gV : List V → List V → List V) (E : XK) (t tk : TA) : TE := fun σ H Q => t σ H fun vs H1 => tk σ H1 fun zs H2 => sp (gV vs zs) H2 Q E
variable {g : List Value → List Value → List Value} {gV : List V → List V → List V}
theorem run_fnk {pins : List (Addr × Obj)} {σ : St} {H : Hp} {s : Shared} {Q : VK} {us ws : List Value} {vs zs : List V} (F : FnOk X.prog X.w X.K X.mg X.base CX k f fd ps sp) (hr : Room k X.A) (hb : KBinds X.K fd ps ks g gV) (hx : Passes CX X E)
    (I : Inv X pins σ H s) (r : Vals vs us) (rz : Vals zs ws) (h : sp (gV vs zs) H Q E) : wpAny (model X.prog X.w) X.A (call (.ref f) us (ks.zip ws)) (EP X pins σ Q) X.xe s := by
  have r2 := hb.rel r rz
  have hl : (g us ws).length = ps.length := by rw [← r2.length]; exact F.len _ _ _ _ h
  refine wpAny_call (codeAny_mono (F.run X.A X.stack s H ⟨us, ks.zip ws⟩ (g us ws) (gV vs zs) Q E hr I.env0 (hb.to s us ws I.kIn hl) r2 h) fun r s' hq => ?_)
  cases r with
  | error e => exact hx pins σ H s e s' I hq
  | ok fl =>
    cases fl with
    | ret u => exact I.after hq
    | next => exact False.elim hq
    | brk => exact False.elim hq
    | cont => exact False.elim hq
/-- f(e, .., k = v, ..) -/
theorem pe_callK (F : FnOk X.prog X.w X.K X.mg X.base CX k f fd ps sp) (hr : Room k X.A) (hg : Gl X x) (hm : X.mg x = some (.ref f)) (hk : PySem.W.keepIn X.K (.ref f) = true) (hb : KBinds X.K fd ps ks g gV) (hx : Passes CX X E)
    (ha : PA X (e :: es) t) (hkw : PK X kws tk) (hall : (backToKw pos (keywordEach kws X.env)).all (·.1.isSome) = true := by rfl) (hks : (backToKw pos (keywordEach kws X.env)).filterMap (·.1) = ks := by rfl)
    (hdb : (x == ("__debug__" : Str)) = false := by decide) (he : starEach (e :: es) X.env = (false, eval e X.env) :: starEach es X.env := by rfl)
    (hpl : ((backTo pos (starEach (e :: es) X.env)).any (·.1) || (backToKw pos (keywordEach kws X.env)).any (·.1.isNone)) = false := by rfl) :
    PE X (.Call (.Name x p) (e :: es) kws pos) (tCallK sp gV E t tk) := by
  intro pins s σ H Q I h
  refine wpAny_Call_Name_kw (ld_glob I hg hm ?_ hdb)
  refine PySem.W.callWith_KW (h₀ := X.base) I.ok.mod.kin hk hall (thn (ha pos pins s σ H _ I h) fun us s1 ⟨vs, H1, I1, r, q⟩ => ?_) hpl he
  refine thn (hkw pos pins s1 σ H1 _ I1 q) fun ws s2 ⟨zs, H2, I2, rz, q2⟩ => ⟨I2.kIn, ?_⟩
  rw [hks]
  exact run_fnk F hr hb hx I2 r rz q2
end

/-! ### a def's body keeps its promise -/
/-- names: the parameters first -/
structure FnScope (N P : List Str) (sc : Scope) : Prop where
  kind : sc.kind = .function
  co : sc.isCoroutine = false
  gen : sc.isGenerator = false
  nd : N.Nodup
  pre : N.take P.length = P
  par : ∀ x ∈ P, sc.names.lookup x = some .local ∨ sc.names.lookup x = some .cell
  nofree : ∀ y ∈ sc.names, y.2 ≠ .free

theorem bindL_out {kindOf : Str → Option NameKind} {x : Str} : ∀ {binds : List (Str × Value)} {m : Str → Option Value}, (∀ v, (x, v) ∉ binds) → bindL kindOf binds m x = m x
  | [], _, _ => rfl
  | (n, v) :: r, m, h => by
    unfold bindL
    rw [bindL_out fun w hw => h w (List.mem_cons_of_mem _ hw)]
    split
    · have : x ≠ n := by rintro rfl; exact h v List.mem_cons_self
      simp [this]
    · rfl
theorem bindC_out {kindOf : Str → Option NameKind} {x : Str} : ∀ {binds : List (Str × Value)} {m : Str → Option Value}, (∀ v, (x, v) ∉ binds) → bindC kindOf binds m x = m x
  | [], _, _ => rfl
  | (n, v) :: r, m, h => by
    unfold bindC
    rw [bindC_out fun w hw => h w (List.mem_cons_of_mem _ hw)]
    split
    · rfl
    · have : x ≠ n := by rintro rfl; exact h v List.mem_cons_self
      simp [this]
theorem bindL_get {kindOf : Str → Option NameKind} {x : Str} {v : Value} : ∀ {P : List Str} {vs : List Value} {i : Nat} {m : Str → Option Value}, P.Nodup → P[i]? = some x → vs[i]? = some v → kindOf x = some .local →
    bindL kindOf (P.zip vs) m x = some v
  | [], _, _, _, _, h, _, _ => by simp at h
  | _ :: _, [], _, _, _, _, h, _ => by simp at h
  | p :: P, w :: vs, 0, m, nd, h1, h2, hk => by
    simp at h1 h2; subst h1; subst h2
    show bindL kindOf ((p, w) :: P.zip vs) m p = _
    unfold bindL
    rw [bindL_out fun v hv => (List.nodup_cons.mp nd).1 (List.of_mem_zip hv).1, if_pos hk]
    simp
  | p :: P, w :: vs, i + 1, m, nd, h1, h2, hk => by
    show bindL kindOf ((p, w) :: P.zip vs) m x = _
    unfold bindL
    exact bindL_get (i := i) (List.nodup_cons.mp nd).2 (by simpa using h1) (by simpa using h2) hk
theorem bindC_get {kindOf : Str → Option NameKind} {x : Str} {v : Value} : ∀ {P : List Str} {vs : List Value} {i : Nat} {m : Str → Option Value}, P.Nodup → P[i]? = some x → vs[i]? = some v → kindOf x ≠ some .local →
    bindC kindOf (P.zip vs) m x = some v
  | [], _, _, _, _, h, _, _ => by simp at h
  | _ :: _, [], _, _, _, _, h, _ => by simp at h
  | p :: P, w :: vs, 0, m, nd, h1, h2, hk => by
    simp at h1 h2; subst h1; subst h2
    show bindC kindOf ((p, w) :: P.zip vs) m p = _
    unfold bindC
    rw [bindC_out fun v hv => (List.nodup_cons.mp nd).1 (List.of_mem_zip hv).1, if_neg hk]
    simp
  | p :: P, w :: vs, i + 1, m, nd, h1, h2, hk => by
    show bindC kindOf ((p, w) :: P.zip vs) m x = _
    unfold bindC
    exact bindC_get (i := i) (List.nodup_cons.mp nd).2 (by simpa using h1) (by simpa using h2) hk

/-- the names' values at the entry -/
def start (N : List Str) (vs : List V) : St := vs.map some ++ List.replicate (N.length - vs.length) none

/-- the context of a def's body, at its entry; an exception leaves the frame, then lies as CX says -/
def cxOf (CX : CXT) (P : Program) (w : World) (K : PySem.W.Frag) (mg : Str → Option Value) (base : Heap) (N : List Str) (qual : Str) (scope : Scope) (f : Addr) (cd : Value) (A : Around) (outer : List Env) (s : Shared) (H : Hp) (E : XK) : Cx where
  prog := P
  w := w
  K := K
  mg := mg
  base := base
  A := A.deeper (envOfC qual scope s.heap.objs.size f cd)
  N := N
  s₀ := s
  H₀ := H
  env := envOfC qual scope s.heap.objs.size f cd
  outer := outer
  stack := envOfC qual scope s.heap.objs.size f cd :: outer
  ex := []
  calm := true
  fn := fun _ => true
  pn := []
  xe := fun e s' => wpAny (model P w) (A.deeper (envOfC qual scope s.heap.objs.size f cd)) (leaving (envOfC qual scope s.heap.objs.size f cd) e) (fun _ s'' => CX outer H s E e s'') (fun e' s'' => CX outer H s E e' s'') s'

theorem cell_has {sc : Scope} {n : Nat} {x : Str} (h : sc.names.lookup x = some .cell) : ∃ c, (cellsFrom n sc.names []).lookup x = some c := by
  have q := PySem.W.cellsFrom_some sc.names n [] (.inl h)
  exact Option.isSome_iff_exists.mp q

theorem inv_start {CX : CXT} {P : Program} {w : World} {K : PySem.W.Frag} {mg : Str → Option Value} {base : Heap} {N ps : List Str} {qual : Str} {scope : Scope} {f : Addr} {cd : Value} {A : Around} {outer : List Env} {s s1 : Shared} {H : Hp} {E : XK} {us : List Value} {vs : List V}
    (S : FnScope N ps scope) (hd : A.handled = none) (e0 : Env0 P w K mg base A outer s H) (hl : vs.length = ps.length) (r : Vals vs us)
    (x : InCallC s s.heap.objs.size (bindL (envOfC qual scope s.heap.objs.size f cd).kindOf (ps.zip us) fun _ => none) (cellsFrom (s.heap.objs.size + 1) scope.names []) (bindC (envOfC qual scope s.heap.objs.size f cd).kindOf (ps.zip us) fun _ => none) s1) :
    Inv (cxOf CX P w K mg base N qual scope f cd A outer s H E) [] (start N vs) H s1 := by
  have hpl : ps.length ≤ N.length := by have := congrArg List.length S.pre; rw [List.length_take] at this; omega
  obtain ⟨h1, tk, rfl, hk⟩ := x.done
  have noA : ∀ b : Addr, b ∉ (cxOf CX P w K mg base N qual scope f cd A outer s H E).ex := fun b z => absurd (show b ∈ ([] : List Addr) from z) (by simp)
  refine ⟨⟨e0.mod, S.kind, rfl, rfl, Nat.le_refl _, fun y z c h1 h2 => ?_, fun y hy => ?_, fun y c _ h => ?_, fun _ => hd, Around.frames_deeper e0.frames, .inr ⟨rfl, rfl⟩, fun b z => absurd z (noA b), e0.bs, e0.bsz, fun b _ _ => noA b, fun b z => absurd z (noA b), e0.funs, e0.frf⟩,
    rfl, e0.bare, Un.kept hk, ⟨_, x.toInCall.ns, fun i y v h1 h2 h3 => ?_⟩, fun y c h => ⟨_, x.cell y c h⟩, e0.hok.fresh (Nat.le_refl _), fun y c h => ?_, fun p hp => absurd (show p ∈ ([] : List (Addr × Obj)) from hp) (by simp), e0.hok.kept hk, ?_⟩
  · exact name_of_addr x.apart (PySem.mem_of_lookup h1) (PySem.mem_of_lookup h2)
  · have hy : scope.names.lookup y = some .cell ∨ scope.names.lookup y = some .free := hy
    rcases hy with hy | hy
    · exact cell_has hy
    · exact absurd rfl (S.nofree _ (PySem.mem_of_lookup hy))
  · exact Nat.le_of_lt (x.above y c (PySem.mem_of_lookup h))
  · have hi : i < vs.length := by
      unfold start at h2
      by_cases hi : i < vs.length
      · exact hi
      · rw [List.getElem?_append_right (by simpa using hi)] at h2
        rw [List.getElem?_replicate] at h2
        split at h2 <;> cases h2
    have ha : vs[i]? = some v := by
      unfold start at h2
      rw [List.getElem?_append_left (by simpa using hi), List.getElem?_map] at h2
      cases e : vs[i]? with
      | none => rw [e] at h2; cases h2
      | some a => rw [e] at h2; cases h2; rfl
    obtain ⟨u, hu, rv⟩ := r.get ha
    have hp : ps[i]? = some y := by
      rw [← S.pre, List.getElem?_take_of_lt (by omega)]; exact h1
    have ndP : ps.Nodup := by rw [← S.pre]; exact S.nd.sublist (List.take_sublist _ _)
    refine ⟨u, rv, ?_⟩
    rcases S.par y (List.mem_of_getElem? hp) with k | k
    · exact .inl ⟨k, bindL_get ndP hp hu k⟩
    · obtain ⟨c, e⟩ := cell_has (n := s.heap.objs.size + 1) k
      refine .inr ⟨.inl k, c, e, ?_⟩
      have q := x.cell y c e
      rw [bindC_get ndP hp hu (by show scope.names.lookup y ≠ _; rw [k]; decide)] at q
      exact q
  · exact e0.hok.fresh (Nat.le_of_lt (x.above y c (PySem.mem_of_lookup h)))
  · unfold start
    show _ = N.length
    rw [List.length_append, List.length_map, List.length_replicate]
    omega

/-- THE RULE: a def (or a method) of the text, by its body. The body's reading t is chosen for each entry; it is run at the parameters' values -/
theorem fn_of {CX : CXT} {P : Program} {w : World} {K : PySem.W.Frag} {mg : Str → Option Value} {base : Heap} {k : Nat} {f : Addr} {name qual : Str} {params : Arguments} {body : List Stmt} {scope : Scope} {dV kV doc pm cdv ct oc : Value} {an od : Option Addr}
    {osl : Array (Option Value)} {N ps : List Str} {sp : Sp} (lk : K.lookup f = some ⟨oc, od, .func (PySem.W.fnOf name qual params body scope dV kV doc pm an cdv ct), osl⟩) (hcd : PySem.W.codeIn K cdv qual = true) (S : FnScope N ps scope)
    (len : ∀ vs H Q E, sp vs H Q E → vs.length = ps.length)
    (hbody : ∀ (A : Around) (outer : List Env) (s : Shared) (H : Hp) (vs : List V) (Q : VK) (E : XK), Room k (A.deeper (envOfC qual scope s.heap.objs.size f cdv)) → sp vs H Q E →
      ∃ t, PSs (cxOf CX P w K mg base N qual scope f cdv A outer s H E) body t ∧ t { nx := fun _ H' => Q .non H', rt := Q } (start N vs) H) :
    FnOk P w K mg base CX (k + 1) f (PySem.W.fnOf name qual params body scope dV kV doc pm an cdv ct) ps sp := by
  refine ⟨len, fun A outer s H args us vs Q E hr e0 hb r hsp => ?_⟩
  have hl := len _ _ _ _ hsp
  have KX : K.In s.heap := e0.mod.kin.keeps fun b o e => (e0.bs b o e).1
  have lim : s.heap.NoLimit := e0.mod.nolimit.keeps fun b o e => (e0.bs b o e).1
  have hkind : ∀ y ∈ ps.zip us, scope.names.lookup y.1 = some .local ∨ (scope.names.lookup y.1 = some .cell ∧ ((cellsFrom (s.heap.objs.size + 1) scope.names []).lookup y.1).isSome = true) := fun ⟨n, v⟩ hy => by
    rcases S.par n (List.of_mem_zip hy).1 with q | q
    · exact .inl q
    · exact .inr ⟨q, PySem.W.cellsFrom_some _ _ _ (.inl q)⟩
  refine codeAny_call_function hr.depth (KX _ _ lk) rfl S.co S.gen rfl (PySem.W.codeRec_of KX hcd) (hb _ _ _ _ ?_)
  refine wpAny_newFunctionEnv_cells S.kind hkind fun env he s1 x => ?_
  subst he
  refine ⟨lim.keeps x.toInCall.keep, codeAny_func ?_⟩
  obtain ⟨t, ht, hq⟩ := hbody A outer s H vs Q E (hr.deeper _) hsp
  have I : Inv (cxOf CX P w K mg base N qual scope f cdv A outer s H E) [] (start N vs) H s1 := inv_start S hr.hd e0 hl r x
  refine wpAny_mono (ht [] s1 (start N vs) H _ I hq) (fun fl s' hs => ?_) fun e s' hs => hs
  have fin : ∀ {σ' : St} {H' : Hp} {v : V} {u : Value}, Inv (cxOf CX P w K mg base N qual scope f cdv A outer s H E) [] σ' H' s' → RelV v u → Q v H' → CE outer P w H s Q u s' :=
    fun {σ' H' v u} J rv q => ⟨v, H', J.os, J.bare, J.base, J.hok, rv, q⟩
  cases fl with
  | ret u =>
    obtain ⟨v, σ', H', J, rv, q⟩ := hs
    exact fin J rv q
  | next =>
    obtain ⟨σ', H', J, q⟩ := hs
    exact fin (v := V.non) (u := Value.none) J rfl q
  | brk =>
    obtain ⟨_, _, _, q⟩ := hs
    exact False.elim q
  | cont =>
    obtain ⟨_, _, _, q⟩ := hs
    exact False.elim q
end L2

namespace L2
open PySem PySem.Spec PyProof.Rows
section
variable {X : Cx} {x : Str} {p pos : Pos} {e : Expr} {es : List Expr} {t : TA} {id T : String} {r : List V → Hp → VK → Prop}

def tCB (r : List V → Hp → VK → Prop) (t : TA) : TE := fun σ H Q => t σ H fun vs H1 => r vs H1 Q
/-- f(e, ..), f a built-in function -/
theorem pe_callB (hc : CallR X (.builtin id) r) (hg : Gl X x) (hm : X.mg x = none) (hv : bootBuiltins x = some (.builtin id)) (ha : PA X (e :: es) t) (hn : x ≠ "__name__" := by decide) (hdb : (x == ("__debug__" : Str)) = false := by decide)
    (he : starEach (e :: es) X.env = (false, eval e X.env) :: starEach es X.env := by rfl) (hpl : (backTo pos (starEach es X.env)).any (·.1) = false := by rfl) : PE X (.Call (.Name x p) (e :: es) [] pos) (tCB r t) := by
  intro pins s σ H Q I h
  refine wpAny_Call_Name_kw (ld_blt I hg hm hv ?_ hn hdb)
  exact PyProof.Rows.callWith_builtin1 (thn (ha pos pins s σ H _ I h) fun us s1 ⟨vs, H1, I1, r1, q1⟩ => hc pins s1 σ H1 vs us Q I1 r1 q1) he hpl
/-- T(e, ..), T a built-in type -/
theorem pe_callTy (hc : CallR X (.type T) r) (hg : Gl X x) (hm : X.mg x = none) (hv : bootBuiltins x = some (.type T)) (ha : PA X (e :: es) t) (hn : x ≠ "__name__" := by decide) (hdb : (x == ("__debug__" : Str)) = false := by decide)
    (he : starEach (e :: es) X.env = (false, eval e X.env) :: starEach es X.env := by rfl) (hpl : (backTo pos (starEach es X.env)).any (·.1) = false := by rfl) : PE X (.Call (.Name x p) (e :: es) [] pos) (tCB r t) := by
  intro pins s σ H Q I h
  refine wpAny_Call_Name_kw (ld_blt I hg hm hv ?_ hn hdb)
  exact PyProof.Rows.callWith_type1 (thn (ha pos pins s σ H _ I h) fun us s1 ⟨vs, H1, I1, r1, q1⟩ => hc pins s1 σ H1 vs us Q I1 r1 q1) he hpl
/-- T() -/
theorem pe_callTy0 (hc : CallR X (.type T) r) (hg : Gl X x) (hm : X.mg x = none) (hv : bootBuiltins x = some (.type T)) (hn : x ≠ "__name__" := by decide) (hdb : (x == ("__debug__" : Str)) = false := by decide) :
    PE X (.Call (.Name x p) [] [] pos) (tCB r tNil) := by
  intro pins s σ H Q I h
  refine wpAny_Call_Name_kw (ld_blt I hg hm hv ?_ hn hdb)
  exact PyProof.Rows.callWith_type0 (hc pins s σ H [] [] Q I .nil h)
end
end L2

namespace HT
open PySem PyProof.Rows

/-- t < u of tuples of ints -/
def lexLt : List Int → List Int → Bool
  | [], [] => false
  | [], _ :: _ => true
  | _ :: _, [] => false
  | x :: xs, y :: ys => if x = y then lexLt xs ys else decide (x < y)
theorem lexLt_cons (x y : Int) (xs ys : List Int) : lexLt (x :: xs) (y :: ys) = if x = y then lexLt xs ys else decide (x < y) := rfl
theorem lexLt_nil_nil : lexLt [] [] = false := rfl
theorem lexLt_nil_cons (y : Int) (ys : List Int) : lexLt [] (y :: ys) = true := rfl
theorem lexLt_cons_nil (x : Int) (xs : List Int) : lexLt (x :: xs) [] = false := rfl

theorem eqAt_int (A : Around) (s : Shared) (a : Int) (t : Tok) (c : Int) (u : Tok) : ∃ e, SeqAt.EqAt A s (.int a t) (.int c u) e ∧ (e = true ↔ a = c) :=
  ⟨(a == c), SeqAt.EqAt.int_int a t c u, by simp⟩
theorem rcLt_int (A : Around) (s : Shared) (a : Int) (t : Tok) (c : Int) (u : Tok) (prog : Program) (w : World) (E : Value → Shared → Prop) (Q : Value → Shared → Prop) (h : Q (.bool (decide (a < c))) s) :
    wpAny (model prog w) A (richCompare .Lt (.int a t) (.int c u)) Q E s :=
  (PyProof.Rows.lt_int h : wpAny (model prog w) A (compareOp .Lt (.int a t) (.int c u)) Q E s)

section
open PySem.SeqAt
open PySem.AutoSeq1 (wpAny_loadPart')
open PySem.MeetsSeq PySem.MeetsSeq2 PySem.MeetsSeq3

theorem tuple_lt_ints (l b : Addr) (items items2 : Array Value) (n n2 : Nat) (dd dd2 : Option Addr) (sl sl2 : Array (Option Value)) (ns ms : List Int) (hi : IntsAre items.toList ns) (hj : IntsAre items2.toList ms) :
    Meets (Builtin.«tuple.__lt__» ⟨[.ref l, .ref b], []⟩)
      (fun _ R s => s.heap.get? l = some { cls := .type "tuple", dict := dd, data := .seq items n, slots := sl } ∧ s.heap.get? b = some { cls := .type "tuple", dict := dd2, data := .seq items2 n2, slots := sl2 } ∧
        R (.ok (.ret (.bool (lexLt ns ms)))) s) :=
  .of_wp fun prog w A R s h => by
    obtain ⟨hp, g, d, tk, os⟩ := s; obtain ⟨hl, hb, h⟩ := h
    have f2 := AutoSeq1.sub_tuple_tuple
    have z1 : items.size = ns.length := by rw [← hi.length]; simp
    have z2 : items2.size = ms.length := by rw [← hj.length]; simp
    wp_walk using wpAny_loadPart' hl, wpAny_loadPart' hb, wpAny_forIn_list _ (fun rest b s' => b.1 = none ∧ s' = ⟨hp, g, d, tk, os⟩ ∧ ∃ (vs ws : List Value) (ns' ms' : List Int), rest = vs.zip ws ∧
      IntsAre vs ns' ∧ IntsAre ws ms' ∧ ns'.length + items2.size = ms'.length + items.size ∧ R (.ok (.ret (.bool (lexLt ns' ms')))) ⟨hp, g, d, tk, os⟩) _
    case turn =>
      rintro ⟨y, x⟩ rest b s' ⟨hb', rfl, vs, ws, ns', ms', hz, hvi, hwi, hlen, hR⟩
      cases hvi with
      | nil => rw [List.zip_nil_left] at hz; cases hz
      | cons a t hvi' =>
        cases hwi with
        | nil => rw [List.zip_nil_right] at hz; cases hz
        | cons c u hwi' =>
          rw [List.zip_cons_cons] at hz
          injection hz with hyx hrest
          injection hyx with hy hx
          subst hy hx
          rw [lexLt_cons] at hR
          simp only [List.length_cons] at hlen
          obtain ⟨e, he, hiff⟩ := eqAt_int A.in1 ⟨hp, g, d, tk, os⟩ a t c u
          refine wpAny_bind (he prog w _ _ ?_)
          cases e with
          | true =>
            rw [if_pos (hiff.mp rfl)] at hR
            wp_walk
            exact ⟨rfl, rfl, _, _, _, _, hrest, hvi', hwi', by omega, hR⟩
          | false =>
            rw [if_neg (fun q => absurd (hiff.mpr q) Bool.false_ne_true)] at hR
            have hri := rcLt_int A.in1 ⟨hp, g, d, tk, os⟩ a t c u prog w
            wp_walk using hri
            exact ⟨_, rfl, by simpa using hR⟩
    case fin =>
      rintro ⟨b1, b2⟩ s' ⟨hb', rfl, vs, ws, ns', ms', hz, hvi, hwi, hlen, hR⟩
      simp only at hb'
      subst hb'
      have hv : lexLt ns' ms' = decide (items.size < items2.size) := by
        cases hvi with
        | nil =>
          cases hwi with
          | nil =>
            simp only [List.length_nil] at hlen
            rw [lexLt_nil_nil]
            exact (decide_eq_false (by omega)).symm
          | cons c u hw =>
            simp only [List.length_nil, List.length_cons] at hlen
            rw [lexLt_nil_cons]
            exact (decide_eq_true (by omega)).symm
        | cons a t hv =>
          cases hwi with
          | nil =>
            simp only [List.length_nil, List.length_cons] at hlen
            rw [lexLt_cons_nil]
            exact (decide_eq_false (by omega)).symm
          | cons c u hw =>
            rw [List.zip_cons_cons] at hz
            cases hz
      rw [hv] at hR
      wp_walk
      exact ⟨_, rfl, by simpa [Builtin.Tuple.tupleCompareSizes] using hR⟩
    case h =>
      exact ⟨rfl, rfl, items.toList, items2.toList, ns, ms, rfl, hi, hj, by omega, h⟩
end

section
variable {prog : Program} {w : World} {A : Around} {E : Value → Shared → Prop} {s : Shared}

theorem lt_tupInts {l b : Addr} {items items2 : Array Value} {ns ms : List Int} {Q : Value → Shared → Prop} (hl : IsTup s.heap l items) (hb : IsTup s.heap b items2) (hi : IntsAre items.toList ns) (hj : IntsAre items2.toList ms)
    (hu : A.units < cLine) (h : Q (.bool (lexLt ns ms)) s) : wpAny (model prog w) A (compareOp .Lt (.ref l) (.ref b)) Q E s := by
  obtain ⟨⟨cls, dd, data, sl⟩, ho, hc, n, hd⟩ := id hl
  obtain ⟨⟨cls2, dd2, data2, sl2⟩, ho2, hc2, n2, hd2⟩ := id hb
  simp only at hc hd hc2 hd2
  subst hc hd hc2 hd2
  exact richCompare_meets_room (op := .Lt) ⟨_, ho, rfl⟩ ⟨_, ho2, rfl⟩ PySem.F.slot_tuple_lt PySem.F.entry_tuple_lt (PySem.F.args_tuple_lt_2 _ _) (tuple_lt_ints l b items items2 n n2 dd dd2 sl sl2 ns ms hi hj)
    ⟨ho, ho2, show Value.bool (lexLt ns ms) ≠ Value.notImplemented ∧ Q (.bool (lexLt ns ms)) s from ⟨(fun x => nomatch x), h⟩⟩ hu

/-- t + u, t not empty -/
theorem cat_tup {t b : Addr} {vs ws : List Value} {Q : Value → Shared → Prop} (ht : IsTup s.heap t vs.toArray) (hb : IsTup s.heap b ws.toArray) (hv : vs ≠ [])
    (h1 : ws = [] → Q (.ref t) s) (h2 : ws ≠ [] → Q (.ref s.heap.objs.size) { s with heap := s.heap.push { cls := .type "tuple", data := .seq (vs ++ ws).toArray } })
    (hsz : vs.length + ws.length ≤ sizeLine) : wpAny (model prog w) A (binaryOp .Add (.ref t) (.ref b)) Q E s := by
  obtain ⟨⟨cls, dd, data, sl⟩, ho, hc, n, hd⟩ := id ht
  obtain ⟨⟨cls2, dd2, data2, sl2⟩, ho2, hc2, n2, hd2⟩ := id hb
  simp only at hc hd hc2 hd2
  subst hc hd hc2 hd2
  have e : vs.toArray ++ ws.toArray = (vs ++ ws).toArray := by simp
  by_cases hw : ws = []
  · exact concat_meets ⟨_, ho, rfl⟩ ⟨_, ho2, rfl⟩ noFill_tuple_add seq_tuple_add PySem.F.slot_tuple_add PySem.F.entry_tuple_add (PySem.F.args_tuple_add_2 _ _)
      (tuple_addW1 t b vs.toArray ws.toArray n n2 dd dd2 sl sl2 (by simpa using hv) (by simp [hw])) ⟨ho, ho2, h1 hw⟩
  · refine concat_meets ⟨_, ho, rfl⟩ ⟨_, ho2, rfl⟩ noFill_tuple_add seq_tuple_add PySem.F.slot_tuple_add PySem.F.entry_tuple_add (PySem.F.args_tuple_add_2 _ _)
      (tuple_addW2 t b vs.toArray ws.toArray n n2 dd dd2 sl sl2 (by simpa using hv) (by simpa using hw) (by rw [List.size_toArray, List.size_toArray]; exact hsz)) ⟨ho, ho2, ?_⟩
    rw [e]
    exact h2 hw

/-! ### t[a:b], not the whole -/
/-- a slice's bound as a place among n (d where it is left out) -/
def sIx (n d : Nat) : Option Int → Nat
  | none => d
  | some v => if v < 0 then (v + (n : Int)).toNat else min v.toNat n
theorem sIx_none (n d : Nat) : sIx n d none = d := rfl
theorem sIx_nat (n d k : Nat) : sIx n d (some (k : Int)) = min k n := by
  show (if (k : Int) < 0 then ((k : Int) + (n : Int)).toNat else min (k : Int).toNat n) = min k n
  rw [if_neg (by omega), Int.toNat_natCast]
theorem sIx_le (n d : Nat) (hd : d ≤ n) (o : Option Int) : sIx n d o ≤ n := by
  cases o with
  | none => exact hd
  | some v =>
    show (if v < 0 then (v + (n : Int)).toNat else min v.toNat n) ≤ n
    by_cases hv : v < 0
    · rw [if_pos hv]; omega
    · rw [if_neg hv]; exact Nat.min_le_right _ _
theorem clip_eq (v : Int) (n d : Nat) : (if v < 0 then max (v + (n : Int)) 0 else min v (n : Int)) = ((sIx n d (some v) : Nat) : Int) := by
  show (if v < 0 then max (v + (n : Int)) 0 else min v (n : Int)) = (((if v < 0 then (v + (n : Int)).toNat else min v.toNat n) : Nat) : Int)
  by_cases hv : v < 0
  · simp only [if_pos hv]; omega
  · simp only [if_neg hv]; omega
theorem adjust_gen (lo hi : Option Int) (n : Nat) : Builtin.Slice.sliceAdjust lo hi 1 (n : Int) = (((sIx n 0 lo : Nat) : Int), ((sIx n n hi : Nat) : Int)) := by
  have h1 : ¬ ((1 : Int) < 0) := by omega
  unfold Builtin.Slice.sliceAdjust
  simp only [h1, if_false]
  refine Prod.ext ?_ ?_
  · cases lo with
    | none => rfl
    | some v => exact clip_eq v n 0
  · cases hi with
    | none => rfl
    | some v => exact clip_eq v n n
theorem places_gen (i j : Nat) : Builtin.Slice.slicePlaces (i : Int) (j : Int) 1 = j - i := by
  unfold Builtin.Slice.slicePlaces
  have h1 : (1 : Int) > 0 := by omega
  simp only [h1, if_true, Int.ediv_one]
  split <;> omega
theorem slicePart_ {v : Value} {o : Option Int} {Q : Option Int → Shared → Prop} (p : IsPart v o) (h : Q o s) : wpAny (model prog w) A (Builtin.Slice.slicePartIndex v) Q E s := by
  cases p with
  | none => exact slicePart_none h
  | int i t => exact slicePart_int h
theorem sliceApplied_gen {sl : Addr} {vl vu : Value} {lo hi : Option Int} {n : Nat} {Q : Int × Int × Nat → Shared → Prop} (hs : s.heap.IsSliceOf sl vl vu .none) (pl : IsPart vl lo) (pu : IsPart vu hi)
    (h : Q (((sIx n 0 lo : Nat) : Int), 1, sIx n n hi - sIx n 0 lo) s) : wpAny (model prog w) A (Builtin.Slice.sliceApplied (.ref sl) (pure (n : Int))) Q E s := by
  obtain ⟨os, hos, hcs, hds⟩ := id hs
  unfold Builtin.Slice.sliceApplied Builtin.Slice.sliceFields
  refine wpAny_bind (wpAny_bind (wpAny_field hos hds (x := vl) rfl (wpAny_bind (wpAny_field hos hds (x := vu) rfl (wpAny_bind (wpAny_field hos hds (x := .none) rfl (wpAny_pure ?_)))))))
  refine wpAny_bind (slicePart_none ?_)
  show wpAny _ _ (if ((1 : Int) == 0) = true then _ else _) _ _ s
  rw [if_neg (by decide)]
  refine wpAny_bind (slicePart_ pl (wpAny_bind (slicePart_ pu (wpAny_bind (wpAny_pure ?_)))))
  show wpAny _ _ (match Builtin.Slice.sliceAdjust lo hi 1 (n : Int) with | (lo, hi) => pure (lo, (1 : Int), Builtin.Slice.slicePlaces lo hi 1)) _ _ s
  rw [adjust_gen lo hi n]
  show wpAny _ _ (pure (((sIx n 0 lo : Nat) : Int), (1 : Int), Builtin.Slice.slicePlaces ((sIx n 0 lo : Nat) : Int) ((sIx n n hi : Nat) : Int) 1)) _ _ s
  rw [places_gen]
  exact wpAny_pure h
theorem pick_gen (xs : Array Value) (i k : Nat) : ((List.range k).filterMap fun (m : Nat) => xs[((i : Int) + (m : Int) * 1).toNat]?).toArray = ((xs.toList.drop i).take k).toArray := by
  have e : (fun (m : Nat) => xs[((i : Int) + (m : Int) * 1).toNat]?) = fun m => xs[i + m]? := by
    funext m
    have : ((i : Int) + (m : Int) * 1).toNat = i + m := by omega
    rw [this]
  rw [e]
  have := pick_run xs i k
  rw [List.filterMap_map] at this
  have e2 : ((fun x => xs[x]?) ∘ fun x => i + x) = fun m => xs[i + m]? := rfl
  rw [e2] at this
  rw [this]

theorem getItem_tuple_cut {t sl : Addr} {items : Array Value} {vl vu : Value} {lo hi : Option Int} {Q : Value → Shared → Prop} (ht : IsTup s.heap t items) (hs : s.heap.IsSliceOf sl vl vu .none) (pl : IsPart vl lo) (pu : IsPart vu hi)
    (hw : ¬ (sIx items.size 0 lo = 0 ∧ sIx items.size items.size hi = items.size))
    (h : Q (.ref s.heap.objs.size) { s with heap := s.heap.push { cls := .type "tuple", data := .seq ((items.toList.drop (sIx items.size 0 lo)).take (sIx items.size items.size hi - sIx items.size 0 lo)).toArray } })
    (hsz : items.size ≤ sizeLine) : wpAny (model prog w) A (getItem (.ref t) (.ref sl)) Q E s := by
  have htake : sizeOk (.seq ((items.toList.drop (sIx items.size 0 lo)).take (sIx items.size items.size hi - sIx items.size 0 lo)).toArray) := by
    show ((items.toList.drop (sIx items.size 0 lo)).take (sIx items.size items.size hi - sIx items.size 0 lo)).toArray.size ≤ sizeLine
    rw [List.size_toArray, List.length_take, List.length_drop, Array.length_toList]
    omega
  have hj : sIx items.size items.size hi ≤ items.size := sIx_le _ _ (Nat.le_refl _) hi
  obtain ⟨os, hos, hcs, hds⟩ := id hs
  have hTs : s.TypeIs (.ref sl) "slice" := ⟨os, hos, hcs⟩
  unfold getItem
  try with_reducible refine wpAny_holding ?_
  first | refine wpAny_bind (wpAny_pure ?_) | skip
  refine wpAny_bind (wpAny_sequenceKey ht.typeIs (by decide) ?_)
  refine wpAny_bind (wpAny_callSpecial?_slot (name := Str.ofString "__getitem__") ht.typeIs PyProof.Rows.slot_tuple_getitem
    (wpAny_call_entry PyProof.Rows.slot_tuple_getitem ht.typeIs entry_tuple_getitem ?_ (args_tuple_getitem _ _)))
  show wpAny _ _ (Builtin.Tuple.tupleItemsOf (.ref t) >>= _) _ _ s
  refine wpAny_bind (tupleItemsOf_ ht ?_)
  refine wpAny_bind (wpAny_typeOf hTs ?_)
  rw [if_pos (by decide)]
  refine wpAny_bind (sliceApplied_gen hs pl pu ?_)
  have hno : ¬ ((((sIx items.size 0 lo : Nat) : Int) == 0 && (1 : Int) == 1 && (sIx items.size items.size hi - sIx items.size 0 lo) == items.size) = true) := by
    intro q
    rw [Bool.and_eq_true, Bool.and_eq_true] at q
    have q1 : ((sIx items.size 0 lo : Nat) : Int) = 0 := eq_of_beq q.1.1
    have q2 : sIx items.size items.size hi - sIx items.size 0 lo = items.size := eq_of_beq q.2
    exact hw ⟨by omega, by omega⟩
  show wpAny _ _ (if (((sIx items.size 0 lo : Nat) : Int) == 0 && (1 : Int) == 1 && (sIx items.size items.size hi - sIx items.size 0 lo) == items.size) = true then _ else _) _ _ s
  rw [if_neg hno, pick_gen]
  first
    | exact wpAny_bind (m := Builtin.Tuple.tupleExact _) (wpAny_newObj_type (wpAny_pure ⟨_, rfl, wpAny_pure h⟩) htake)
    | exact wpAny_bind (m := Builtin.Tuple.tupleExact _) (wpAny_newObj_type (wpAny_bind (wpAny_pure (wpAny_pure ⟨_, rfl, wpAny_pure h⟩))) htake)
    | exact wpAny_bind (wpAny_bind (m := Builtin.Tuple.tupleExact _) (wpAny_newObj_type (wpAny_pure (wpAny_pure ⟨_, rfl, wpAny_pure h⟩)) htake))
    | exact wpAny_bind (wpAny_bind (m := Builtin.Tuple.tupleExact _) (wpAny_newObj_type (wpAny_pure ⟨_, rfl, wpAny_pure h⟩) htake))
end
end HT

namespace L2
open PySem PySem.Spec PyProof.Rows

/-! ### the parts of a slice -/
abbrev TO := St → Hp → (Option Int → Hp → Prop) → Prop
/-- a slice's part (left out, or an int) -/
def PO (X : Cx) (e : Option Expr) (t : TO) : Prop :=
  ∀ (pins : List (Addr × Obj)) (s : Shared) (σ : St) (H : Hp) (Q : Option Int → Hp → Prop), Inv X pins σ H s → t σ H Q →
    wpAny (model X.prog X.w) X.A (evalPart e X.env) (fun u s' => ∃ o H', Inv X pins σ H' s' ∧ IsPart u o ∧ Q o H') X.xe s
def tNoPart : TO := fun _ H Q => Q none H
def tPart (t : TE) : TO := fun σ H Q => t σ H fun x H1 => ∃ i, x = .int i ∧ Q (some i) H1

theorem intsAre_of {ns : List Int} : ∀ {us : List Value}, Vals (ns.map V.int) us → IntsAre us ns := by
  induction ns with
  | nil => intro us r; rw [List.map_nil] at r; cases r; exact .nil
  | cons n ns ih =>
    intro us r
    rw [List.map_cons] at r
    cases r with
    | cons r1 r2 =>
      obtain ⟨t, e⟩ := r1
      subst e
      exact .cons n t (ih r2)

section
variable {X : Cx} {e : Expr} {te : TE} {lo hi : Option Expr} {tl th : TO} {pos p2 : Pos}

theorem po_none : PO X none tNoPart := by
  intro pins s σ H Q I h
  rw [evalPart_none]
  exact wpAny_pure ⟨none, H, I, .none, h⟩
theorem po_some (h : PE X e te) : PO X (some e) (tPart te) := by
  intro pins s σ H Q I hw
  rw [evalPart_some]
  refine thn (h pins s σ H _ I hw) fun u s1 ⟨x, H1, I1, r1, q1⟩ => ?_
  obtain ⟨i, rfl, q⟩ := q1
  obtain ⟨t, rfl⟩ := r1
  exact ⟨some i, H1, I1, .int i t, q⟩

/-- what a slice of a value is, by values: the slice object stands at sl -/
def SlR (X : Cx) (r : V → Option Int → Option Int → Hp → VK → Prop) : Prop :=
  ∀ (pins : List (Addr × Obj)) (s : Shared) (σ : St) (H : Hp) (x : V) (v vl vu : Value) (lo hi : Option Int) (sl : Addr) (Q : VK), Inv X pins σ H s → RelV x v → s.heap.IsSliceOf sl vl vu .none → IsPart vl lo → IsPart vu hi → r x lo hi H Q →
    ∃ T id, typeLookup (.type T) "__getitem__" = pure (some (.builtin id)) ∧ s.TypeIs v T ∧ wpAny (model X.prog X.w) X.A (getItem v (.ref sl)) (EP X pins σ Q) X.xe s
theorem SlR.or {r r' : V → Option Int → Option Int → Hp → VK → Prop} (h : SlR X r) (h' : SlR X r') : SlR X (fun x lo hi H Q => r x lo hi H Q ∨ r' x lo hi H Q) := by
  intro pins s σ H x v vl vu lo hi sl Q I rx hs pl pu q
  rcases q with q | q
  · exact h pins s σ H x v vl vu lo hi sl Q I rx hs pl pu q
  · exact h' pins s σ H x v vl vu lo hi sl Q I rx hs pl pu q
def tSl (r : V → Option Int → Option Int → Hp → VK → Prop) (te : TE) (tl th : TO) : TE := fun σ H Q => te σ H fun x H1 => tl σ H1 fun l H2 => th σ H2 fun u H3 => r x l u H3 Q
/-- a[lo:hi], any a -/
theorem pe_slice {r : V → Option Int → Option Int → Hp → VK → Prop} (hr : SlR X r) (he : PE X e te) (hl : PO X lo tl) (hu : PO X hi th) : PE X (.Subscript e (.Slice lo hi none p2) pos) (tSl r te tl th) := by
  intro pins s σ H Q I h
  refine Subscript_ (thn (he pins s σ H _ I h) fun v s1 ⟨x, H1, I1, r1, q1⟩ => ?_)
  refine wpAny_Slice (thn (hl pins s1 σ H1 _ I1 q1) fun vl s2 ⟨l, H2, I2, pl, q2⟩ => thn (hu pins s2 σ H2 _ I2 q2) fun vu s3 ⟨u, H3, I3, pu, q3⟩ => ?_)
  rw [evalPart_none]
  refine wpAny_pure ?_
  have I4 : Inv X pins σ H3 { s3 with heap := s3.heap.push { cls := .type "slice", data := .fields #[vl, vu, .none] } } := I3.kept (t' := s3.toks) fun b ob q => Heap.get?_push_of_some _ q
  obtain ⟨T, id, hT, ht, hg⟩ := hr pins { s3 with heap := s3.heap.push { cls := .type "slice", data := .fields #[vl, vu, .none] } } σ H3 x v vl vu l u s3.heap.objs.size Q I4 r1 (Heap.IsSliceOf.new ..) pl pu q3
  show wpAny (model X.prog X.w) X.A (subscriptTail e (.Slice lo hi none p2) v (.ref s3.heap.objs.size)) (EP X pins σ Q) X.xe { s3 with heap := s3.heap.push { cls := .type "slice", data := .fields #[vl, vu, .none] } }
  exact tail_any (ops := [.ref s3.heap.objs.size, v]) ht hT hg (by with_unfolding_all rfl)

/-- the items of xs[lo:hi] -/
def cutV (xs : List V) (lo hi : Option Int) : List V := (xs.drop (HT.sIx xs.length 0 lo)).take (HT.sIx xs.length xs.length hi - HT.sIx xs.length 0 lo)
theorem cutV_length (xs : List V) (lo hi : Option Int) : (cutV xs lo hi).length ≤ xs.length := by
  unfold cutV
  rw [List.length_take, List.length_drop]
  omega
/-- t[lo:hi], not the whole of it (the whole would be t itself) -/
def rSlT (K : PySem.W.Frag) : V → Option Int → Option Int → Hp → VK → Prop := fun x lo hi H Q => ∃ a xs, x = .ref a ∧ SqT K H a xs ∧
  ¬ (HT.sIx xs.length 0 lo = 0 ∧ HT.sIx xs.length xs.length hi = xs.length) ∧ ∀ p, H p = none → Q (.ref p) (upd H p (.tup (cutV xs lo hi)))
theorem sl_tup : SlR X (rSlT X.K) := by
  intro pins s σ H x v vl vu lo hi sl Q I rx hs pl pu h
  obtain ⟨a, xs, rfl, hx, hw, q⟩ := h
  cases rx
  obtain ⟨its, r, ht, hz⟩ := I.tuple hx
  have hlen : its.toArray.size = xs.length := by rw [List.size_toArray]; exact r.length.symm
  refine ⟨"tuple", _, PyProof.Rows.slot_tuple_getitem.lookup, ht.typeIs, ?_⟩
  refine HT.getItem_tuple_cut ht hs pl pu (by rw [hlen]; exact hw) ?_ (by rw [hlen]; exact hz)
  rw [hlen]
  refine ⟨.ref s.heap.objs.size, _, I.laid (t' := s.toks) (o := .tup (cutV xs lo hi)) (fun b ob q => Heap.get?_push_of_some _ q) (Nat.le_refl _) ?_, rfl, q _ (I.hok.fresh (Nat.le_refl _))⟩
  exact ⟨Nat.le_trans (cutV_length xs lo hi) hz, _, (r.drop (HT.sIx xs.length 0 lo)).take (HT.sIx xs.length xs.length hi - HT.sIx xs.length 0 lo), IsTup.new _ _⟩

/-! ### t < u, t + u -/
def rLtT (K : PySem.W.Frag) : R2 := fun x y H Q => ∃ a b ns ms, x = .ref a ∧ y = .ref b ∧ SqT K H a (ns.map V.int) ∧ SqT K H b (ms.map V.int) ∧ Q (.bl (HT.lexLt ns ms)) H
theorem op_ltT (hu : X.A.units < cLine) : OpR X (compareOp .Lt) (rLtT X.K) := by
  intro pins s σ H x y v u Q I rx ry h
  obtain ⟨a, b, ns, ms, rfl, rfl, ha, hb, q⟩ := h
  cases rx
  cases ry
  obtain ⟨its, r1, p1, _⟩ := I.tuple ha
  obtain ⟨its2, r2, p2, _⟩ := I.tuple hb
  have i1 : IntsAre its.toArray.toList ns := intsAre_of r1
  have i2 : IntsAre its2.toArray.toList ms := intsAre_of r2
  exact HT.lt_tupInts p1 p2 i1 i2 hu ⟨.bl (HT.lexLt ns ms), H, I, rfl, q⟩
/-- t + u, t not empty: u empty gives t itself -/
def rCatT (K : PySem.W.Frag) : R2 := fun x y H Q => ∃ a b xs ys, x = .ref a ∧ y = .ref b ∧ SqT K H a xs ∧ SqT K H b ys ∧ xs ≠ [] ∧ xs.length + ys.length ≤ sizeLine ∧
  (ys = [] → Q (.ref a) H) ∧ (ys ≠ [] → ∀ p, H p = none → Q (.ref p) (upd H p (.tup (xs ++ ys))))
theorem Vals.nil_iff {xs : List V} {us : List Value} (r : Vals xs us) : us = [] ↔ xs = [] := by
  cases r with
  | nil => simp
  | cons _ _ => simp
theorem op_catT : OpR X (binaryOp .Add) (rCatT X.K) := by
  intro pins s σ H x y v u Q I rx ry h
  obtain ⟨a, b, xs, ys, rfl, rfl, ha, hb, hx, hz, q1, q2⟩ := h
  cases rx
  cases ry
  obtain ⟨its, r1, p1, _⟩ := I.tuple ha
  obtain ⟨its2, r2, p2, _⟩ := I.tuple hb
  refine HT.cat_tup p1 p2 (fun z => hx (r1.nil_iff.mp z)) (fun z => ⟨.ref a, H, I, rfl, q1 (r2.nil_iff.mp z)⟩) (fun z => ?_) (by rw [← r1.length, ← r2.length]; exact hz)
  refine ⟨.ref s.heap.objs.size, _, I.laid (t' := s.toks) (o := .tup (xs ++ ys)) (fun b ob q => Heap.get?_push_of_some _ q) (Nat.le_refl _) ?_, rfl, q2 (fun w => z (r2.nil_iff.mpr w)) _ (I.hok.fresh (Nat.le_refl _))⟩
  exact ⟨by rw [List.length_append]; exact hz, _, r1.append r2, IsTup.new _ _⟩
/-- tuple(t) -/
theorem call_tupleT : CallR X (.type "tuple") (fun xs H Q => ∃ a ys, xs = [.ref a] ∧ SqT X.K H a ys ∧ Q (.ref a) H) := by
  intro pins s σ H xs us Q I r h
  obtain ⟨a, ys, rfl, ha, q⟩ := h
  obtain ⟨u, rfl, ru⟩ := vals1 r
  cases ru
  obtain ⟨its, _, p1, _⟩ := I.tuple ha
  exact call_tuple_same (items := its.toArray) p1 ⟨.ref a, H, I, rfl, q⟩
end
end L2

namespace L2
open PySem PySem.Spec PyProof.Rows

/-! ### places -/
/-- the place that an index of any sign means -/
def ixN (n : Nat) (i : Int) : Option Nat := if 0 ≤ i then (if i < n then some i.toNat else none) else if -(n : Int) ≤ i then some (i + n).toNat else none
def atI {α : Type} (xs : List α) (i : Int) : Option α := (ixN xs.length i).bind fun j => xs[j]?
theorem ixN_seq {n : Nat} {i : Int} {j : Nat} (h : ixN n i = some j) : seqIndex? i n = some j ∧ j < n ∧ -(n : Int) ≤ i ∧ i < n := by
  unfold ixN at h
  by_cases h0 : 0 ≤ i
  · rw [if_pos h0] at h
    by_cases h1 : i < n
    · rw [if_pos h1] at h
      have e : i.toNat = j := Option.some.inj h
      exact ⟨by rw [seqIndex_of h0 h1, e], by omega, by omega, h1⟩
    · rw [if_neg h1] at h; cases h
  · rw [if_neg h0] at h
    by_cases h1 : -(n : Int) ≤ i
    · rw [if_pos h1] at h
      have e : (i + n).toNat = j := Option.some.inj h
      exact ⟨by rw [seqIndex_neg (by omega) h1, e], by omega, h1, by omega⟩
    · rw [if_neg h1] at h; cases h
theorem atI_get {α : Type} {xs : List α} {i : Int} {v : α} (h : atI xs i = some v) : ∃ j, seqIndex? i xs.length = some j ∧ xs[j]? = some v ∧ j < xs.length ∧ -(xs.length : Int) ≤ i ∧ i < xs.length := by
  unfold atI at h
  cases e : ixN xs.length i with
  | none => rw [e] at h; cases h
  | some j =>
    rw [e] at h
    obtain ⟨h1, h2, h3, h4⟩ := ixN_seq e
    exact ⟨j, h1, h, h2, h3, h4⟩
theorem atI_nat {α : Type} {xs : List α} {j : Nat} {v : α} (h : xs[j]? = some v) : atI xs (j : Int) = some v := by
  have hj : j < xs.length := (List.getElem?_eq_some_iff.mp h).1
  have e : ixN xs.length (j : Int) = some j := by
    unfold ixN
    rw [if_pos (by omega), if_pos (by omega)]; simp
  unfold atI; rw [e]; exact h
theorem atI_last {α : Type} (xs : List α) (v : α) : atI (xs ++ [v]) (-1) = some v := by
  have hl : (xs ++ [v]).length = xs.length + 1 := by simp
  have e : ixN (xs ++ [v]).length (-1) = some xs.length := by
    unfold ixN
    rw [hl, if_neg (by decide), if_pos (by omega)]
    congr 1
    omega
  unfold atI
  rw [e]
  show (xs ++ [v])[xs.length]? = some v
  simp

/-! ### what may be subscripted -/
/-- what stands as an index of a plain subscript -/
def PlainIx (b : Expr) : Prop := ∀ o i, subscripted b false o i = operate [o, i] (getItem o i)
/-- a subscript by values -/
def IxR (X : Cx) (r : R2) : Prop :=
  ∀ (value slice : Expr) (pins : List (Addr × Obj)) (s : Shared) (σ : St) (H : Hp) (x y : V) (v u : Value) (Q : VK), Inv X pins σ H s → RelV x v → RelV y u → r x y H Q →
    subscripted slice false v u = operate [v, u] (getItem v u) → wpAny (model X.prog X.w) X.A (subscriptTail value slice v u) (EP X pins σ Q) X.xe s
/-- a call of a builtin's method by values: the receiver, the arguments -/
def MtR (X : Cx) (id : String) (r : V → List V → Hp → VK → Prop) : Prop :=
  ∀ (pins : List (Addr × Obj)) (s : Shared) (σ : St) (H : Hp) (x : V) (xs : List V) (v : Value) (us : List Value) (Q : VK), Inv X pins σ H s → RelV x v → Vals xs us → r x xs H Q →
    wpAny (model X.prog X.w) X.A (call (.builtin id) (v :: us)) (EP X pins σ Q) X.xe s
section
variable {X : Cx} {a b : Expr} {ta tb : TE} {pos : Pos}
theorem IxR.or {r r' : R2} (h : IxR X r) (h' : IxR X r') : IxR X (fun x y H Q => r x y H Q ∨ r' x y H Q) := by
  intro value slice pins s σ H x y v u Q I rx ry q hs
  rcases q with q | q
  · exact h value slice pins s σ H x y v u Q I rx ry q hs
  · exact h' value slice pins s σ H x y v u Q I rx ry q hs
theorem MtR.or {id : String} {r r' : V → List V → Hp → VK → Prop} (h : MtR X id r) (h' : MtR X id r') : MtR X id (fun x xs H Q => r x xs H Q ∨ r' x xs H Q) := by
  intro pins s σ H x xs v us Q I rx rs q
  rcases q with q | q
  · exact h pins s σ H x xs v us Q I rx rs q
  · exact h' pins s σ H x xs v us Q I rx rs q
/-- a[b] -/
theorem pe_ix {r : R2} (hr : IxR X r) (ha : PE X a ta) (hb : PE X b tb) (hs : PlainIx b) : PE X (.Subscript a b pos) (tOp r ta tb) := by
  intro pins s σ H Q I h
  exact Subscript_ (binT ha hb I h fun v u s2 x y H2 I2 rx ry q => hr a b pins s2 σ H2 x y v u Q I2 rx ry q (hs _ _))

def rIxL (K : PySem.W.Frag) : R2 := fun x y H Q => ∃ p xs i v, x = .ref p ∧ y = .int i ∧ SqL K H p xs ∧ atI xs i = some v ∧ Q v H
def rIxT (K : PySem.W.Frag) : R2 := fun x y H Q => ∃ p xs i v, x = .ref p ∧ y = .int i ∧ SqT K H p xs ∧ atI xs i = some v ∧ Q v H
def rIxS : R2 := fun x y H Q => ∃ z i c, x = .str z ∧ y = .int i ∧ z.length ≤ sizeLine ∧ atI z.cps.toList i = some c ∧ Q (.str ⟨#[c]⟩) H
theorem ix_list : IxR X (rIxL X.K) := by
  intro value slice pins s σ H x y v u Q I rx ry h hs
  obtain ⟨p, xs, i, z, rfl, rfl, hq, he, q⟩ := h
  cases rx
  obtain ⟨t, rfl⟩ := ry
  obtain ⟨its, r, pl, hz⟩ := I.list hq
  obtain ⟨j, h1, h2, h3, h4, h5⟩ := atI_get he
  obtain ⟨w, ew, rw'⟩ := r.get h2
  have hl := r.length
  have hn := line63
  have fin : EP X pins σ Q w s := ⟨z, H, I, rw', q⟩
  by_cases h0 : 0 ≤ i
  · have hj : i.toNat = j := by
      rw [seqIndex_of h0 h5] at h1
      exact Option.some.inj h1
    exact item_listR pl.isList h0 (by omega) (by rw [hj]; simpa using ew) fin hs
  · have hj : (i + (its.toArray.size : Int)).toNat = j := by
      rw [seqIndex_neg (by omega) h4] at h1
      rw [List.size_toArray, ← hl]
      exact Option.some.inj h1
    exact subscriptTail_builtinR (x := w) pl.isList.typeIs slot_list_getitem.lookup
      (wpAny_getItem_list_neg (Q := fun r s' => r = w ∧ EP X pins σ Q r s') pl.isList (by omega) (by rw [List.size_toArray] <;> omega) (by omega) (by rw [hj]; simpa using ew) ⟨rfl, fin⟩) hs
theorem ix_tup : IxR X (rIxT X.K) := by
  intro value slice pins s σ H x y v u Q I rx ry h hs
  obtain ⟨p, xs, i, z, rfl, rfl, hq, he, q⟩ := h
  cases rx
  obtain ⟨t, rfl⟩ := ry
  obtain ⟨its, r, pl, hz⟩ := I.tuple hq
  obtain ⟨j, h1, h2, h3, h4, h5⟩ := atI_get he
  obtain ⟨w, ew, rw'⟩ := r.get h2
  have hl := r.length
  have hn := line63
  have fin : EP X pins σ Q w s := ⟨z, H, I, rw', q⟩
  exact subscriptTail_builtinR (x := w) pl.typeIs slot_tuple_getitem.lookup
    (getItem_tuple (j := j) (Q := fun r s' => r = w ∧ EP X pins σ Q r s') pl (by omega) (by omega) (by rw [List.size_toArray, ← hl]; exact h1) (by simpa using ew) ⟨rfl, fin⟩) hs
theorem ix_str : IxR X rIxS := by
  intro value slice pins s σ H x y v u Q I rx ry h hs
  obtain ⟨z, i, c, rfl, rfl, hz, he, q⟩ := h
  obtain ⟨t, rfl⟩ := rx
  obtain ⟨t', rfl⟩ := ry
  obtain ⟨j, h1, h2, h3, h4, h5⟩ := atI_get he
  have hl : z.cps.toList.length = z.length := by simp [Str.length]
  rw [hl] at h1 h4 h5
  have hn := line63
  exact tail_any (typeIs_str s z t) slot_str_getitem.lookup (getItem_str (c := c) (by
    have e1 : decide (i < -(2 ^ 63 : Int)) = false := decide_eq_false (by omega)
    have e2 : decide (i ≥ 2 ^ 63) = false := decide_eq_false (by omega)
    rw [e1, e2, Bool.or_false]) (by rw [h1]; simpa using h2) ⟨.str ⟨#[c]⟩, H, I.tok _, ⟨_, rfl⟩, q⟩) hs
/-- list, tuple or str -/
def rIx (K : PySem.W.Frag) : R2 := fun x y H Q => rIxL K x y H Q ∨ rIxT K x y H Q ∨ rIxS x y H Q
theorem ix_seq : IxR X (rIx X.K) := ix_list.or (ix_tup.or ix_str)

/-! ### xs[i] = v, any sign -/
/-- the list's object behind a store -/
theorem mapSeq_set (its : List Value) (n j : Nat) (u : Value) : Obj.mapSeq (·.setIfInBounds j u) { cls := .type "list", data := .seq its.toArray n } = { cls := .type "list", data := .seq (its.set j u).toArray n } := by
  simp [Obj.mapSeq]
theorem Inv.lst {pins : List (Addr × Obj)} {σ : St} {H : Hp} {s : Shared} {p : Addr} {xs : List V} (I : Inv X pins σ H s) (h : H p = some (.lst xs)) :
    ∃ (its : List Value) (n : Nat), Vals xs its ∧ s.heap.get? p = some { cls := .type "list", data := .seq its.toArray n } ∧ xs.length ≤ sizeLine := by
  obtain ⟨z, its, n, r, e⟩ := I.hok p _ h
  exact ⟨its, n, r, e, z⟩
/-- the list at p is written by an update of its object -/
theorem Inv.lstUpd {pins : List (Addr × Obj)} {σ : St} {H : Hp} {s : Shared} {p : Addr} {xs ys : List V} {its its' : List Value} {n n' : Nat} {f : Obj → Obj} (I : Inv X pins σ H s) (h : H p = some (.lst xs))
    (ho : s.heap.get? p = some { cls := .type "list", data := .seq its.toArray n }) (hf : f { cls := .type "list", data := .seq its.toArray n } = { cls := .type "list", data := .seq its'.toArray n' }) (r : Vals ys its') (hz : ys.length ≤ sizeLine) (t : Nat) :
    Inv X pins σ (upd H p (.lst ys)) { s with heap := s.heap.update p f, toks := t } := by
  have e : (s.heap.update p f).get? p = some { cls := .type "list", data := .seq its'.toArray n' } := by
    rw [Heap.get?_update_self f ho (by rw [hf] <;> rfl), hf]
  refine I.write (x := p) (e := p) (by rw [h]; trivial) (.inl rfl) (fun b u hb q => (Heap.get?_update_other _ _ (Ne.symm hb)).trans q) ⟨_, e⟩ ?_
  exact ⟨hz, its', n', r, e⟩
def rSetL : V → V → V → Hp → (Hp → Prop) → Prop := fun o i v H Q => ∃ p xs k j, o = .ref p ∧ i = .int k ∧ H p = some (.lst xs) ∧ ixN xs.length k = some j ∧ Q (upd H p (.lst (xs.set j v)))
theorem set_list : PSet X rSetL := by
  intro pins s σ H o i v ov iv u Q I ro ri rv h
  obtain ⟨p, xs, k, j, rfl, rfl, hp, hj, q⟩ := h
  cases ro
  obtain ⟨t, rfl⟩ := ri
  obtain ⟨its, n, r, ho, hz⟩ := I.lst hp
  obtain ⟨h1, h2, h3, h4⟩ := ixN_seq hj
  have hl := r.length
  have hn := line63
  have I' : Inv X pins σ (upd H p (.lst (xs.set j v))) { s with heap := s.heap.update p (Obj.mapSeq (·.setIfInBounds j u)) } :=
    I.lstUpd hp ho (mapSeq_set its n j u) (r.set rv j) (by rw [List.length_set]; exact hz) s.toks
  by_cases h0 : 0 ≤ k
  · have hk : k.toNat = j := by
      rw [seqIndex_of h0 h4] at h1
      exact Option.some.inj h1
    exact PySem.W.ki_setAt ho h0 (by omega) (by rw [List.size_toArray, ← hl]; exact h4) (by rw [hk]; exact ⟨_, I', q⟩)
  · have hk : (k + (its.toArray.size : Int)).toNat = j := by
      rw [seqIndex_neg (by omega) h3] at h1
      rw [List.size_toArray, ← hl]
      exact Option.some.inj h1
    exact PySem.W.ki_setBack ho (by omega) (by rw [List.size_toArray, ← hl]; exact h3) (by omega) (by rw [hk]; exact ⟨_, I', q⟩)

/-! ### slices -/
theorem slice_bounds (lo hi : Option Int) (n : Nat) : (sliceBounds lo hi none n).1 = ((HT.sIx n 0 lo : Nat) : Int) ∧ (sliceBounds lo hi none n).2.1 = ((HT.sIx n n hi : Nat) : Int) ∧ (sliceBounds lo hi none n).2.2 = 1 := by
  refine ⟨?_, ?_, rfl⟩
  · cases lo with
    | none => simp [sliceBounds, HT.sIx]
    | some i =>
      simp only [sliceBounds, HT.sIx, Option.getD_none, show (1 : Int) > 0 by decide, if_true]
      by_cases h : i < 0
      · simp only [h, if_true] <;> omega
      · simp only [h, if_false] <;> omega
  · cases hi with
    | none => simp [sliceBounds, HT.sIx]
    | some i =>
      simp only [sliceBounds, HT.sIx, Option.getD_none, show (1 : Int) > 0 by decide, if_true]
      by_cases h : i < 0
      · simp only [h, if_true] <;> omega
      · simp only [h, if_false] <;> omega
theorem slicePick_cut (its : List Value) (lo hi : Option Int) : slicePick its.toArray lo hi none = ((its.drop (HT.sIx its.length 0 lo)).take (HT.sIx its.length its.length hi - HT.sIx its.length 0 lo)).toArray := by
  obtain ⟨h1, h2, h3⟩ := slice_bounds lo hi its.toArray.size
  unfold slicePick
  rw [h1, h2, h3]
  simp only [sliceRange_one, pick_run, List.size_toArray] <;> rfl
/-- xs[lo:hi] of a list: a new list -/
def rSlL (K : PySem.W.Frag) : V → Option Int → Option Int → Hp → VK → Prop := fun x lo hi H Q => ∃ a xs, x = .ref a ∧ SqL K H a xs ∧ ∀ p, H p = none → Q (.ref p) (upd H p (.lst (cutV xs lo hi)))
theorem sl_list : SlR X (rSlL X.K) := by
  intro pins s σ H x v vl vu lo hi sl Q I rx hs pl pu h
  obtain ⟨a, xs, rfl, hx, q⟩ := h
  cases rx
  obtain ⟨its, r, ht, hz⟩ := I.list hx
  have hlen := r.length
  refine ⟨"list", _, slot_list_getitem.lookup, ht.isList.typeIs, ?_⟩
  refine wpAny_getItem_list_slice ht.isList hs pl pu .none (by simp) ?_ (by rw [List.size_toArray] <;> omega)
  rw [slicePick_cut, ← hlen]
  refine ⟨.ref s.heap.objs.size, _, I.laid (t' := s.toks) (o := .lst (cutV xs lo hi)) (fun b ob q => Heap.get?_push_of_some _ q) (Nat.le_refl _) ?_, rfl, q _ (I.hok.fresh (Nat.le_refl _))⟩
  exact ⟨Nat.le_trans (cutV_length xs lo hi) hz, _, 0, (r.drop (HT.sIx xs.length 0 lo)).take (HT.sIx xs.length xs.length hi - HT.sIx xs.length 0 lo), Heap.get?_push_size _ rfl⟩

/-! ### in, not in: flat items -/
def flatV : V → Bool
  | .non => true
  | .bl _ => true
  | .int _ => true
  | .str _ => true
  | _ => false
/-- == of flat values -/
def eqV : V → V → Bool
  | .non, .non => true
  | .bl a, .bl b => a == b
  | .bl a, .int b => (if a then 1 else 0) == b
  | .int a, .bl b => a == (if b then 1 else 0)
  | .int a, .int b => a == b
  | .str a, .str b => a == b
  | _, _ => false
theorem eqAt_V {A : Around} {s : Shared} {y x : V} {u v : Value} (ry : RelV y u) (rx : RelV x v) (fy : flatV y = true) (fx : flatV x = true) : SeqAt.EqAt A s u v (eqV y x) := by
  cases y with
  | non =>
    cases ry
    cases x with
    | non => cases rx; exact SeqAt.EqAt.same _
    | bl b => cases rx; exact SeqAt.EqAt.none_bool b
    | int b => obtain ⟨t, rfl⟩ := rx; exact SeqAt.EqAt.none_int b t
    | str b => obtain ⟨t, rfl⟩ := rx; exact SeqAt.EqAt.none_str b t
    | _ => exact absurd (show false = true from fx) Bool.false_ne_true
  | bl a =>
    cases ry
    cases x with
    | non => cases rx; exact SeqAt.EqAt.bool_none a
    | bl b => cases rx; exact SeqAt.EqAt.bool_bool a b
    | int b => obtain ⟨t, rfl⟩ := rx; exact SeqAt.EqAt.bool_int a b t
    | str b => obtain ⟨t, rfl⟩ := rx; exact SeqAt.EqAt.bool_str a b t
    | _ => exact absurd (show false = true from fx) Bool.false_ne_true
  | int a =>
    obtain ⟨t', rfl⟩ := ry
    cases x with
    | non => cases rx; exact SeqAt.EqAt.int_none a t'
    | bl b => cases rx; exact SeqAt.EqAt.int_bool a t' b
    | int b => obtain ⟨t, rfl⟩ := rx; exact SeqAt.EqAt.int_int a t' b t
    | str b => obtain ⟨t, rfl⟩ := rx; exact SeqAt.EqAt.int_str a t' b t
    | _ => exact absurd (show false = true from fx) Bool.false_ne_true
  | str a =>
    obtain ⟨t', rfl⟩ := ry
    cases x with
    | non => cases rx; exact SeqAt.EqAt.str_none a t'
    | bl b => cases rx; exact SeqAt.EqAt.str_bool a t' b
    | int b => obtain ⟨t, rfl⟩ := rx; exact SeqAt.EqAt.str_int a t' b t
    | str b => obtain ⟨t, rfl⟩ := rx; exact SeqAt.EqAt.str_str a t' b t
    | _ => exact absurd (show false = true from fx) Bool.false_ne_true
  | _ => exact absurd (show false = true from fy) Bool.false_ne_true
/-- the items' answers, read off the values (a value's own answer does not lean on its token) -/
def eqU (x : V) (u : Value) : Bool := match u with
  | .none => eqV .non x
  | .bool b => eqV (.bl b) x
  | .int i _ => eqV (.int i) x
  | .str z _ => eqV (.str z) x
  | _ => false
theorem eqU_of {x y : V} {u : Value} (r : RelV y u) (f : flatV y = true) : eqU x u = eqV y x := by
  cases y with
  | non => cases r; rfl
  | bl b => cases r; rfl
  | int i => obtain ⟨t, rfl⟩ := r; rfl
  | str z => obtain ⟨t, rfl⟩ := r; rfl
  | _ => exact absurd (show false = true from f) Bool.false_ne_true
theorem any_eqU {x : V} : ∀ {xs : List V} {us : List Value}, Vals xs us → xs.all flatV = true → us.any (eqU x) = xs.any fun y => eqV y x
  | _, _, .nil, _ => rfl
  | y :: xs, u :: us, .cons r t, f => by
    rw [List.all_cons, Bool.and_eq_true] at f
    rw [List.any_cons, List.any_cons, eqU_of r f.1, any_eqU t f.2]
theorem mem_eqAt {A : Around} {s : Shared} {x : V} {v : Value} (rx : RelV x v) (fx : flatV x = true) : ∀ {xs : List V} {us : List Value}, Vals xs us → xs.all flatV = true → ∀ u ∈ us, SeqAt.EqAt A s u v (eqU x u)
  | _, _, .nil, _ => fun u hu => by cases hu
  | y :: xs, u :: us, .cons r t, f => fun u' hu => by
    rw [List.all_cons, Bool.and_eq_true] at f
    rcases List.mem_cons.mp hu with rfl | hu
    · rw [eqU_of r f.1]; exact eqAt_V r rx f.1 fx
    · exact mem_eqAt rx fx t f.2 u' hu
def inV (x : V) (xs : List V) : Bool := xs.any fun y => eqV y x
/-- x in a list or tuple of flat items -/
def rIn (K : PySem.W.Frag) (neg : Bool) : R2 := fun x y H Q => ∃ p xs, y = .ref p ∧ (SqL K H p xs ∨ SqT K H p xs) ∧ flatV x = true ∧ xs.all flatV = true ∧ Q (.bl (if neg then !inV x xs else inV x xs)) H
theorem op_in_seq : OpR X (compareOp .In) (rIn X.K false) := by
  intro pins s σ H x y v u Q I rx ry h
  obtain ⟨p, xs, rfl, hq, fx, fs, q⟩ := h
  cases ry
  rcases hq with hq | hq
  · obtain ⟨its, r, pl, hz⟩ := I.list hq
    refine SeqAt.in_listAt (eqU x) pl.isList (fun w hw => mem_eqAt rx fx r fs w (by simpa using hw)) ⟨.bl _, H, I, rfl, ?_⟩
    rw [show its.toArray.any (eqU x) = its.any (eqU x) by simp, any_eqU r fs]
    exact q
  · obtain ⟨its, r, pl, hz⟩ := I.tuple hq
    refine SeqAt.in_tupleAt (eqU x) pl (fun w hw => mem_eqAt rx fx r fs w (by simpa using hw)) ⟨.bl _, H, I, rfl, ?_⟩
    rw [show its.toArray.any (eqU x) = its.any (eqU x) by simp, any_eqU r fs]
    exact q
theorem op_notIn_seq : OpR X (compareOp .NotIn) (rIn X.K true) := by
  intro pins s σ H x y v u Q I rx ry h
  obtain ⟨p, xs, rfl, hq, fx, fs, q⟩ := h
  cases ry
  rcases hq with hq | hq
  · obtain ⟨its, r, pl, hz⟩ := I.list hq
    refine SeqAt.notIn_listAt (eqU x) pl.isList (fun w hw => mem_eqAt rx fx r fs w (by simpa using hw)) ⟨.bl _, H, I, rfl, ?_⟩
    rw [show its.toArray.any (eqU x) = its.any (eqU x) by simp, any_eqU r fs]
    exact q
  · obtain ⟨its, r, pl, hz⟩ := I.tuple hq
    refine SeqAt.notIn_tupleAt (eqU x) pl (fun w hw => mem_eqAt rx fx r fs w (by simpa using hw)) ⟨.bl _, H, I, rfl, ?_⟩
    rw [show its.toArray.any (eqU x) = its.any (eqU x) by simp, any_eqU r fs]
    exact q
theorem op_notIn_str : OpR X (compareOp .NotIn) (fun x y H Q => ∃ i j, x = .str i ∧ y = .str j ∧ Q (.bl (!(!(Builtin.Str.occurrences j i 0 j.length 1).isEmpty))) H) := by
  intro pins s σ H x y v u Q I rx ry h
  obtain ⟨i, j, rfl, rfl, q⟩ := h
  obtain ⟨t, rfl⟩ := rx
  obtain ⟨t', rfl⟩ := ry
  exact notIn_str ⟨.bl _, H, I, rfl, q⟩

/-! ### len, list(x), tuple(x) of any list or tuple that is read -/
theorem call_len_seq : CallR X (.builtin "len") (fun xs H Q => ∃ p ys, xs = [.ref p] ∧ (SqL X.K H p ys ∨ SqT X.K H p ys) ∧ Q (.int ys.length) H) := by
  intro pins s σ H xs us Q I r h
  obtain ⟨p, ys, rfl, hq, q⟩ := h
  obtain ⟨u, rfl, rx⟩ := vals1 r
  cases rx
  have hn := line63
  rcases hq with hq | hq
  · obtain ⟨its, r', pl, hz⟩ := I.list hq
    have hlen := r'.length
    exact Calls.call_len_list pl.isList (by simp only [List.size_toArray] <;> omega) ⟨.int ys.length, H, I.tok _, ⟨s.toks + 1, by rw [List.size_toArray, hlen]⟩, q⟩
  · obtain ⟨its, r', pl, hz⟩ := I.tuple hq
    have hlen := r'.length
    exact len_tuple pl (by simp only [List.size_toArray] <;> omega) ⟨.int ys.length, H, I.tok _, ⟨s.toks + 1, by rw [List.size_toArray, hlen]⟩, q⟩
theorem call_len_str : CallR X (.builtin "len") (fun xs H Q => ∃ z, xs = [.str z] ∧ z.length ≤ sizeLine ∧ Q (.int z.length) H) := by
  intro pins s σ H xs us Q I r h
  obtain ⟨z, rfl, hz, q⟩ := h
  obtain ⟨u, rfl, t, rfl⟩ := vals1 r
  have hn := line63
  exact len_str (by omega) ⟨.int z.length, H, I.tok _, ⟨_, rfl⟩, q⟩
theorem CallR.or {f : Value} {r r' : List V → Hp → VK → Prop} (h : CallR X f r) (h' : CallR X f r') : CallR X f (fun xs H Q => r xs H Q ∨ r' xs H Q) := by
  intro pins s σ H xs us Q I rs q
  rcases q with q | q
  · exact h pins s σ H xs us Q I rs q
  · exact h' pins s σ H xs us Q I rs q
theorem call_list_of : CallR X (.type "list") (fun xs H Q => ∃ p ys, xs = [.ref p] ∧ (SqL X.K H p ys ∨ SqT X.K H p ys) ∧ ∀ l, H l = none → Q (.ref l) (upd H l (.lst ys))) := by
  intro pins s σ H xs us Q I r h
  obtain ⟨p, ys, rfl, hq, q⟩ := h
  obtain ⟨u, rfl, rx⟩ := vals1 r
  cases rx
  have fin : ∀ (its : List Value), Vals ys its → ys.length ≤ sizeLine → ∀ (h' : Heap) (c' : Nat), (∀ b o', s.heap.get? b = some o' → h'.get? b = some o') →
      h'.get? s.heap.objs.size = some { cls := .type "list", dict := none, data := .seq its.toArray c', slots := #[] } → EP X pins σ Q (.ref s.heap.objs.size) { s with heap := h' } := fun its r' hz h' c' kp e =>
    ⟨.ref s.heap.objs.size, _, I.laid (t' := s.toks) kp (Nat.le_refl _) (show ObjOk X.prog X.w _ h' _ (.lst ys) from ⟨hz, its, c', r', e⟩), rfl, q _ (I.hok.fresh (Nat.le_refl _))⟩
  rcases hq with hq | hq
  · obtain ⟨its, r', pl, hz⟩ := I.list hq
    have hlen := r'.length
    obtain ⟨o, ho, hc, n, hd⟩ := pl.isList
    exact call_list_seq p (.inl rfl) ho hc hd (fun h' c' kp e => fin its r' hz h' c' kp e) (by simp only [List.size_toArray] <;> omega)
  · obtain ⟨its, r', pl, hz⟩ := I.tuple hq
    have hlen := r'.length
    obtain ⟨o, ho, hc, n, hd⟩ := pl
    exact call_list_seq p (.inr rfl) ho hc hd (fun h' c' kp e => fin its r' hz h' c' kp e) (by simp only [List.size_toArray] <;> omega)
theorem call_tuple_of : CallR X (.type "tuple") (fun xs H Q => ∃ p ys, xs = [.ref p] ∧ ((SqL X.K H p ys ∧ ∀ l, H l = none → Q (.ref l) (upd H l (.tup ys))) ∨ (SqT X.K H p ys ∧ Q (.ref p) H))) := by
  intro pins s σ H xs us Q I r h
  obtain ⟨p, ys, rfl, h⟩ := h
  obtain ⟨u, rfl, rx⟩ := vals1 r
  cases rx
  rcases h with ⟨hq, q⟩ | ⟨hq, q⟩
  · obtain ⟨its, r', pl, hz⟩ := I.list hq
    have hlen := r'.length
    refine call_tuple_list pl.isList (fun h' kp => ?_) (by simp only [List.size_toArray] <;> omega)
    have I1 : Inv X pins σ H { s with heap := h' } := I.kept (t' := s.toks) kp
    have I2 : Inv X pins σ (upd H h'.objs.size (.tup ys)) { s with heap := h'.push { cls := .type "tuple", data := .seq its.toArray } } :=
      I1.laid (t' := s.toks) (fun b o e => Heap.get?_push_of_some _ e) (Nat.le_refl _) (show ObjOk X.prog X.w _ _ _ (.tup ys) from ⟨hz, its, r', IsTup.new _ _⟩)
    exact ⟨.ref h'.objs.size, _, I2, rfl, q _ (I1.hok.fresh (Nat.le_refl _))⟩
  · obtain ⟨its, r', pl, hz⟩ := I.tuple hq
    exact call_tuple_same pl ⟨.ref p, H, I, rfl, q⟩

/-! ### the call of a builtin's method: o.m(..) -/
/-- the value is of that builtin type -/
def tyV (K : PySem.W.Frag) (T : String) (x : V) (H : Hp) : Prop := match x with
  | .str _ => T = "str"
  | .int _ => T = "int"
  | .ref p => (T = "list" ∧ ∃ xs, SqL K H p xs) ∨ (T = "tuple" ∧ ∃ o, K.lookup p = some o ∧ o.cls = .type "tuple" ∧ o.dict = none) ∨
      (T = "dict" ∧ ((∃ kvs, H p = some (.dK kvs)) ∨ ∃ kvs, H p = some (.dT kvs))) ∨ (T = "set" ∧ ∃ S n, H p = some (.set S n))
  | _ => False
theorem tyV_is {pins : List (Addr × Obj)} {σ : St} {H : Hp} {s : Shared} {T : String} {x : V} {v : Value} (I : Inv X pins σ H s) (r : RelV x v) (ty : tyV X.K T x H) :
    s.TypeIs v T ∧ ∀ a, v = .ref a → ∃ ob, s.heap.get? a = some ob ∧ ob.dict = none := by
  cases x with
  | str z =>
    obtain ⟨t, rfl⟩ := r
    cases (show T = "str" from ty)
    exact ⟨typeIs_str s z t, fun _ e => nomatch e⟩
  | int i =>
    obtain ⟨t, rfl⟩ := r
    cases (show T = "int" from ty)
    exact ⟨typeIs_int s i t, fun _ e => nomatch e⟩
  | ref p =>
    cases r
    rcases ty with ⟨rfl, xs, hq⟩ | ⟨rfl, o, hk, hc, hd⟩ | ⟨rfl, hk⟩ | ⟨rfl, S, n, hk⟩
    · obtain ⟨its, _, pl, _⟩ := I.list hq
      refine ⟨pl.isList.typeIs, fun a e => ?_⟩
      cases e
      obtain ⟨o, n, e, c, hd, _⟩ := pl
      exact ⟨o, e, hd⟩
    · refine ⟨⟨o, I.kIn p o hk, hc⟩, fun a e => ?_⟩
      cases e
      exact ⟨o, I.kIn _ o hk, hd⟩
    · have z : ∃ o, s.heap.get? p = some o ∧ o.ExactDict := by
        rcases hk with ⟨kvs, hk⟩ | ⟨kvs, hk⟩
        · obtain ⟨_, _, _, _, o, _, _, e, ex, _⟩ := I.hok p _ hk
          exact ⟨o, e, ex⟩
        · obtain ⟨_, _, _, _, o, _, _, e, ex, _⟩ := I.hok p _ hk
          exact ⟨o, e, ex⟩
      obtain ⟨o, e, ex⟩ := z
      refine ⟨⟨o, e, ex.1⟩, fun a e2 => ?_⟩
      cases e2
      exact ⟨o, e, ex.2.1⟩
    · obtain ⟨o, _, _, _, e, ex, _⟩ := I.hok p _ hk
      refine ⟨⟨o, e, ex.1⟩, fun a e2 => ?_⟩
      cases e2
      exact ⟨o, e, ex.2.1⟩
  | _ => exact False.elim ty
def tBM0 (K : PySem.W.Frag) (T : String) (r : V → List V → Hp → VK → Prop) (to : TE) : TE := fun σ H Q => to σ H fun x H1 => tyV K T x H1 ∧ r x [] H1 Q
def tBM (K : PySem.W.Frag) (T : String) (r : V → List V → Hp → VK → Prop) (to : TE) (t : TA) : TE := fun σ H Q => to σ H fun x H1 => tyV K T x H1 ∧ t σ H1 fun xs H2 => r x xs H2 Q
variable {o e : Expr} {es : List Expr} {to : TE} {t : TA} {name : Str} {apos cpos : Pos} {T id : String} {r : V → List V → Hp → VK → Prop}
theorem pe_bm0 (pa : PlainAttrs T) (slot : Slot T name id) (hty : typeOf (.builtin id) = pure (.type "method_descriptor")) (hm : MtR X id r) (ho : PE X o to)
    (hbase : attributeBase o name X.env (eval o X.env) = eval o X.env := by rfl) (hline : (apos.endLine == cpos.line) = true := by rfl) : PE X (.Call (.Attribute o name apos) [] [] cpos) (tBM0 X.K T r to) := by
  intro pins s σ H Q I h
  refine wpAny_Call_method0_late hbase hline (thn (ho pins s σ H _ I h) fun v s1 ⟨x, H1, I1, r1, ty, q1⟩ => ?_)
  obtain ⟨h1, h2⟩ := tyV_is I1 r1 ty
  exact ⟨T, id, pa, slot, hty, h1, h2, Calls.callWith_builtin rfl (PySem.evalArgs_none (hm pins s1 σ H1 x [] v [] Q I1 r1 .nil q1))⟩
theorem pe_bm (pa : PlainAttrs T) (slot : Slot T name id) (hty : typeOf (.builtin id) = pure (.type "method_descriptor")) (hm : MtR X id r) (ho : PE X o to) (ha : PA X (e :: es) t)
    (hbase : attributeBase o name X.env (eval o X.env) = eval o X.env := by rfl)
    (hfew : ((backTo cpos (starEach (e :: es) X.env)).all (fun x => !x.1) && (backToKw cpos (keywordEach [] X.env)).all (fun x => x.1.isSome)
      && decide ((e :: es).length + ([] : List Keyword).length + (if ([] : List Keyword).isEmpty then 0 else 1) < 30)) = true := by rfl)
    (hline : (apos.endLine == cpos.line) = true := by rfl) (hs : starEach (e :: es) X.env = (false, eval e X.env) :: starEach es X.env := by rfl) (hplain : (backTo cpos (starEach es X.env)).any (·.1) = false := by rfl) :
    PE X (.Call (.Attribute o name apos) (e :: es) [] cpos) (tBM X.K T r to t) := by
  intro pins s σ H Q I h
  refine wpAny_Call_method_late hbase hfew hline rfl (thn (ho pins s σ H _ I h) fun v s1 ⟨x, H1, I1, r1, ty, q1⟩ => ?_)
  obtain ⟨h1, h2⟩ := tyV_is I1 r1 ty
  refine ⟨T, id, pa, slot, hty, h1, h2, ?_⟩
  have hA := ha cpos pins s1 σ H1 _ I1 q1
  rw [hs] at hA ⊢
  refine Calls.callWith_builtin (by show (false || (backTo cpos (starEach es X.env)).any (·.1)) = false; rw [hplain] <;> rfl) (Calls.evalArgs_plain ?_)
  exact thn hA fun us s2 ⟨vs, H2, I2, r2, q2⟩ => hm pins s2 σ H2 x vs v us Q I2 r1 r2 q2
/- xs.append(e), list.index on a module's tuple .. are MtR facts of 06m -/
end
end L2

namespace L2
open PySem PySem.Spec PyProof.Rows

def MtM (X : Cx) (id : String) (r : V → List V → Hp → VK → Prop) : Prop :=
  ∀ (pins : List (Addr × Obj)) (s : Shared) (σ : St) (H : Hp) (x : V) (xs : List V) (v : Value) (us : List Value) (Q : VK), Inv X pins σ H s → RelV x v → Vals xs us → r x xs H Q →
    wpAny (model X.prog X.w) X.A (call (.builtin id) (v :: us)) (EP X pins σ Q) X.xe s

/-! ### lists of values -/
theorem Vals.one : ∀ {x : V} {us : List Value}, Vals [x] us → ∃ u, us = [u] ∧ RelV x u
  | _, _, .cons r .nil => ⟨_, rfl, r⟩
theorem Vals.two : ∀ {x y : V} {us : List Value}, Vals [x, y] us → ∃ u v, us = [u, v] ∧ RelV x u ∧ RelV y v
  | _, _, _, .cons r (.cons q .nil) => ⟨_, _, rfl, r, q⟩
theorem Vals.zero : ∀ {us : List Value}, Vals [] us → us = []
  | _, .nil => rfl
theorem Vals.dropLast {xs : List V} {us : List Value} (h : Vals xs us) : Vals xs.dropLast us.dropLast := by
  induction h with
  | nil => exact .nil
  | cons r t ih =>
    cases t with
    | nil => exact .nil
    | cons q t' => exact .cons r ih
theorem Vals.eraseIdx : ∀ {xs : List V} {us : List Value} (i : Nat), Vals xs us → Vals (xs.eraseIdx i) (us.eraseIdx i)
  | _, _, _, .nil => .nil
  | _, _, 0, .cons _ t => t
  | _, _, i + 1, .cons r t => .cons r (Vals.eraseIdx i t)
theorem Vals.reverse {xs : List V} {us : List Value} (h : Vals xs us) : Vals xs.reverse us.reverse := by
  induction h with
  | nil => exact .nil
  | cons r t ih => rw [List.reverse_cons, List.reverse_cons]; exact Vals.append ih (.cons r .nil)
theorem Vals.rep {xs : List V} {us : List Value} (h : Vals xs us) : ∀ k : Nat, Vals (List.replicate k xs).flatten (List.replicate k us).flatten
  | 0 => .nil
  | k + 1 => by
    rw [List.replicate_succ, List.replicate_succ, List.flatten_cons, List.flatten_cons]
    exact Vals.append h (Vals.rep h k)
theorem erase_last {α : Type} (l : List α) : l.eraseIdx (l.length - 1) = l.dropLast := by
  induction l with
  | nil => rfl
  | cons a r ih =>
    cases r with
    | nil => rfl
    | cons b r =>
      have e : (a :: b :: r).length - 1 = ((b :: r).length - 1) + 1 := by
        have h1 : (a :: b :: r).length = r.length + 2 := rfl
        have h2 : (b :: r).length = r.length + 1 := rfl
        omega
      rw [e, List.eraseIdx_cons_succ, ih]
      all_goals rfl
theorem len_erase {α : Type} : ∀ (l : List α) (i : Nat), (l.eraseIdx i).length ≤ l.length
  | [], _ => Nat.le_refl _
  | _ :: _, 0 => Nat.le_succ _
  | _ :: r, i + 1 => Nat.succ_le_succ (len_erase r i)
theorem foldl_rep (its : List Value) : ∀ (k : Nat) (acc : List Value),
    List.foldl (fun x1 x2 => x1 ++ x2) acc.toArray (List.replicate k its.toArray) = (acc ++ (List.replicate k its).flatten).toArray
  | 0, acc => by simp
  | k + 1, acc => by
    have e : acc.toArray ++ its.toArray = (acc ++ its).toArray := by simp
    have e2 : (acc ++ its) ++ (List.replicate k its).flatten = acc ++ (List.replicate (k + 1) its).flatten := by
      rw [List.replicate_succ, List.flatten_cons, List.append_assoc]
    rw [← e2, ← foldl_rep its k (acc ++ its), ← e, List.replicate_succ, List.foldl_cons]

section
variable {X : Cx} {pins : List (Addr × Obj)} {σ : St} {H : Hp} {s : Shared} {l b : Addr} {xs ys zs : List V}

/-! ### the two steps: a tracked list is rewritten, a new list is laid -/
theorem Inv.lset {its its' : List Value} {n : Nat} {f : Array Value → Array Value} {t' : Nat} (I : Inv X pins σ H s) (hH : H l = some (.lst xs))
    (e : s.heap.get? l = some { cls := .type "list", data := .seq its.toArray n }) (hf : f its.toArray = its'.toArray) (hv : Vals ys its') (hz : ys.length ≤ sizeLine) :
    Inv X pins σ (upd H l (.lst ys)) { s with heap := s.heap.update l (Obj.mapSeq f), toks := t' } := by
  have q := PySem.IsL.update e f
  rw [hf] at q
  refine I.write (x := l) (e := l) (by rw [hH]; exact trivial) (.inl rfl) (fun b' u hb hu => (Heap.get?_update_other s.heap (Obj.mapSeq f) (Ne.symm hb)).trans hu) ⟨_, q⟩ ?_
  exact ⟨hz, its', _, hv, q⟩
theorem Inv.lnew {its : List Value} {t' : Nat} (I : Inv X pins σ H s) (hv : Vals ys its) (hz : ys.length ≤ sizeLine) :
    Inv X pins σ (upd H s.heap.objs.size (.lst ys)) { s with heap := s.heap.push { cls := .type "list", data := .seq its.toArray }, toks := t' } :=
  I.laid (fun _ _ q => Heap.get?_push_of_some _ q) (Nat.le_refl _) ⟨hz, its, 0, hv, Heap.get?_push_size _ rfl⟩
theorem Inv.fresh (I : Inv X pins σ H s) : H s.heap.objs.size = none := I.hok.fresh (Nat.le_refl _)
theorem Inv.lstM (I : Inv X pins σ H s) (hH : H l = some (.lst xs)) : xs.length ≤ sizeLine ∧ ∃ (its : List Value) (n : Nat), Vals xs its ∧ xs.length = its.length ∧ s.heap.get? l = some { cls := .type "list", data := .seq its.toArray n } := by
  obtain ⟨z, its, n, r, e⟩ := I.hok l _ hH
  exact ⟨z, its, n, r, r.length, e⟩

theorem notLongL {n : Nat} (h : n ≤ sizeLine) : Builtin.List.listTooLong n = false := by
  unfold Builtin.List.listTooLong
  exact decide_eq_false (by omega)
end

section
variable {X : Cx}

/-! ### methods -/
def rAppend : V → List V → Hp → VK → Prop := fun x vs H Q => ∃ l xs y, x = .ref l ∧ vs = [y] ∧ H l = some (.lst xs) ∧ xs.length < sizeLine ∧ Q .non (upd H l (.lst (xs ++ [y])))
theorem mt_append : MtM X "list.append" rAppend := by
  intro pins s σ H x vs v us Q I rx rv h
  obtain ⟨l, xs, y, rfl, rfl, hH, hz, q⟩ := h
  cases rx
  obtain ⟨u, rfl, ru⟩ := rv.one
  obtain ⟨z, its, n, r, hl, e⟩ := I.lstM hH
  refine call_meets F.slot_list_append ⟨_, e, rfl⟩ F.entry_list_append (F.args_list_append_2 _ _) (PySem.list_append l its.toArray n u (by rw [List.size_toArray]; omega)) ⟨e, ?_⟩
  refine ⟨.non, _, I.lset (its' := its ++ [u]) hH e (by simp) (r.append (.cons ru .nil)) ?_, rfl, q⟩
  rw [List.length_append, List.length_singleton]
  omega

def rExtend : V → List V → Hp → VK → Prop := fun x vs H Q => ∃ l b xs zs, x = .ref l ∧ vs = [.ref b] ∧ H l = some (.lst xs) ∧ H b = some (.lst zs) ∧ xs.length + zs.length ≤ sizeLine ∧ Q .non (upd H l (.lst (xs ++ zs)))
theorem mt_extend : MtM X "list.extend" rExtend := by
  intro pins s σ H x vs v us Q I rx rv h
  obtain ⟨l, b, xs, zs, rfl, rfl, hH, hB, hz, q⟩ := h
  cases rx
  obtain ⟨u, rfl, ru⟩ := rv.one
  cases ru
  obtain ⟨z, its, n, r, hl, e⟩ := I.lstM hH
  obtain ⟨z2, its2, n2, r2, hl2, e2⟩ := I.lstM hB
  have hsz : its.toArray.size + its2.toArray.size ≤ sizeLine := by rw [List.size_toArray, List.size_toArray]; omega
  have hlong : ¬ (!its.toArray.isEmpty && Builtin.List.listTooLong (its.toArray.size + its2.toArray.size)) = true := by
    rw [notLongL hsz, Bool.and_false]
    exact Bool.false_ne_true
  refine call_meets F.slot_list_extend ⟨_, e, rfl⟩ F.entry_list_extend (F.args_list_extend_2 _ _)
    (AutoSeq1.list_extend_list_list_0 l its.toArray n b its2.toArray n2 hlong (by rw [List.size_toArray]; omega) (by omega)) ⟨e, e2, ?_⟩
  refine ⟨.non, _, I.lset (its' := its ++ its2) hH e (by simp) (r.append r2) ?_, rfl, q⟩
  rw [List.length_append]
  omega

def rPop : V → List V → Hp → VK → Prop := fun x vs H Q => ∃ l xs y, x = .ref l ∧ vs = [] ∧ H l = some (.lst xs) ∧ xs[xs.length - 1]? = some y ∧ Q y (upd H l (.lst xs.dropLast))
theorem mt_pop : MtM X "list.pop" rPop := by
  intro pins s σ H x vs v us Q I rx rv h
  obtain ⟨l, xs, y, rfl, rfl, hH, hy, q⟩ := h
  cases rx
  have hus := rv.zero
  subst hus
  obtain ⟨z, its, n, r, hl, e⟩ := I.lstM hH
  obtain ⟨u, hu, ru⟩ := r.get hy
  have hy' : its.toArray[its.toArray.size - 1]? = some u := by
    show its.toArray[its.length - 1]? = some u
    rw [← Array.getElem?_toList, ← hl]
    exact hu
  refine call_meets F.slot_list_pop ⟨_, e, rfl⟩ F.entry_list_pop (F.args_list_pop_1 _) (MeetsSeq.list_pop_last l its.toArray n u hy' (by rw [List.size_toArray]; omega)) ⟨e, ?_⟩
  refine ⟨y, _, I.lset (its' := its.dropLast) hH e ?_ r.dropLast ?_, ru, q⟩
  · show its.toArray.eraseIdxIfInBounds (its.toArray.size - 1) = its.dropLast.toArray
    rw [List.size_toArray, List.eraseIdxIfInBounds_toArray, erase_last]
  · rw [List.length_dropLast]
    omega

def rPopAt : V → List V → Hp → VK → Prop := fun x vs H Q => ∃ l xs i k y, x = .ref l ∧ vs = [.int i] ∧ H l = some (.lst xs) ∧ -(2 ^ 63) ≤ i ∧ i < 2 ^ 63 ∧ seqIndex? i xs.length = some k ∧ xs[k]? = some y ∧ Q y (upd H l (.lst (xs.eraseIdx k)))
theorem mt_popAt : MtM X "list.pop" rPopAt := by
  intro pins s σ H x vs v us Q I rx rv h
  obtain ⟨l, xs, i, k, y, rfl, rfl, hH, h1, h2, hk, hy, q⟩ := h
  cases rx
  obtain ⟨u, rfl, ru⟩ := rv.one
  obtain ⟨t, rfl⟩ := ru
  obtain ⟨z, its, n, r, hl, e⟩ := I.lstM hH
  obtain ⟨w, hw, rw'⟩ := r.get hy
  refine call_meets F.slot_list_pop ⟨_, e, rfl⟩ F.entry_list_pop (F.args_list_pop_2 _ _)
    (MeetsSeq.list_pop_at l its.toArray n i t k w (fitsIndex_both h1 h2) (by rw [List.size_toArray, ← hl]; exact hk) (by rw [← Array.getElem?_toList]; exact hw) (by rw [List.size_toArray]; omega)) ⟨e, ?_⟩
  refine ⟨y, _, I.lset (its' := its.eraseIdx k) hH e ?_ (r.eraseIdx k) ?_, rw', q⟩
  · show its.toArray.eraseIdxIfInBounds k = (its.eraseIdx k).toArray
    rw [List.eraseIdxIfInBounds_toArray]
  · have := len_erase xs k
    omega

def rReverse : V → List V → Hp → VK → Prop := fun x vs H Q => ∃ l xs, x = .ref l ∧ vs = [] ∧ H l = some (.lst xs) ∧ Q .non (upd H l (.lst xs.reverse))
theorem mt_reverse : MtM X "list.reverse" rReverse := by
  intro pins s σ H x vs v us Q I rx rv h
  obtain ⟨l, xs, rfl, rfl, hH, q⟩ := h
  cases rx
  have hus := rv.zero
  subst hus
  obtain ⟨z, its, n, r, hl, e⟩ := I.lstM hH
  refine call_meets F.slot_list_reverse ⟨_, e, rfl⟩ F.entry_list_reverse (F.args_list_reverse_1 _) (AutoSeq1.list_reverse_list_0 l its.toArray n (by rw [List.size_toArray]; omega)) ⟨e, ?_⟩
  refine ⟨.non, _, I.lset (its' := its.reverse) hH e (by simp) r.reverse ?_, rfl, q⟩
  rw [List.length_reverse]
  omega

def rClear : V → List V → Hp → VK → Prop := fun x vs H Q => ∃ l xs, x = .ref l ∧ vs = [] ∧ H l = some (.lst xs) ∧ Q .non (upd H l (.lst []))
theorem mt_clear : MtM X "list.clear" rClear := by
  intro pins s σ H x vs v us Q I rx rv h
  obtain ⟨l, xs, rfl, rfl, hH, q⟩ := h
  cases rx
  have hus := rv.zero
  subst hus
  obtain ⟨z, its, n, r, hl, e⟩ := I.lstM hH
  refine call_meets F.slot_list_clear ⟨_, e, rfl⟩ F.entry_list_clear (F.args_list_clear_1 _) (AutoSeq1.list_clear_list_0 l its.toArray n (by rw [List.size_toArray]; omega)) ⟨e, ?_⟩
  exact ⟨.non, _, I.lset (its' := []) (ys := []) hH e rfl .nil (Nat.zero_le _), rfl, q⟩

/-! ### list + list, list += list, list * int -/
def rCat : R2 := fun x y H Q => ∃ l b xs zs, x = .ref l ∧ y = .ref b ∧ H l = some (.lst xs) ∧ H b = some (.lst zs) ∧ xs.length + zs.length ≤ sizeLine ∧ ∀ p, H p = none → Q (.ref p) (upd H p (.lst (xs ++ zs)))
theorem op_cat : OpR X (binaryOp .Add) rCat := by
  intro pins s σ H x y v u Q I rx ry h
  obtain ⟨l, b, xs, zs, rfl, rfl, hH, hB, hz, q⟩ := h
  cases rx
  cases ry
  obtain ⟨z, its, n, r, hl, e⟩ := I.lstM hH
  obtain ⟨z2, its2, n2, r2, hl2, e2⟩ := I.lstM hB
  refine PySem.P.add_list e e2 ?_ (by rw [List.size_toArray, List.size_toArray]; omega)
  have ea : its.toArray ++ its2.toArray = (its ++ its2).toArray := by simp
  rw [ea]
  exact ⟨.ref _, _, I.lnew (t' := s.toks) (r.append r2) (by rw [List.length_append]; omega), rfl, q _ I.fresh⟩
/-- a list times an int (a negative one is nothing) -/
def rRep : R2 := fun x y H Q => ∃ l k xs, x = .ref l ∧ y = .int k ∧ H l = some (.lst xs) ∧ -(2 ^ 63) ≤ k ∧ k < 2 ^ 63 ∧ xs.length * k.toNat ≤ sizeLine ∧
  ∀ p, H p = none → Q (.ref p) (upd H p (.lst (List.replicate k.toNat xs).flatten))
theorem len_rep {α : Type} (xs : List α) (k : Nat) : (List.replicate k xs).flatten.length = k * xs.length := by
  induction k with
  | zero => simp
  | succ k ih => rw [List.replicate_succ, List.flatten_cons, List.length_append, ih, Nat.succ_mul, Nat.add_comm]
theorem op_rep : OpR X (binaryOp .Mult) rRep := by
  intro pins s σ H x y v u Q I rx ry h
  obtain ⟨l, k, xs, rfl, rfl, hH, h1, h2, hz, q⟩ := h
  cases rx
  obtain ⟨t, rfl⟩ := ry
  obtain ⟨z, its, n, r, hl, e⟩ := I.lstM hH
  have hlen : its.toArray.size * k.toNat ≤ sizeLine := by rw [List.size_toArray, ← hl]; exact hz
  have hcap : ¬ its.toArray.size * k.toNat > (2 ^ 63 - 1) / 8 := by
    have : (sizeLine : Nat) ≤ (2 ^ 63 - 1) / 8 := by decide
    omega
  have hfit : ¬ (!Builtin.List.listFitsIndex k) = true := by
    rw [fitsIndex_both h1 h2]
    exact Bool.false_ne_true
  have hlong : ¬ Builtin.List.listTooLong (its.toArray.size * k.toNat) = true := by
    rw [notLongL hlen]
    exact Bool.false_ne_true
  have hnew : List.foldl (fun x1 x2 => x1 ++ x2) #[] (List.replicate (if its.toArray.isEmpty = true then 0 else k.toNat) its.toArray) = (List.replicate k.toNat its).flatten.toArray := by
    have f0 : ∀ m : Nat, List.foldl (fun x1 x2 => x1 ++ x2) #[] (List.replicate m its.toArray) = (List.replicate m its).flatten.toArray := fun m => by
      have := foldl_rep its m []
      rw [List.nil_append] at this
      exact this
    rw [f0]
    cases its with
    | nil => simp
    | cons a r' => rw [if_neg (by simp)]
  refine wpAny_binaryOp_repeat_ref (T := "list") (U := "int") (by decide) ⟨_, e, rfl⟩ (fun s' => typeIs_int s' k t) noFill_list_mul F.fills_int_mul F.slot_int_rmul repeat_list F.slot_int_index.lookup
    (call_meets F.slot_int_rmul (typeIs_int s k t) F.entry_int_rmul (F.args_int_rmul_2 _ _) (int___rmul___int_list k t l its.toArray n)
      ⟨e, rfl, ⟨_, e, rfl⟩, call_meets F.slot_list_mul ⟨_, e, rfl⟩ F.entry_list_mul (F.args_list_mul_2 _ _) (AutoListH.list___mul___list_int_3 l its.toArray n k t hfit hcap hlong) ⟨e, ?_⟩⟩)
  rw [hnew]
  exact ⟨.ref _, _, I.lnew (t' := s.toks) (r.rep k.toNat) (by rw [len_rep, Nat.mul_comm]; exact hz), rfl, q _ I.fresh⟩

/-! ### del xs[i] -/
theorem del_list {pins : List (Addr × Obj)} {s : Shared} {σ : St} {H : Hp} {l : Addr} {xs : List V} {i : Int} {t : Tok} {k : Nat} {Q : Unit → Shared → Prop} (I : Inv X pins σ H s) (hH : H l = some (.lst xs))
    (h1 : -(2 ^ 63) ≤ i) (h2 : i < 2 ^ 63) (hk : seqIndex? i xs.length = some k) (h : ∀ s', Inv X pins σ (upd H l (.lst (xs.eraseIdx k))) s' → Q () s') :
    wpAny (model X.prog X.w) X.A (delItem (.ref l) (.int i t)) Q X.xe s := by
  obtain ⟨z, its, n, r, hl, e⟩ := I.lstM hH
  refine PySem.P.delItem_list (k := k) e (fitsIndex_both h1 h2) (by rw [List.size_toArray, ← hl]; exact hk) (h _ ?_) (by rw [List.size_toArray]; omega)
  refine I.lset (its' := its.eraseIdx k) (t' := s.toks) hH e ?_ (r.eraseIdx k) ?_
  · show its.toArray.eraseIdxIfInBounds k = (its.eraseIdx k).toArray
    rw [List.eraseIdxIfInBounds_toArray]
  · have := len_erase xs k
    omega
end

/-! ### xs[a:b] = ys -/
section
variable {prog : Program} {w : World} {A : Around} {E : Value → Shared → Prop} {s : Shared}
theorem splice_eq (its its2 : List Value) (a c : Nat) : its.toArray.extract 0 a ++ its2.toArray ++ its.toArray.extract c its.toArray.size = (its.take a ++ its2 ++ its.drop c).toArray := by
  apply Array.toList_inj.mp
  first
    | (simp
       exact List.take_of_length_le (by simp))
    | simp [List.take_of_length_le]
    | simp
theorem bounds_run {a c n : Nat} (hac : a ≤ c) (hc : c ≤ n) : sliceBounds (some (a : Int)) (some (c : Int)) none n = ((a : Int), (c : Int), 1) := by
  simp only [sliceBounds, Option.getD_none]
  have h1 : ¬ ((a : Int) < 0) := by omega
  have h2 : ¬ ((c : Int) < 0) := by omega
  simp only [h1, h2, if_false, show (1 : Int) > 0 by decide, if_true]
  congr 1
  · omega
  · congr 1; omega
set_option maxRecDepth 100000 in
/-- list.__setitem__ with a slice of step one and another list -/
theorem setItem_slice {l b sl : Addr} {items new : Array Value} {n n2 : Nat} {vl vu : Value} {a c : Nat} {Q : Unit → Shared → Prop}
    (e : s.heap.get? l = some { cls := .type "list", data := .seq items n }) (e2 : s.heap.get? b = some { cls := .type "list", data := .seq new n2 }) (hne : l ≠ b)
    (hs : s.heap.IsSliceOf sl vl vu .none) (pl : IsPart vl (some (a : Int))) (pu : IsPart vu (some (c : Int))) (hac : a ≤ c) (hc : c ≤ items.size)
    (hsz : items.size + new.size ≤ sizeLine) (h : Q () { s with heap := s.heap.update l (Obj.mapSeq fun xs => xs.extract 0 a ++ new ++ xs.extract c xs.size) }) :
    wpAny (model prog w) A (setItem (.ref l) (.ref sl) (.ref b)) Q E s := by
  have hl : s.heap.IsList l items := PySem.IsL.isList e
  have hb : s.heap.IsList b new := PySem.IsL.isList e2
  obtain ⟨os, hos, hcs, hds⟩ := id hs
  have hTs : s.TypeIs (.ref sl) "slice" := ⟨os, hos, hcs⟩
  have hstep : ¬ ((rawPart none == rawInt 0) = true) := Bool.false_ne_true
  have hsame : Builtin.List.listSameRef (.ref l) (.ref b) = false := by
    unfold Builtin.List.listSameRef
    exact beq_eq_false_iff_ne.mpr hne
  have hmax : (max (a : Int) (c : Int)).toNat = c := by omega
  have hz' : ((fun xs : Array Value => xs.extract 0 a ++ new ++ xs.extract c xs.size) items).size ≤ sizeLine + 1 := by
    simp only [Array.size_append, Array.size_extract]
    omega
  unfold setItem
  try with_reducible refine wpAny_holding ?_
  first | refine wpAny_bind (wpAny_pure ?_) | skip
  refine wpAny_bind (wpAny_sequenceKey hl.typeIs (by decide) ?_)
  refine wpAny_bind (wpAny_callSpecial?_slot (name := Str.ofString "__setitem__") hl.typeIs slot_list_setitem
    (wpAny_call_entry slot_list_setitem hl.typeIs entry_list_setitem ?_ (args_list_setitem _ _ _)))
  show wpAny _ _ (Builtin.List.listSubscript? (.ref sl) >>= _) _ _ s
  refine wpAny_bind ?_
  unfold Builtin.List.listSubscript?
  refine wpAny_bind (wpAny_specialOf hTs slice_no_index ?_)
  simp only [Option.isNone_none, if_true]
  refine wpAny_pure ?_
  show wpAny _ _ (typeOf (.ref sl) >>= _) _ _ s
  refine wpAny_bind (wpAny_typeOf hTs ?_)
  first
    | rw [if_neg (by decide)]
    | refine PySem.W.KFB.if_not (by decide) ?_
  rw [listSliceParts_eq]
  refine wpAny_bind (wpAny_bind (wpAny_field hos hds (x := .none) rfl (wpAny_bind (wpAny_listPart .none ?_))))
  rw [if_neg hstep]
  refine wpAny_bind (wpAny_field hos hds (x := vl) rfl (wpAny_bind (wpAny_listPart pl ?_)))
  refine wpAny_bind (wpAny_field hos hds (x := vu) rfl (wpAny_bind (wpAny_listPart pu (wpAny_pure ?_))))
  first
    | simp only [hsame, Bool.false_eq_true, if_false]
    | refine PySem.W.KFB.if_not hsame ?_
    | (dsimp only
       rw [if_neg (by rw [hsame]; exact Bool.false_ne_true)])
  refine wpAny_bind (m := Builtin.List.listAllItems (.ref b) "must assign iterable to extended slice") ?_
  unfold Builtin.List.listAllItems
  refine wpAny_bind (wpAny_typeOf hb.typeIs ?_)
  first
    | refine PySem.W.KFB.if_so (by decide) ?_
    | rw [if_pos (by decide)]
    | simp only [beq_self_eq_true, Bool.true_or, if_true]
  unfold Builtin.List.listItems
  refine wpAny_bind (wpAny_seqItems e2 rfl (wpAny_pure ?_))
  refine wpAny_bind (wpAny_bind (wpAny_seqItems e rfl (wpAny_pure ?_)))
  refine wpAny_bind (wpAny_of_eq ((sliceIndices_raw (some (a : Int)) (some (c : Int)) none items.size (by simp)).trans (congrArg (pure : Int × Int × Int → Sem (Int × Int × Int)) (bounds_run hac hc))) ?_)
  show wpAny _ _ (if ((1 : Int) == 1) = true then _ else _) _ _ s
  rw [if_pos (by decide)]
  refine wpAny_bind (wpAny_rule ?_)
  first
    | simp only [notLongL hsz, Bool.false_eq_true, if_false]
    | refine PySem.W.KFB.if_not (notLongL hsz) ?_
  first | refine wpAny_bind (wpAny_pure ?_) | skip
  show wpAny _ _ (updateSeq l (fun xs => xs.extract 0 ((a : Int)).toNat ++ new ++ xs.extract (max (a : Int) (c : Int)).toNat xs.size) >>= _) _ _ s
  rw [hmax, Int.toNat_natCast]
  refine wpAny_bind (wpAny_updateSeq (hz := Nat.le_trans (Nat.le_add_right _ _) hsz) (_hz' := hz') e rfl ?_)
  refine wpAny_bind (wpAny_letGo ?_)
  first
    | exact wpAny_bind (wpAny_pure (wpAny_pure ⟨.none, rfl, wpAny_pure h⟩))
    | exact wpAny_pure ⟨.none, rfl, wpAny_pure h⟩
end

section
variable {X : Cx}
/-- xs[a:c] = ys of another list, at the value level: sl is the slice object that was just made -/
theorem set_slice {pins : List (Addr × Obj)} {s : Shared} {σ : St} {H : Hp} {l b sl : Addr} {xs ys : List V} {a c : Int} {vl vu : Value} {Q : Unit → Shared → Prop} (I : Inv X pins σ H s)
    (hH : H l = some (.lst xs)) (hB : H b = some (.lst ys)) (hne : l ≠ b) (hs : s.heap.IsSliceOf sl vl vu .none) (ra : RelV (.int a) vl) (rc : RelV (.int c) vu) (h0 : 0 ≤ a) (hac : a ≤ c) (hc : c ≤ xs.length)
    (hz : xs.length + ys.length ≤ sizeLine) (h : ∀ s', Inv X pins σ (upd H l (.lst (xs.take a.toNat ++ ys ++ xs.drop c.toNat))) s' → Q () s') :
    wpAny (model X.prog X.w) X.A (setItem (.ref l) (.ref sl) (.ref b)) Q X.xe s := by
  obtain ⟨ta, rfl⟩ := ra
  obtain ⟨tc, rfl⟩ := rc
  obtain ⟨z, its, n, r, hl, e⟩ := I.lstM hH
  obtain ⟨z2, its2, n2, r2, hl2, e2⟩ := I.lstM hB
  obtain ⟨a', rfl⟩ := Int.eq_ofNat_of_zero_le h0
  obtain ⟨c', rfl⟩ := Int.eq_ofNat_of_zero_le (Int.le_trans h0 hac)
  simp only [Int.toNat_natCast] at h
  refine setItem_slice (a := a') (c := c') e e2 hne hs (.int _ _) (.int _ _) (by omega) (by rw [List.size_toArray]; omega) (by rw [List.size_toArray, List.size_toArray]; omega) (h _ ?_)
  refine I.lset (its' := its.take a' ++ its2 ++ its.drop c') (t' := s.toks) hH e ?_ (Vals.append (Vals.append (r.take _) r2) (r.drop _)) ?_
  · exact splice_eq its its2 a' c'
  · rw [List.length_append, List.length_append, List.length_take, List.length_drop]
    omega
end
end L2

namespace Att
open PySem PySem.W PySem.Calls PyProof.Rows

/-! ### the script -/
theorem ints_of_wellAll {P : Params} {h : Heap} : ∀ (ns : List Int) (vs : List Value), WellAll P h vs (ns.map WData.int) → IntsAre vs ns := by
  intro ns
  induction ns with
  | nil =>
    intro vs w
    rw [List.map_nil] at w
    cases w
    exact .nil
  | cons n ns ih =>
    intro vs w
    rw [List.map_cons] at w
    cases w with
    | cons a b =>
      cases a
      exact .cons _ _ (ih _ b)

theorem script_of {l : OpenLaw} {n : Nat} (hn : l.most = some n) {P : Params} {h : Heap} {args : List WData} {vals : List Value}
    (hpre : l.row.toRowW.claim.pre args = true) (hwl : WellAll P h vals args) :
    ∃ a vs ns, vals = [Value.ref a] ∧ args = [WData.list (ns.map WData.int)] ∧ h.get? a = some { cls := .type "list", data := .seq vs.toArray } ∧ IntsAre vs ns ∧ ns.length ≤ n := by
  have hsh : WShape.hasAll [] args [.list .int] = true := (pre_splitW hpre).1
  have hc : l.pre.holds [] { args := args } = true := (pre_splitW hpre).2
  obtain ⟨d, r, rfl, h1, h2⟩ := hasAllW_cons hsh
  obtain rfl := hasAllW_nil h2
  obtain ⟨xs, rfl, h3⟩ := hasW_list h1
  obtain ⟨ns, rfl⟩ := items_int h3
  have hlen : ns.length ≤ n := by
    unfold OpenLaw.pre at hc
    have h4 : (WTm.not (.lt (.lit (.int (n : Int))) (.len (.arg 0)))).holds [] { args := [.list (ns.map .int)] } = true := by
      have h4 := (holds_andW hc).1
      rw [hn] at h4
      exact h4
    have h5 := condW_of h4 (w_not (w_lt w_lit (w_len_list (w_arg rfl))))
    rw [List.length_map] at h5
    refine Nat.le_of_not_lt fun q => ?_
    have q' : (n : Int) < ((ns.length : Nat) : Int) := by omega
    first
      | (rw [decide_eq_true q'] at h5; exact absurd h5 (by decide))
      | (simp at h5; omega)
  cases hwl with
  | cons w1 w2 =>
    cases w2
    cases w1 with
    | list ho hall => exact ⟨_, _, ns, rfl, rfl, ho, ints_of_wellAll ns _ hall, hlen⟩

theorem post_true (l : OpenLaw) (args : List WData) : l.row.toRowW.claim.post args (.bool true) args = true :=
  postW_of (r := l.row.toRowW) (X := (true == true))
    (show WShape.has [] (.bool true) .bool = true by first | rfl | decide | simp [WShape.has, WShape.arms, WShape.armsAll])
    (show (WTm.eq .res (.lit (.bool true))).value [] { args := args, res := some (.bool true), after := args } = some (.bool (true == true)) from w_eq_bool (w_res rfl) w_lit) rfl

/-! ### the attachment: holds_open's last premise (the goal 'hc' behind k_head) from a wpAny of the law's body -/
theorem attach {l : OpenLaw} {n : Nat} {q : Program} {loose : List Str} {XP : (Str → Option Value) → Heap → Prop} {YP : World → Heap → Prop} {d : DefRec} {x : Str}
    (hn : l.most = some n) (hdf : d.params.defaults = [])
    (hbind : ∀ pm cd doc v : Value, bindArgs (docDef d.name d.params d.body d.scope pm cd doc) ⟨[v], []⟩ = pure [(x, v)])
    (hx : d.scope.names.lookup x = some .local ∨ d.scope.names.lookup x = some .cell)
    (hk : d.scope.kind = .function) (hco : d.scope.isCoroutine = false) (hgen : d.scope.isGenerator = false)
    (body : ∀ (w : World) (s₀ s₁ s : Shared) (mg mb : Str → Option Value) (fa : Addr) (o : Obj) (pm cd doc : Value) (a : Addr) (vs : List Value) (ns : List Int),
      Ground q loose [] XP w s₀ mg mb s₁.heap → YP w s₁.heap →
      s₁.heap.get? fa = some o → o.data = .func (docDef d.name d.params d.body d.scope pm cd doc) → s₁.heap.CodeRec cd d.name → mg d.name = some (.ref fa) →
      s₁.heap.get? a = some { cls := .type "list", data := .seq vs.toArray } → IntsAre vs ns → ns.length ≤ n →
      s.gens = #[] → s.os = s₁.os →
      Fr s₁.heap s₁.heap.objs.size s.heap (bindL (envOfC d.name d.scope s₁.heap.objs.size fa cd).kindOf [(x, .ref a)] fun _ => none) →
      Cl s₁.heap.objs.size (cellsFrom (s₁.heap.objs.size + 1) d.scope.names []) s.heap (bindC (envOfC d.name d.scope s₁.heap.objs.size fa cd).kindOf [(x, .ref a)] fun _ => none) →
      wpAny (model l.prog w) (callerA.deeper (envOfC d.name d.scope s₁.heap.objs.size fa cd)) (execs d.body (envOfC d.name d.scope s₁.heap.objs.size fa cd))
        (fun f s' => f = .ret (.bool true) ∧ OldK s₁.heap s'.heap ∧ s'.os = s₁.os ∧ AllBare s'.gens) (fun _ _ => False) s) :
    WalkO q loose XP YP l.row.toRowW d [] (fun f vs => PySem.call f vs) := by
  intro w s₀ s₁ mg mb G Y fa o pm cd doc dV kV ho hd hcd hD hmg hg args vals as hpre hlay hrd hwl hlo
  obtain rfl : dV = .none := Dflts.none hD hdf
  obtain rfl : kV = .none := Dflts.noKw hD
  obtain ⟨a, vs, ns, rfl, rfl, hobj, hints, hlen⟩ := script_of hn hpre hwl
  refine enter_call ?_
  refine call_cells_ret (o := o) (by rw [depth_caller]; decide) ho (fd_plain hd) G.T.nolimit hcd (hbind pm cd doc (.ref a)) (fun y hy => ?_) (fun h₁ tk F X => ?_) hco hgen hk
  · obtain rfl : y = (x, Value.ref a) := List.mem_singleton.mp hy
    rcases hx with e | e
    · exact .inl e
    · exact .inr ⟨e, cellsFrom_some _ _ _ (.inl e)⟩
  · refine wpAny_mono (body w s₀ s₁ { s₁ with heap := h₁, toks := tk } mg mb fa o pm cd doc a vs ns G Y ho (fd_plain hd) hcd hmg hobj hints hlen hg rfl F X) (fun f s' hq => ?_) (fun _ _ hq => hq)
    obtain ⟨rfl, h2, h3, h4⟩ := hq
    exact ⟨.inl ⟨.bool true, .bool true, [], rfl, fun _ => rfl, .bool true, post_true l _, fun _ => ⟨List.Pairwise.nil, fun _ hm => (nomatch hm)⟩⟩, h2, h3, h4⟩

/-- the same from a codeAny of the CALL (for a layer whose function contracts speak of calls) -/
theorem attach_call {l : OpenLaw} {n : Nat} {q : Program} {loose : List Str} {XP : (Str → Option Value) → Heap → Prop} {YP : World → Heap → Prop} {d : DefRec}
    (hn : l.most = some n) (hdf : d.params.defaults = [])
    (call : ∀ (w : World) (s₀ s₁ : Shared) (mg mb : Str → Option Value) (fa : Addr) (o : Obj) (pm cd doc : Value) (a : Addr) (vs : List Value) (ns : List Int),
      Ground q loose [] XP w s₀ mg mb s₁.heap → YP w s₁.heap →
      s₁.heap.get? fa = some o → o.data = .func (docDef d.name d.params d.body d.scope pm cd doc) → s₁.heap.CodeRec cd d.name → mg d.name = some (.ref fa) →
      s₁.heap.get? a = some { cls := .type "list", data := .seq vs.toArray } → IntsAre vs ns → ns.length ≤ n → s₁.gens = #[] →
      codeAny (model l.prog w) callerA (.call (.ref fa) ⟨[.ref a], []⟩) (fun r s' => r = .ok (.ret (.bool true)) ∧ OldK s₁.heap s'.heap ∧ s'.os = s₁.os ∧ AllBare s'.gens) s₁) :
    WalkO q loose XP YP l.row.toRowW d [] (fun f vs => PySem.call f vs) := by
  intro w s₀ s₁ mg mb G Y fa o pm cd doc dV kV ho hd hcd hD hmg hg args vals as hpre hlay hrd hwl hlo
  obtain rfl : dV = .none := Dflts.none hD hdf
  obtain rfl : kV = .none := Dflts.noKw hD
  obtain ⟨a, vs, ns, rfl, rfl, hobj, hints, hlen⟩ := script_of hn hpre hwl
  refine enter_call (codeAny_mono (call w s₀ s₁ mg mb fa o pm cd doc a vs ns G Y ho (fd_plain hd) hcd hmg hobj hints hlen hg) fun r s' hq => ?_)
  obtain ⟨rfl, h2, h3, h4⟩ := hq
  exact ⟨.inl ⟨.bool true, .bool true, [], rfl, fun _ => rfl, .bool true, post_true l _, fun _ => ⟨List.Pairwise.nil, fun _ hm => (nomatch hm)⟩⟩, h2, h3, h4⟩

/-- the same where the top left finished generators (o_head chose holds_openN): nothing may have changed at all and no generator may be left -/
theorem attachN {l : OpenLaw} {n : Nat} {q : Program} {loose : List Str} {XP : (Str → Option Value) → Heap → Prop} {YP : World → Heap → Prop} {d : DefRec} {x : Str}
    (hn : l.most = some n) (hdf : d.params.defaults = [])
    (hbind : ∀ pm cd doc v : Value, bindArgs (docDef d.name d.params d.body d.scope pm cd doc) ⟨[v], []⟩ = pure [(x, v)])
    (hx : d.scope.names.lookup x = some .local ∨ d.scope.names.lookup x = some .cell)
    (hk : d.scope.kind = .function) (hco : d.scope.isCoroutine = false) (hgen : d.scope.isGenerator = false)
    (body : ∀ (w : World) (s₀ s₁ s : Shared) (mg mb : Str → Option Value) (fa : Addr) (o : Obj) (pm cd doc : Value) (a : Addr) (vs : List Value) (ns : List Int),
      Ground q loose [] XP w s₀ mg mb s₁.heap → YP w s₁.heap →
      s₁.heap.get? fa = some o → o.data = .func (docDef d.name d.params d.body d.scope pm cd doc) → s₁.heap.CodeRec cd d.name → mg d.name = some (.ref fa) →
      s₁.heap.get? a = some { cls := .type "list", data := .seq vs.toArray } → IntsAre vs ns → ns.length ≤ n →
      s.gens = #[] → s.os = s₁.os →
      Fr s₁.heap s₁.heap.objs.size s.heap (bindL (envOfC d.name d.scope s₁.heap.objs.size fa cd).kindOf [(x, .ref a)] fun _ => none) →
      Cl s₁.heap.objs.size (cellsFrom (s₁.heap.objs.size + 1) d.scope.names []) s.heap (bindC (envOfC d.name d.scope s₁.heap.objs.size fa cd).kindOf [(x, .ref a)] fun _ => none) →
      wpAny (model l.prog w) (callerA.deeper (envOfC d.name d.scope s₁.heap.objs.size fa cd)) (execs d.body (envOfC d.name d.scope s₁.heap.objs.size fa cd))
        (fun f s' => f = .ret (.bool true) ∧ (∀ b o, s₁.heap.get? b = some o → s'.heap.get? b = some o) ∧ s'.os = s₁.os ∧ s'.gens = #[]) (fun _ _ => False) s) :
    WalkN q loose XP YP l.row.toRowW d [] (fun f vs => PySem.call f vs) := by
  intro w s₀ s₁ mg mb G Y fa o pm cd doc dV kV ho hd hcd hD hmg hg args vals as hpre hlay hrd hwl hlo
  obtain rfl : dV = .none := Dflts.none hD hdf
  obtain rfl : kV = .none := Dflts.noKw hD
  obtain ⟨a, vs, ns, rfl, rfl, hobj, hints, hlen⟩ := script_of hn hpre hwl
  refine enter_callW ?_
  refine call_cells_ret (o := o) (by rw [depth_caller]; decide) ho (fd_plain hd) G.T.nolimit hcd (hbind pm cd doc (.ref a)) (fun y hy => ?_) (fun h₁ tk F X => ?_) hco hgen hk
  · obtain rfl : y = (x, Value.ref a) := List.mem_singleton.mp hy
    rcases hx with e | e
    · exact .inl e
    · exact .inr ⟨e, cellsFrom_some _ _ _ (.inl e)⟩
  · refine wpAny_mono (body w s₀ s₁ { s₁ with heap := h₁, toks := tk } mg mb fa o pm cd doc a vs ns G Y ho (fd_plain hd) hcd hmg hobj hints hlen hg rfl F X) (fun f s' hq => ?_) (fun _ _ hq => hq)
    obtain ⟨rfl, h2, h3, h4⟩ := hq
    exact ⟨.inl ⟨.bool true, .bool true, [], rfl, fun _ => rfl, .bool true, post_true l _, fun _ => ⟨List.Pairwise.nil, fun _ hm => (nomatch hm)⟩⟩, h2, h3, h4⟩

/-! ### rules over ANY heap (no ledger) from facts about the written part K: the library's own take a ledger (News) for what they write -/
section
variable {prog : Program} {w : World} {A : Around} {E : Value → Shared → Prop} {s : Shared} {K : Frag}

/-- a def of the module, or a method (qual 'C.m'), entered: the frame is the next address; cells behind it -/
theorem call_fn {R : Result → Shared → Prop} {name qual : Str} {params : Arguments} {body : List Stmt} {scope : Scope} {dV kV doc pm cdv ct oc : Value} {an od : Option Addr} {osl : Array (Option Value)} {f : Addr} {args : Args} {binds : List (Str × Value)}
    (X : K.In s.heap) (hlim : s.heap.NoLimit) (ho : K.lookup f = some ⟨oc, od, .func (fnOf name qual params body scope dV kV doc pm an cdv ct), osl⟩) (hcd : codeIn K cdv qual = true) (hroom : A.depth < recursionLimit)
    (hbind : BindsTo s (fnOf name qual params body scope dV kV doc pm an cdv ct) args binds)
    (hkind : (binds.all fun y => scope.names.lookup y.1 == some .local || scope.names.lookup y.1 == some .cell) = true)
    (h : ∀ s₁, InCallC s s.heap.objs.size (bindL (envOfC qual scope s.heap.objs.size f cdv).kindOf binds fun _ => none) (cellsFrom (s.heap.objs.size + 1) scope.names [])
        (bindC (envOfC qual scope s.heap.objs.size f cdv).kindOf binds fun _ => none) s₁ →
      wpAny (model prog w) (A.deeper (envOfC qual scope s.heap.objs.size f cdv)) (execs body (envOfC qual scope s.heap.objs.size f cdv))
        (fun fl s' => R (.ok (.ret (match fl with | .ret v => v | _ => .none))) s')
        (fun e s' => wpAny (model prog w) (A.deeper (envOfC qual scope s.heap.objs.size f cdv)) (leaving (envOfC qual scope s.heap.objs.size f cdv) e) (fun _ s'' => R (.error e) s'') (fun e' s'' => R (.error e') s'') s') s₁)
    (hco : scope.isCoroutine = false) (hgen : scope.isGenerator = false) (hk : scope.kind = .function) : codeAny (model prog w) A (.call (.ref f) args) R s := by
  refine codeAny_call_function hroom (X _ _ ho) rfl hco hgen rfl (codeRec_of X hcd) (hbind _ _ _ _ ?_)
  refine wpAny_newFunctionEnv_cells hk (kindsX hkind _) fun env he s₁ x => ?_
  subst he
  exact ⟨hlim.keeps x.toInCall.keep, codeAny_func (h s₁ x)⟩

/-- C(..): dict at size, instance at size + 1, then __init__ -/
theorem make_obj {R : Result → Shared → Prop} {C fI : Addr} {rest : List Value} {kw : List (Str × Value)}
    (X : K.In s.heap) (hm : makesIn K C = true) (hi : findIn K (.ref C) "__init__" = some (some (.ref fI))) (hf : isFn K (.ref fI) = true)
    (h : codeAny (model prog w) (A.under (.builtin "type.__call__" ⟨.ref C :: rest, kw⟩)) (.call (.ref fI) ⟨.ref (s.heap.objs.size + 1) :: rest, kw⟩) (InitBack (s.heap.objs.size + 1) R)
      { s with heap := (s.heap.push emptyDict).push (instObj C s.heap.objs.size) }) : codeAny (model prog w) A (.call (.ref C) ⟨rest, kw⟩) R s := by
  obtain ⟨hh, g, d, t, os⟩ := s
  exact make_core (makes_of X hm) (looks_findIn X hi) (fun self => bind_fn X self (beq_iff_eq.mp hf)) (.inl rfl) h

/-- x.name where the instance's dict holds the name and the class does not -/
theorem get_field {x C : Addr} {ox : Obj} {es : List DictEntry} {n : Nat} {name : Str} {expr : Bool} {v : Value} {Q : Value → Shared → Prop}
    (X : K.In s.heap) (I : PySem.W.InstAt s.heap x ox C (some (dictOf es n))) (hg : plainGet K C name = true) (hh : hasDictIn K C = true) (ha : findIn K (.ref C) name = some none)
    (hl : getL name es = some (some v)) (hv : handedIn v = true) (h : Q v { s with toks := s.toks + 1 }) : wpAny (model prog w) A (getAttr (.ref x) name expr) Q E s :=
  get_value X I (plainGet_of hg).1 (findObj_own hh ha rfl hl) hv h

/-- x.m(..): the method found in the class -/
theorem get_method {x C f : Addr} {ox : Obj} {es : List DictEntry} {n : Nat} {name : Str} {pl : Sem Bool} {Q : Value × List Value → Shared → Prop}
    (X : K.In s.heap) (I : PySem.W.InstAt s.heap x ox C (some (dictOf es n))) (hg : plainGet K C name = true) (hf : findIn K (.ref C) name = some (some (.ref f))) (ht : isFn K (.ref f) = true)
    (hl : getL name es = some none) (h : Q (.ref f, [.ref x]) s) : wpAny (model prog w) A (getMethod (.ref x) name pl) Q E s :=
  method_fn X I (plainGet_of hg).1 (plainGet_of hg).2 hf (beq_iff_eq.mp ht) (by show (lookIn name (dictOf es n)).map _ = _; rw [lookIn_dict, hl]; rfl) h

/-! the whole heap as the ledger: makes every rule that writes through a ledger a rule over any heap -/
def noObjs (h : Heap) : Heap := { h with objs := #[] }
theorem noObjs_get (h : Heap) (b : Addr) : (noObjs h).get? b = none := by
  cases e : (noObjs h).get? b with
  | none => rfl
  | some o => exact absurd (Heap.lt_size e) (Nat.not_lt_zero _)
def ledger (h : Heap) (L d : Addr) : List (Addr × Obj) := (List.range h.objs.size).filterMap fun a => if a = L ∨ a = d then none else (h.get? a).map fun o => (a, o)
theorem mem_ledger {h : Heap} {L d a : Addr} {o : Obj} : (a, o) ∈ ledger h L d ↔ a ≠ L ∧ a ≠ d ∧ h.get? a = some o := by
  unfold ledger
  rw [List.mem_filterMap]
  constructor
  · rintro ⟨b, _, e⟩
    split at e
    · cases e
    · rename_i hb
      obtain ⟨o', ho, e'⟩ := Option.map_eq_some_iff.mp e
      cases e'
      exact ⟨fun q => hb (.inl q), fun q => hb (.inr q), ho⟩
  · rintro ⟨n1, n2, ho⟩
    refine ⟨a, List.mem_range.mpr (Heap.lt_size ho), ?_⟩
    rw [if_neg (show ¬ (a = L ∨ a = d) from fun q => q.elim n1 n2), ho] <;> rfl
theorem news_ledger {h : Heap} {L d : Addr} {od : Obj} (hne : d ≠ L) (ho : h.get? d = some od) : News (noObjs h) L h ([] ++ (d, od) :: ledger h L d) := by
  rintro ⟨a, o⟩ hp
  rcases List.mem_cons.mp hp with e | hp
  · cases e
    exact ⟨ho, hne, noObjs_get _ _⟩
  · obtain ⟨n1, n2, e⟩ := mem_ledger.mp hp
    exact ⟨e, n1, noObjs_get _ _⟩
theorem fr_all {h : Heap} {L : Addr} {m : Str → Option Value} (n : h.Ns L m) : Fr (noObjs h) L h m :=
  ⟨n, fun b o e => (by rw [noObjs_get] at e; cases e), Nat.zero_le _⟩
/-- Upd of the head entry (for append_K, setItem_K ..) -/
theorem upd_ledger {h : Heap} {L d : Addr} {o o' : Obj} : Upd d o o' ((d, o) :: ledger h L d) ((d, o') :: ledger h L d) :=
  .head fun ⟨_, _⟩ hp => (mem_ledger.mp hp).2.1

/-- x.name = v over any heap: L is any namespace of the heap (the frame's, say): its map stays, its object is not told; all else but the dict stays -/
theorem set_field {x C dx L : Addr} {ox : Obj} {m : Str → Option Value} {es es' : List DictEntry} {n n' : Nat} {name : Str} {v : Value} {Q : Unit → Shared → Prop}
    (X : K.In s.heap) (I : PySem.W.InstAt s.heap x ox C (some (dictOf es n))) (hd : ox.dict = some dx) (hL : s.heap.Ns L m) (hne : dx ≠ L)
    (hs : findIn K (.ref C) "__setattr__" = some (some (.builtin "object.__setattr__"))) (hp : plainOver K C = true) (ht : takerIn K C name = some none) (hh : hasDictIn K C = true) (hl : (getL name es).isSome = true)
    (e : (putL name (PyData.keyHash w.params name) (.str name (s.toks + 1)) v es, putN name es n) = (es', n')) (hz : es'.length ≤ 1000)
    (h : ∀ h' : Heap, h'.Ns L m → h'.get? dx = some (dictOf es' n') → (∀ b o, b ≠ dx → b ≠ L → s.heap.get? b = some o → h'.get? b = some o) → Q () { s with heap := h', toks := s.toks + 2 }) :
    wpAny (model prog w) A (setAttr (.ref x) name v) Q E s := by
  obtain ⟨e1, e2⟩ := Prod.mk.inj e
  have hdx : s.heap.get? dx = some (dictOf es n) := by
    have := I.dict
    rw [hd] at this
    exact this
  refine set_plain X I hs (osa_dict (s := { s with toks := s.toks + 1 }) (h₀ := noObjs s.heap) (L := L) (m := m) (od := dictOf es n) (od' := dictOf es' n') (es := es') (n := n') (pre := []) (post := ledger s.heap L dx)
    (fr_all hL) (news_ledger hne hdx) X I hd hp ht hh hl (fun _ q => nomatch q) (fun ⟨_, _⟩ q => (mem_ledger.mp q).2.1) (by rw [putName_dict, e1, e2]) rfl hz fun h' F' N' => ?_)
  exact h h' F'.ns (N'.get (List.Mem.head _)) fun b o n1 n2 ho => N'.get (List.Mem.tail _ (mem_ledger.mpr ⟨n2, n1, ho⟩))
end
end Att

namespace L2
open PySem PySem.Spec PyProof.Rows

theorem vals_ints : ∀ {vs : List Value} {ns : List Int}, IntsAre vs ns → Vals (ns.map V.int) vs
  | _, _, .nil => .nil
  | _, _, .cons n t h => .cons ⟨t, rfl⟩ (vals_ints h)

/-- nothing is tracked but the script, known to the object (or it is an object of the module) -/
def Only (H : Hp) : Prop := ∀ b, H b = none ∨ ∃ o xs, H b = some (.frz o (.lst xs))

/-- THE HEAD: the law's promise, at the heap behind the top. F, the promise of the law's def, may use that base is part of the heap (so K.In base, base.Ns mainGlobals mg stand in Mod) -/
theorem law_call {P : Program} {w : World} {K : PySem.W.Frag} {mg mb : Str → Option Value} {CX : CXT} {k : Nat} {fa a : Addr} {fd : FuncData} {x : Str} {sp : Sp} {s₁ : Shared} {vs : List Value} {ns : List Int}
    (KX : K.In s₁.heap) (hns : s₁.heap.Ns mainGlobals mg) (hb : s₁.heap.Ns builtinsNs mb) (hbb : ∀ x : Str, x ≠ "__name__" → mb x = bootBuiltins x) (hlim : s₁.heap.NoLimit) (hg : s₁.gens = #[])
    (ha : s₁.heap.get? a = some { cls := .type "list", data := .seq vs.toArray }) (hi : IntsAre vs ns) (hl : ns.length ≤ sizeLine) (hr : Room k callerA)
    (F : ∀ base : Heap, K.In base → base.Ns mainGlobals mg → FnOk P w K mg base CX k fa fd [x] sp) (hbind : ∀ (s : Shared) (u : Value), BindsTo s fd ⟨[u], []⟩ [(x, u)])
    (hsp : ∀ H : Hp, Only H → SqL K H a (ns.map V.int) → sp [.ref a] H (fun v _ => v = .bl true) fun _ _ _ => False)
    (hCX : ∀ H e s', CX [] H s₁ (fun _ _ _ => False) e s' → False) :
    codeAny (model P w) callerA (.call (.ref fa) ⟨[.ref a], []⟩) (fun r s' => r = .ok (.ret (.bool true)) ∧ OldK s₁.heap s'.heap ∧ s'.os = s₁.os ∧ AllBare s'.gens) s₁ := by
  have rv := vals_ints hi
  have lenV := hi.length
  -- from an abstract heap in which nothing but the script may be tracked
  have core : ∀ H : Hp, Only H → SqL K H a (ns.map V.int) → HOk P w H s₁.heap → (∀ b, H b ≠ none → b = a) → (H a ≠ none → K.lookup a = none) →
      codeAny (model P w) callerA (.call (.ref fa) ⟨[.ref a], []⟩) (fun r s' => r = .ok (.ret (.bool true)) ∧ OldK s₁.heap s'.heap ∧ s'.os = s₁.os ∧ AllBare s'.gens) s₁ := by
    intro H hO hS hok hA hK
    have base_of : ∀ {b : Addr} {o : Obj}, s₁.heap.get? b = some o → H b = none → (hidT s₁.heap H).get? b = some o := fun e n => hidT_get e n
    have noA : ∀ {b : Addr} {o : Obj} {es : Array DictEntry} {ep : Nat}, s₁.heap.get? b = some o → o.data = .dict es ep → H b = none := fun {b o es ep} e d => by
      cases q : H b with
      | none => rfl
      | some u =>
        have e' : b = a := hA b (by rw [q]; simp)
        subst e'
        rw [ha] at e; cases e
        have d' : Data.seq vs.toArray _ = Data.dict es ep := d
        cases d'
    have nsK : ∀ {b : Addr} {m : Str → Option Value}, s₁.heap.Ns b m → (hidT s₁.heap H).Ns b m := fun {b m} ⟨o, es, ep, e, d, r⟩ => ⟨o, es, ep, base_of e (noA e d), d, r⟩
    have hKb : K.In (hidT s₁.heap H) := fun b o e => base_of (KX b o e) (by
      cases q : H b with
      | none => rfl
      | some u =>
        have e' : b = a := hA b (by rw [q]; simp)
        subst e'
        rw [hK (by rw [q]; simp)] at e; cases e)
    have hM : Mod K mg (hidT s₁.heap H) := ⟨hKb, nsK hns, ⟨mb, nsK hb, hbb⟩, let ⟨mc, h1, h2⟩ := hlim; ⟨mc, nsK h1, h2⟩⟩
    have e0 : Env0 P w K mg (hidT s₁.heap H) callerA [] s₁ H := ⟨rfl, hM, fun b o e => of_hidT e, Nat.le_of_eq (hidT_size _ _), trivial, fun b hb => absurd (show b ∈ ([] : List Addr) from hb) (by simp), hok, .of_eq hg⟩
    refine codeAny_mono ((F _ hKb (nsK hns)).run callerA [] s₁ H ⟨[.ref a], []⟩ [.ref a] [.ref a] _ _ hr e0 (hbind s₁ (.ref a)) (.cons rfl .nil) (hsp H hO hS)) fun r s' h => ?_
    cases r with
    | error e => exact (hCX H e s' h).elim
    | ok fl =>
      cases fl with
      | next => exact False.elim h
      | brk => exact False.elim h
      | cont => exact False.elim h
      | ret u =>
        obtain ⟨v, H', os, bare, un, hok', r', q⟩ := h
        have q' : v = .bl true := q
        subst q'
        obtain rfl : u = Value.bool true := r'
        refine ⟨rfl, OldK.of_keep fun b o e => ?_, os, bare⟩
        cases q : H b with
        | none => exact un.keep b o e q (by intro z; exact absurd (show b ∈ ([] : List Addr) from z) (by simp)) (by simp)
        | some u =>
          rcases hO b with z | ⟨ob, xs, z⟩
          · rw [q] at z; cases z
          · have z2 := un.frzs b ob _ z
            obtain ⟨e1, _⟩ := hok b _ z
            obtain ⟨e2, _⟩ := hok' b _ z2
            rw [e] at e1; cases e1
            exact e2
  cases hk : K.lookup a with
  | some o =>
    -- the script is one of the module's own objects
    have e := KX a o hk
    rw [ha] at e
    cases e
    refine core (fun _ => none) (fun _ => .inl rfl) (.inr ⟨_, vs.toArray, _, hk, rfl, rfl, rfl, by rw [List.size_toArray, lenV]; exact hl, by simpa using rv⟩) (fun b u z => by have z' : (none : Option HO) = some u := z; cases z') (fun b z => absurd rfl z) fun z => absurd rfl z
  | none =>
    refine core (fun b => if b = a then some (.frz { cls := .type "list", data := .seq vs.toArray } (.lst (ns.map V.int))) else none) (fun b => ?_) (.inl (.inr ⟨{ cls := .type "list", data := .seq vs.toArray }, if_pos rfl⟩)) (fun b u z => ?_) (fun b z => ?_) fun _ => hk
    · by_cases hb : b = a
      · exact .inr ⟨_, _, if_pos hb⟩
      · exact .inl (if_neg hb)
    · by_cases hb : b = a
      · have z' := (if_pos hb).symm.trans z
        cases z'
        subst hb
        exact ⟨ha, by rw [List.length_map]; exact hl, vs, _, rv, ha⟩
      · have z' := (if_neg hb).symm.trans z
        cases z'
    · by_cases hb : b = a
      · exact hb
      · exact absurd (if_neg hb) z
end L2

namespace L2
open PySem PySem.Spec PyProof.Rows

abbrev KOf {K : PySem.W.Frag} {h : Heap} (_ : K.In h) : PySem.W.Frag := K

/-- the goal that k_head leaves (case hc), from the law's promise. F gives the function object fd (K's own) once, then the promise over every base -/
theorem walk_of {l : PySem.W.OpenLaw} {n k : Nat} {q : Program} {loose : List Str} {XP : (Str → Option Value) → Heap → Prop} {YP : World → Heap → Prop} {d : DefRec} {K : Params → PySem.W.Frag} {CX : World → CXT} {sp : World → Sp} {x : Str}
    (hn : l.most = some n) (hn2 : n ≤ sizeLine) (hdf : d.params.defaults = []) (hr : Room k callerA)
    (hY : ∀ (w : World) (h : Heap), YP w h → (K w.params).In h)
    (F : ∀ (w : World) (mg : Str → Option Value) (fa : Addr) (h : Heap), (K w.params).In h → h.Ns mainGlobals mg → mg d.name = some (.ref fa) →
      ∃ fd : FuncData, (∀ (s : Shared) (u : Value), BindsTo s fd ⟨[u], []⟩ [(x, u)]) ∧
        ∀ base : Heap, (K w.params).In base → base.Ns mainGlobals mg → FnOk l.prog w (K w.params) mg base (CX w) k fa fd [x] (sp w))
    (hsp : ∀ (w : World) (H : Hp) (a : Addr) (ns : List Int), ns.length ≤ n → Only H → SqL (K w.params) H a (ns.map V.int) → sp w [.ref a] H (fun v _ => v = .bl true) fun _ _ _ => False)
    (hCX : ∀ (w : World) (H : Hp) (s : Shared) (e : Value) (s' : Shared), CX w [] H s (fun _ _ _ => False) e s' → False) :
    PySem.W.WalkO q loose XP YP l.row.toRowW d [] (fun f vs => PySem.call f vs) := by
  refine Att.attach_call hn hdf fun w s₀ s₁ mg mb fa o pm cd doc a vs ns G Y ho hd hcd hmg hobj hints hlen hg => ?_
  have KX := hY w _ Y
  obtain ⟨fd, hb, hF⟩ := F w mg fa _ KX G.T.g hmg
  exact law_call KX G.T.g G.T.b G.T.builtins G.T.nolimit hg hobj hints (Nat.le_trans hlen hn2) hr hF hb (fun H hO hS => hsp w H a ns hlen hO hS) fun H e s' => hCX w H s₁ e s'
/-- the same where the promise hangs on the written part alone: (sp := My.sp_law), no hole under a binder -/
theorem walk_ofK {l : PySem.W.OpenLaw} {n k : Nat} {q : Program} {loose : List Str} {XP : (Str → Option Value) → Heap → Prop} {YP : World → Heap → Prop} {d : DefRec} {K : Params → PySem.W.Frag} {CX : CXT} {sp : PySem.W.Frag → Sp} {x : Str}
    (hn : l.most = some n) (hn2 : n ≤ sizeLine) (hdf : d.params.defaults = []) (hr : Room k callerA)
    (hY : ∀ (w : World) (h : Heap), YP w h → (K w.params).In h)
    (F : ∀ (w : World) (mg : Str → Option Value) (fa : Addr) (h : Heap), (K w.params).In h → h.Ns mainGlobals mg → mg d.name = some (.ref fa) →
      ∃ fd : FuncData, (∀ (s : Shared) (u : Value), BindsTo s fd ⟨[u], []⟩ [(x, u)]) ∧
        ∀ base : Heap, (K w.params).In base → base.Ns mainGlobals mg → FnOk l.prog w (K w.params) mg base CX k fa fd [x] (sp (K w.params)))
    (hsp : ∀ (K : PySem.W.Frag) (H : Hp) (a : Addr) (ns : List Int), ns.length ≤ n → Only H → SqL K H a (ns.map V.int) → sp K [.ref a] H (fun v _ => v = .bl true) fun _ _ _ => False)
    (hCX : ∀ (H : Hp) (s : Shared) (e : Value) (s' : Shared), CX [] H s (fun _ _ _ => False) e s' → False) :
    PySem.W.WalkO q loose XP YP l.row.toRowW d [] (fun f vs => PySem.call f vs) :=
  walk_of (K := K) (CX := fun _ => CX) (sp := fun w => sp (K w.params)) hn hn2 hdf hr hY F (fun w H a ns h1 h2 h3 => hsp (K w.params) H a ns h1 h2 h3) fun _ H s e s' => hCX H s e s'
end L2

/- THE LAST THEOREM (shape; LID, My.* are yours):
   My.Adr: a structure of the addresses that your layer names (classes, functions); My.Txt K t: a structure (Prop) of the equations over K;
   My.txt_mk : {K} {implicit addresses ..} (e1 : nsIn K mainGlobals "law" = some (some (.ref f))) (e2 : K.lookup f = some ⟨oc, od, .func (fnOf "law" "law" params body scope dV kV doc pm an cdv ct), sl⟩) (e3 : codeIn K cdv "law" = true) .. : ∃ t, My.Txt K t

set_option maxRecDepth 100000 in
set_option maxHeartbeats 0 in
theorem PySem.Challenge.cw_LID_holds : PySem.Challenge.rw_LID.Holds := by
  w_on; o_law; k_head; (case hw => w_witness2)
  k_fill
  refine L2.walk_of (l := PySem.Challenge.rw_LID) (n := 63) (k := 40) (x := "script") (CX := fun w => ..) (sp := fun _ => My.sp_law) rfl (by decide) rfl ⟨rfl, by decide, by decide⟩ (fun w h Y => PySem.W.kIn_of Y) ?F ?S ?C
  case F =>
    intro w mg fa h KX G hmg
    have T : ∃ t, My.Txt (L2.KOf KX) t := by
      dsimp only [L2.KOf]                          -- K must stand as «<heap const> w.params» for k_is
      refine' My.txt_mk ?e1 ?e2 ?e3 ..
      (case e1 => PySem.W.k_is)                    -- in the order: a name -> its address -> its object -> its parts
      (case e2 => PySem.W.k_is)
      ..
    obtain ⟨t, T⟩ := T
    have e0 := hmg.symm.trans (PySem.W.mg_of KX G T.law)
    cases e0                                       -- fa is the law's own address
    exact ⟨_, fun s u => .of_eq rfl, fun base kb nb => My.law_fn T kb nb⟩     -- if «.of_eq rfl» comes too early: refine' ⟨_, ?b, fun base kb nb => My.law_fn T kb nb⟩; exact fun s u => .of_eq rfl
  case S => exact fun w H a ns hl hO hS => ..
  case C => exact ..
(the tactic k_is has no namespace: write k_is) -/

/-! SHORT WORDS over the layer: a def of the text, its body, what a loop and a test want. -/
namespace L2
open PySem PySem.Spec PyProof.Rows

/-! ### the text by places -/
/-- the j-th statement of a class's body -/
def inClass (s : Stmt) (j : Nat) : Stmt := match s with
  | .ClassDef _ _ _ body _ _ _ _ _ _ _ => body.getD j (.Pass ⟨0, 0, 0, 0⟩)
  | _ => .Pass ⟨0, 0, 0, 0⟩
def defArgs (s : Stmt) : Arguments := match s with
  | .FunctionDef _ a _ _ _ _ _ _ _ _ => a
  | _ => { posonlyargs := [], args := [], vararg := none, kwonlyargs := [], kw_defaults := [], kwarg := none, defaults := [] }
def defBody (s : Stmt) : List Stmt := match s with
  | .FunctionDef _ _ b _ _ _ _ _ _ _ => b
  | _ => []
def defScope (s : Stmt) : Scope := match s with
  | .FunctionDef _ _ _ _ _ _ sc _ _ _ => sc
  | _ => { kind := .function, names := [], isGenerator := false, isCoroutine := false }

/-! ### no exception leaves a def -/
abbrev CX0 : CXT := fun _ _ _ _ _ _ => False
abbrev E0 : XK := fun _ _ _ => False
theorem pass0 {X : Cx} : Passes CX0 X E0 := fun _ _ _ _ _ _ _ h => h.elim

/-! ### a def (or method) of the text as it stands behind the top -/
structure Fun (K : PySem.W.Frag) (x qual : Str) (st : Stmt) (f : Addr) (fd : FuncData) : Prop where
  ex : ∃ (oc : Value) (od : Option Addr) (kV doc pm : Value) (an : Option Addr) (cdv ct : Value) (osl : Array (Option Value)),
    fd = PySem.W.fnOf x qual (defArgs st) (defBody st) (defScope st) .none kV doc pm an cdv ct ∧ K.lookup f = some ⟨oc, od, .func fd, osl⟩ ∧ PySem.W.codeIn K cdv qual = true
  kp : PySem.W.keepIn K (.ref f) = true
section
variable {P : Program} {w : World} {K : PySem.W.Frag} {mg : Str → Option Value} {base : Heap}
/-- THE RULE for a def: its body as a term of rules, and the reading of that term -/
theorem Fun.ok {x qual : Str} {st : Stmt} {f : Addr} {fd : FuncData} {N ps : List Str} {k : Nat} {sp : Sp} (F : Fun K x qual st f fd) (S : FnScope N ps (defScope st)) (len : ∀ vs H Q E, sp vs H Q E → vs.length = ps.length)
    (hbody : ∀ (cdv : Value) (A : Around) (outer : List Env) (s : Shared) (H : Hp) (vs : List V) (Q : VK) (E : XK), Room k (A.deeper (envOfC qual (defScope st) s.heap.objs.size f cdv)) → sp vs H Q E →
      ∃ t, PSs (cxOf CX0 P w K mg base N qual (defScope st) f cdv A outer s H E).nox (defBody st) t ∧ t { nx := fun _ H' => Q .non H', rt := Q } (start N vs) H) : FnOk P w K mg base CX0 (k + 1) f fd ps sp := by
  obtain ⟨oc, od, kV, doc, pm, an, cdv, ct, osl, rfl, lk, hcd⟩ := F.ex
  refine fn_of lk hcd S len fun A outer s H vs Q E hr hsp => ?_
  obtain ⟨t, h, q⟩ := hbody cdv A outer s H vs Q E hr hsp
  exact ⟨t, h.nox, q⟩
/-- how its arguments bind (no defaults): h is «fun _ _ _ _ _ _ us hl => match us, hl with | [_, _], _ => rfl», one _ a parameter -/
theorem Fun.binds {x qual : Str} {st : Stmt} {f : Addr} {fd : FuncData} {ps : List Str} (F : Fun K x qual st f fd)
    (h : ∀ (kV doc pm : Value) (an : Option Addr) (cdv ct : Value) (us : List Value), us.length = ps.length → bindArgs (PySem.W.fnOf x qual (defArgs st) (defBody st) (defScope st) .none kV doc pm an cdv ct) ⟨us, []⟩ = pure (ps.zip us)) : Binds K fd ps [] := by
  obtain ⟨oc, od, kV, doc, pm, an, cdv, ct, osl, rfl, lk, hcd⟩ := F.ex
  exact .all (h kV doc pm an cdv ct)
theorem fun_mk {x qual : Str} {st : Stmt} {f : Addr} {oc : Value} {od an : Option Addr} {osl : Array (Option Value)} {kV doc pm cdv ct : Value} (l : K.lookup f = some ⟨oc, od, .func (PySem.W.fnOf x qual (defArgs st) (defBody st) (defScope st) .none kV doc pm an cdv ct), osl⟩)
    (c : PySem.W.codeIn K cdv qual = true) (k : PySem.W.keepIn K (.ref f) = true) : Fun K x qual st f (PySem.W.fnOf x qual (defArgs st) (defBody st) (defScope st) .none kV doc pm an cdv ct) := ⟨⟨oc, od, kV, doc, pm, an, cdv, ct, osl, rfl, l, c⟩, k⟩
end
theorem hu_of {A : Around} {k : Nat} (hr : Room k A) : A.units + 1 < cLine := Nat.lt_of_le_of_lt (Nat.add_le_add_left (by decide : 1 ≤ 64) _) hr.units
theorem small1000 {n : Nat} (h : n ≤ 1000) : n < sizeLine := Nat.lt_of_le_of_lt h (by decide)

/-! ### expressions in short: the name that stands in the i-th slot -/
section
variable {X : Cx}
theorem pv (i : Nat) {x : Str} {pos : Pos} (hN : X.N[i]? = some x := by rfl) (hv : Vis X.env.scope x := by first | exact Or.inl rfl | exact Or.inr (Or.inl rfl) | exact Or.inr (Or.inr rfl)) (hd : (x == ("__debug__" : Str)) = false := by decide)
    (hcd : (x == ("__classdict__" : Str)) = false := by decide) : PE X (.Name x pos) (tVar i) := pe_var hN hv hd hcd
end

/-! ### tests -/
theorem iteF {A B : Prop} (h : B) : if false = true then A else B := by
  rw [if_neg Bool.false_ne_true]
  exact h
theorem iteT {A B : Prop} (h : A) : if true = true then A else B := by
  rw [if_pos rfl]
  exact h
theorem ite2 {c A B : Prop} [Decidable c] (h1 : c → A) (h2 : ¬ c → B) : if c then A else B := by
  by_cases h : c
  · rw [if_pos h]
    exact h1 h
  · rw [if_neg h]
    exact h2 h
theorem iteNS {c A B : Prop} [Decidable c] (hc : c) (h : B) : if (!decide c) = true then A else B := by
  rw [decide_eq_true hc]
  exact iteF h

/-! ### heaps -/
/-- all that was tracked is as it was -/
def Same (H H' : Hp) : Prop := ∀ b o, H b = some o → H' b = some o
theorem Same.refl (H : Hp) : Same H H := fun _ _ h => h
theorem Same.trans {H H1 H2 : Hp} (a : Same H H1) (b : Same H1 H2) : Same H H2 := fun c o h => b c o (a c o h)
theorem Same.free {H H' : Hp} (e : Same H H') {l : Addr} (h : H' l = Option.none) : H l = Option.none := by
  cases q : H l with
  | none => rfl
  | some o =>
    rw [e l o q] at h
    cases h
theorem Same.seq {K : PySem.W.Frag} {H H' : Hp} {a : Addr} {xs : List V} (e : Same H H') (h : SqL K H a xs) : SqL K H' a xs := by
  rcases h with (h | ⟨o, h⟩) | h
  · exact .inl (.inl (e _ _ h))
  · exact .inl (.inr ⟨o, e _ _ h⟩)
  · exact .inr h

end L2

end
section
set_option Elab.async false
set_option linter.all false
set_option maxRecDepth 100000
set_option maxHeartbeats 1000000
namespace L2
open PySem PySem.Spec PyProof.Rows

/-! ### data: what a value and all that it holds are, as a tree -/
mutual
def IsD (K : PySem.W.Frag) (H : Hp) : PyData → V → Prop
  | .none, v => v = .non
  | .bool b, v => v = .bl b
  | .int i, v => v = .int i
  | .str x, v => v = .str x
  | .list xs, v => ∃ p vs, v = .ref p ∧ SqL K H p vs ∧ IsDs K H xs vs
  | .tuple xs, v => ∃ p vs, v = .ref p ∧ H p = some (.tup vs) ∧ IsDs K H xs vs
  | .dict kvs, v => ∃ p kv, v = .ref p ∧ H p = some (.dD kv) ∧ IsKV K H kvs kv
def IsDs (K : PySem.W.Frag) (H : Hp) : List PyData → List V → Prop
  | [], vs => vs = []
  | d :: ds, vs => ∃ v r, vs = v :: r ∧ IsD K H d v ∧ IsDs K H ds r
def IsKV (K : PySem.W.Frag) (H : Hp) : List (PyData × PyData) → List (PyData × V) → Prop
  | [], kv => kv = []
  | (k, d) :: r, kv => ∃ v r', kv = (k, v) :: r' ∧ IsD K H d v ∧ IsKV K H r r'
end

theorem Same.seqT {K : PySem.W.Frag} {H H' : Hp} {a : Addr} {xs : List V} (e : Same H H') (h : SqT K H a xs) : SqT K H' a xs := by
  rcases h with (h | ⟨o, h⟩) | h
  · exact .inl (.inl (e _ _ h))
  · exact .inl (.inr ⟨o, e _ _ h⟩)
  · exact .inr h

mutual
theorem IsD.same {K : PySem.W.Frag} {H H' : Hp} (e : Same H H') : ∀ {d : PyData} {v : V}, IsD K H d v → IsD K H' d v
  | .none, _, h => by unfold IsD at h ⊢; exact h
  | .bool _, _, h => by unfold IsD at h ⊢; exact h
  | .int _, _, h => by unfold IsD at h ⊢; exact h
  | .str _, _, h => by unfold IsD at h ⊢; exact h
  | .list _, _, h => by
    unfold IsD at h ⊢
    obtain ⟨p, vs, e1, e2, e3⟩ := h
    exact ⟨p, vs, e1, e.seq e2, IsDs.same e e3⟩
  | .tuple _, _, h => by
    unfold IsD at h ⊢
    obtain ⟨p, vs, e1, e2, e3⟩ := h
    exact ⟨p, vs, e1, e _ _ e2, IsDs.same e e3⟩
  | .dict _, _, h => by
    unfold IsD at h ⊢
    obtain ⟨p, kv, e1, e2, e3⟩ := h
    exact ⟨p, kv, e1, e _ _ e2, IsKV.same e e3⟩
theorem IsDs.same {K : PySem.W.Frag} {H H' : Hp} (e : Same H H') : ∀ {ds : List PyData} {vs : List V}, IsDs K H ds vs → IsDs K H' ds vs
  | [], _, h => by unfold IsDs at h ⊢; exact h
  | _ :: _, _, h => by
    unfold IsDs at h ⊢
    obtain ⟨v, r, e1, e2, e3⟩ := h
    exact ⟨v, r, e1, IsD.same e e2, IsDs.same e e3⟩
theorem IsKV.same {K : PySem.W.Frag} {H H' : Hp} (e : Same H H') : ∀ {ds : List (PyData × PyData)} {kv : List (PyData × V)}, IsKV K H ds kv → IsKV K H' ds kv
  | [], _, h => by unfold IsKV at h ⊢; exact h
  | (_, _) :: _, _, h => by
    unfold IsKV at h ⊢
    obtain ⟨v, r, e1, e2, e3⟩ := h
    exact ⟨v, r, e1, IsD.same e e2, IsKV.same e e3⟩
end

section
variable {K : PySem.W.Frag} {H : Hp} {v : V} {vs : List V}
theorem IsD.none_iff : IsD K H .none v ↔ v = .non := by unfold IsD; exact Iff.rfl
theorem IsD.bool_iff {b : Bool} : IsD K H (.bool b) v ↔ v = .bl b := by unfold IsD; exact Iff.rfl
theorem IsD.int_iff {i : Int} : IsD K H (.int i) v ↔ v = .int i := by unfold IsD; exact Iff.rfl
theorem IsD.str_iff {x : Str} : IsD K H (.str x) v ↔ v = .str x := by unfold IsD; exact Iff.rfl
theorem IsD.list_iff {xs : List PyData} : IsD K H (.list xs) v ↔ ∃ p vs, v = .ref p ∧ SqL K H p vs ∧ IsDs K H xs vs := by unfold IsD; exact Iff.rfl
theorem IsD.tuple_iff' {xs : List PyData} : IsD K H (.tuple xs) v ↔ ∃ p vs, v = .ref p ∧ H p = some (.tup vs) ∧ IsDs K H xs vs := by unfold IsD; exact Iff.rfl
theorem IsD.tuple_of {xs : List PyData} (h : IsD K H (.tuple xs) v) : ∃ p vs, v = .ref p ∧ SqT K H p vs ∧ IsDs K H xs vs := by
  obtain ⟨p, vs, e1, e2, e3⟩ := IsD.tuple_iff'.mp h
  exact ⟨p, vs, e1, SqT.of e2, e3⟩
theorem IsD.dict_iff {kvs : List (PyData × PyData)} : IsD K H (.dict kvs) v ↔ ∃ p kv, v = .ref p ∧ H p = some (.dD kv) ∧ IsKV K H kvs kv := by unfold IsD; exact Iff.rfl
theorem IsKV.nil_iff {kv : List (PyData × V)} : IsKV K H [] kv ↔ kv = [] := by unfold IsKV; exact Iff.rfl
theorem IsKV.cons_iff {k d : PyData} {r : List (PyData × PyData)} {kv : List (PyData × V)} : IsKV K H ((k, d) :: r) kv ↔ ∃ v r', kv = (k, v) :: r' ∧ IsD K H d v ∧ IsKV K H r r' := by
  constructor
  · intro h; unfold IsKV at h; exact h
  · intro h; unfold IsKV; exact h
theorem IsDs.nil_iff : IsDs K H [] vs ↔ vs = [] := by unfold IsDs; exact Iff.rfl
theorem IsDs.cons_iff {d : PyData} {ds : List PyData} : IsDs K H (d :: ds) vs ↔ ∃ v r, vs = v :: r ∧ IsD K H d v ∧ IsDs K H ds r := by
  constructor
  · intro h; unfold IsDs at h; exact h
  · intro h; unfold IsDs; exact h
theorem IsDs.nil : IsDs K H [] [] := IsDs.nil_iff.mpr rfl
theorem IsDs.cons {d : PyData} {ds : List PyData} (h : IsD K H d v) (t : IsDs K H ds vs) : IsDs K H (d :: ds) (v :: vs) := IsDs.cons_iff.mpr ⟨v, vs, rfl, h, t⟩
theorem IsDs.length {ds : List PyData} (h : IsDs K H ds vs) : ds.length = vs.length := by
  induction ds generalizing vs with
  | nil => rw [IsDs.nil_iff.mp h]; rfl
  | cons d ds ih =>
    obtain ⟨v, r, rfl, _, t⟩ := IsDs.cons_iff.mp h
    simp [ih t]
theorem IsDs.get {ds : List PyData} {i : Nat} {d : PyData} (h : IsDs K H ds vs) (e : ds[i]? = some d) : ∃ v, vs[i]? = some v ∧ IsD K H d v := by
  induction ds generalizing vs i with
  | nil => simp at e
  | cons d' ds ih =>
    obtain ⟨v, r, rfl, h1, t⟩ := IsDs.cons_iff.mp h
    cases i with
    | zero => simp at e; subst e; exact ⟨v, rfl, h1⟩
    | succ i =>
      obtain ⟨u, e1, e2⟩ := ih t (by simpa using e)
      exact ⟨u, by simpa using e1, e2⟩
theorem IsDs.get' {ds : List PyData} {i : Nat} {v : V} (h : IsDs K H ds vs) (e : vs[i]? = some v) : ∃ d, ds[i]? = some d ∧ IsD K H d v := by
  have hl := h.length
  have hi : i < vs.length := (List.getElem?_eq_some_iff.mp e).1
  have hd : ds[i]? = some ds[i] := List.getElem?_eq_getElem (by omega)
  obtain ⟨u, e1, e2⟩ := h.get hd
  rw [e] at e1; cases e1
  exact ⟨_, hd, e2⟩
theorem IsDs.append {ds es : List PyData} {ws : List V} (h : IsDs K H ds vs) (t : IsDs K H es ws) : IsDs K H (ds ++ es) (vs ++ ws) := by
  induction ds generalizing vs with
  | nil => rw [IsDs.nil_iff.mp h]; exact t
  | cons d ds ih =>
    obtain ⟨v, r, rfl, h1, t1⟩ := IsDs.cons_iff.mp h
    exact IsDs.cons h1 (ih t1)
theorem IsDs.take {ds : List PyData} (n : Nat) (h : IsDs K H ds vs) : IsDs K H (ds.take n) (vs.take n) := by
  induction ds generalizing vs n with
  | nil => rw [IsDs.nil_iff.mp h]; simp; exact IsDs.nil
  | cons d ds ih =>
    obtain ⟨v, r, rfl, h1, t1⟩ := IsDs.cons_iff.mp h
    cases n with
    | zero => simp; exact IsDs.nil
    | succ n => simp only [List.take_succ_cons]; exact IsDs.cons h1 (ih n t1)
theorem IsDs.drop {ds : List PyData} (n : Nat) (h : IsDs K H ds vs) : IsDs K H (ds.drop n) (vs.drop n) := by
  induction ds generalizing vs n with
  | nil => rw [IsDs.nil_iff.mp h]; simp; exact IsDs.nil
  | cons d ds ih =>
    obtain ⟨v, r, rfl, h1, t1⟩ := IsDs.cons_iff.mp h
    cases n with
    | zero => exact h
    | succ n => simp only [List.drop_succ_cons]; exact ih n t1
end

section
variable {X : Cx} {pins : List (Addr × Obj)} {σ : St} {H : Hp} {s : Shared}
mutual
theorem Inv.readsD (I : Inv X pins σ H s) : ∀ {d : PyData} {v : V} {u : Value}, d.canLay0 = true → IsD X.K H d v → RelV v u → ∃ as, Reads s.heap u d as
  | .none, _, _, _, h, r => by rw [IsD.none_iff.mp h] at r; cases r; exact ⟨_, .none⟩
  | .bool b, _, _, _, h, r => by rw [IsD.bool_iff.mp h] at r; cases r; exact ⟨_, .bool b⟩
  | .int i, _, _, _, h, r => by rw [IsD.int_iff.mp h] at r; obtain ⟨t, rfl⟩ := r; exact ⟨_, .int i t⟩
  | .str x, _, _, _, h, r => by rw [IsD.str_iff.mp h] at r; obtain ⟨t, rfl⟩ := r; exact ⟨_, .str x t⟩
  | .list xs, _, _, hc, h, r => by
    obtain ⟨p, vs, rfl, e2, e3⟩ := IsD.list_iff.mp h
    cases r
    obtain ⟨its, rv, ⟨o, n, e, c, _, dd⟩, _⟩ := I.list e2
    obtain ⟨as, ra⟩ := Inv.readsDs I (by simpa [PyData.canLay0] using hc) e3 rv
    exact ⟨_, .list e c dd (by simpa using ra)⟩
  | .tuple xs, _, _, hc, h, r => by
    obtain ⟨p, vs, rfl, e2, e3⟩ := h.tuple_of
    cases r
    obtain ⟨its, rv, ⟨o, e, c, n, dd⟩, _⟩ := I.tuple e2
    obtain ⟨as, ra⟩ := Inv.readsDs I (by simpa [PyData.canLay0] using hc) e3 rv
    exact ⟨_, .tuple e c dd (by simpa using ra)⟩
  | .dict _, _, _, hc, _, _ => by simp [PyData.canLay0] at hc
theorem Inv.readsDs (I : Inv X pins σ H s) : ∀ {ds : List PyData} {vs : List V} {us : List Value}, PyData.canLayAll0 ds = true → IsDs X.K H ds vs → Vals vs us → ∃ as, ReadsAll s.heap us ds as
  | [], _, _, _, h, r => by rw [IsDs.nil_iff.mp h] at r; cases r; exact ⟨_, .nil⟩
  | d :: ds, _, _, hc, h, r => by
    have hc' : d.canLay0 = true ∧ PyData.canLayAll0 ds = true := by simpa [PyData.canLayAll0] using hc
    obtain ⟨v, rr, rfl, h1, t⟩ := IsDs.cons_iff.mp h
    cases r with
    | cons r1 r2 =>
      obtain ⟨as, ra⟩ := Inv.readsD I hc'.1 h1 r1
      obtain ⟨bs, rb⟩ := Inv.readsDs I hc'.2 t r2
      exact ⟨_, .cons ra rb⟩
end
end

/-! ### the pure readings -/
/-- the names' data -/
abbrev Rho := List (Option PyData)
def HasD (K : PySem.W.Frag) (H : Hp) (σ : St) (ρ : Rho) : Prop := σ.length = ρ.length ∧ ∀ (i : Nat) (d : PyData), ρ[i]? = some (some d) → ∃ v, σ[i]? = some (some v) ∧ IsD K H d v
theorem HasD.same {K : PySem.W.Frag} {H H' : Hp} {σ : St} {ρ : Rho} (h : HasD K H σ ρ) (e : Same H H') : HasD K H' σ ρ :=
  ⟨h.1, fun i d q => let ⟨v, a, b⟩ := h.2 i d q; ⟨v, a, b.same e⟩⟩
theorem HasD.set {K : PySem.W.Frag} {H : Hp} {σ : St} {ρ : Rho} {i : Nat} {d : PyData} {v : V} (h : HasD K H σ ρ) (e : IsD K H d v) : HasD K H (σ.set i (some v)) (ρ.set i (some d)) := by
  refine ⟨by simpa using h.1, fun j d' q => ?_⟩
  by_cases hj : j = i
  · subst hj
    have hl : j < ρ.length := by
      have := (List.getElem?_eq_some_iff.mp q).1
      simpa using this
    rw [List.getElem?_set_self hl] at q
    cases q
    exact ⟨v, by rw [List.getElem?_set_self (by rw [h.1]; exact hl)], e⟩
  · rw [List.getElem?_set_ne (Ne.symm hj)] at q
    obtain ⟨u, a, b⟩ := h.2 j d' q
    exact ⟨u, by rw [List.getElem?_set_ne (Ne.symm hj)]; exact a, b⟩
/-- behind it: a value that is d, the heap as it was and more -/
def KD (K : PySem.W.Frag) (H : Hp) (d : PyData) (Q : VK) : Prop := ∀ v H', Same H H' → IsD K H' d v → Q v H'
theorem KD.here {K : PySem.W.Frag} {H : Hp} {d : PyData} {Q : VK} {v : V} (k : KD K H d Q) (h : IsD K H d v) : Q v H := k v H (.refl H) h
theorem KD.later {K : PySem.W.Frag} {H H' : Hp} {d : PyData} {Q : VK} (k : KD K H d Q) (e : Same H H') : KD K H' d Q := fun v H2 e2 i => k v H2 (e.trans e2) i
def tD (K : PySem.W.Frag) (f : Rho → Option PyData) : TE := fun σ H Q => ∃ ρ d, HasD K H σ ρ ∧ f ρ = some d ∧ KD K H d Q
def PD (X : Cx) (e : Expr) (f : Rho → Option PyData) : Prop := PE X e (tD X.K f)
/-- .. of tests -/
def tDT (K : PySem.W.Frag) (f : Rho → Option Bool) : TT := fun σ H Q => ∃ ρ b, HasD K H σ ρ ∧ f ρ = some b ∧ ∀ H', Same H H' → Q b H'
def PDT (X : Cx) (e : Expr) (f : Rho → Option Bool) : Prop := PT X e (tDT X.K f)
/-- .. of argument lists -/
def tDA (K : PySem.W.Frag) (f : Rho → Option (List PyData)) : TA := fun σ H Q => ∃ ρ ds, HasD K H σ ρ ∧ f ρ = some ds ∧ ∀ vs H', Same H H' → IsDs K H' ds vs → Q vs H'
def PDA (X : Cx) (es : List Expr) (f : Rho → Option (List PyData)) : Prop := PA X es (tDA X.K f)
/-- how a block ends -/
inductive Out where
  | nx (ρ : Rho) | rt (d : PyData) | bk (ρ : Rho) | ct (ρ : Rho)
def OutOk (K : PySem.W.Frag) (H : Hp) (D : Ends) : Out → Prop
  | .nx ρ => ∀ σ H', Same H H' → HasD K H' σ ρ → D.nx σ H'
  | .bk ρ => ∀ σ H', Same H H' → HasD K H' σ ρ → D.bk σ H'
  | .ct ρ => ∀ σ H', Same H H' → HasD K H' σ ρ → D.ct σ H'
  | .rt d => KD K H d D.rt
theorem OutOk.later {K : PySem.W.Frag} {H H' : Hp} {D : Ends} (e : Same H H') : ∀ {o : Out}, OutOk K H D o → OutOk K H' D o
  | .nx _, h => fun σ H2 e2 q => h σ H2 (e.trans e2) q
  | .bk _, h => fun σ H2 e2 q => h σ H2 (e.trans e2) q
  | .ct _, h => fun σ H2 e2 q => h σ H2 (e.trans e2) q
  | .rt _, h => KD.later h e
def tDS (K : PySem.W.Frag) (g : Rho → Option Out) : TS := fun D σ H => ∃ ρ o, HasD K H σ ρ ∧ g ρ = some o ∧ OutOk K H D o
def PDS (X : Cx) (st : Stmt) (g : Rho → Option Out) : Prop := PS X st (tDS X.K g)
def PDSs (X : Cx) (st : List Stmt) (g : Rho → Option Out) : Prop := PSs X st (tDS X.K g)
/-- weaken a reading -/
theorem PE.imp {X : Cx} {e : Expr} {t u : TE} (h : PE X e t) (k : ∀ σ H Q, u σ H Q → t σ H Q) : PE X e u := fun pins s σ H Q I q => h pins s σ H Q I (k σ H Q q)
theorem PT.imp {X : Cx} {e : Expr} {t u : TT} (h : PT X e t) (k : ∀ σ H Q, u σ H Q → t σ H Q) : PT X e u := fun pins s σ H Q I q => h pins s σ H Q I (k σ H Q q)
theorem PA.imp {X : Cx} {e : List Expr} {t u : TA} (h : PA X e t) (k : ∀ σ H Q, u σ H Q → t σ H Q) : PA X e u := fun p pins s σ H Q I q => h p pins s σ H Q I (k σ H Q q)
theorem PS.imp {X : Cx} {e : Stmt} {t u : TS} (h : PS X e t) (k : ∀ D σ H, u D σ H → t D σ H) : PS X e u := fun pins s σ H D I q => h pins s σ H D I (k D σ H q)
theorem PSs.imp {X : Cx} {e : List Stmt} {t u : TS} (h : PSs X e t) (k : ∀ D σ H, u D σ H → t D σ H) : PSs X e u := fun pins s σ H D I q => h pins s σ H D I (k D σ H q)
theorem OpR.imp {X : Cx} {f : Value → Value → Sem Value} {r r' : R2} (h : OpR X f r) (k : ∀ x y H Q, r' x y H Q → r x y H Q) : OpR X f r' := fun pins s σ H x y v u Q I rx ry q => h pins s σ H x y v u Q I rx ry (k _ _ _ _ q)
theorem IxR.imp {X : Cx} {r r' : R2} (h : IxR X r) (k : ∀ x y H Q, r' x y H Q → r x y H Q) : IxR X r' := fun a b pins s σ H x y v u Q I rx ry q e => h a b pins s σ H x y v u Q I rx ry (k _ _ _ _ q) e
theorem CallR.imp {X : Cx} {f : Value} {r r' : List V → Hp → VK → Prop} (h : CallR X f r) (k : ∀ xs H Q, r' xs H Q → r xs H Q) : CallR X f r' := fun pins s σ H xs us Q I rs q => h pins s σ H xs us Q I rs (k _ _ _ q)
end L2

end
section
set_option Elab.async false
set_option linter.all false
set_option maxRecDepth 100000
set_option maxHeartbeats 1000000
namespace L2
open PySem PySem.Spec PyProof.Rows

section
variable {X : Cx} {a b c e : Expr} {es : List Expr} {fa fb fc f : Rho → Option PyData} {pos : Pos}

/-! ### names, constants -/
def dVar (i : Nat) : Rho → Option PyData := fun ρ => (ρ[i]?).join
theorem pd_var (i : Nat) {x : Str} (hN : X.N[i]? = some x := by rfl) (hv : Vis X.env.scope x := by first | exact Or.inl rfl | exact Or.inr (Or.inl rfl) | exact Or.inr (Or.inr rfl)) (hd : (x == ("__debug__" : Str)) = false := by decide)
    (hcd : (x == ("__classdict__" : Str)) = false := by decide) : PD X (.Name x pos) (dVar i) := by
  refine PE.imp (pe_var hN hv hd hcd) fun σ H Q ⟨ρ, d, hs, e, k⟩ => ?_
  have e' : ρ[i]? = some (some d) := by
    unfold dVar at e
    cases q : ρ[i]? with
    | none => rw [q] at e; cases e
    | some o => rw [q] at e; cases o with
      | none => cases e
      | some d' => cases e; rfl
  obtain ⟨v, e1, e2⟩ := hs.2 i d e'
  exact ⟨v, e1, k.here e2⟩
def dC (d : PyData) : Rho → Option PyData := fun _ => some d
theorem pd_int {i j} : PD X (.Constant (.int i) j pos) (dC (.int i)) := PE.imp pe_int fun σ H Q ⟨_, d, _, e, k⟩ => by cases e; exact k.here (IsD.int_iff.mpr rfl)
theorem pd_bl {i j} : PD X (.Constant (.bool i) j pos) (dC (.bool i)) := PE.imp pe_bl fun σ H Q ⟨_, d, _, e, k⟩ => by cases e; exact k.here (IsD.bool_iff.mpr rfl)
theorem pd_non {j} : PD X (.Constant .none j pos) (dC .none) := PE.imp pe_non fun σ H Q ⟨_, d, _, e, k⟩ => by cases e; exact k.here (IsD.none_iff.mpr rfl)
theorem pd_str {x j} : PD X (.Constant (.str x) j pos) (dC (.str x)) := PE.imp pe_str fun σ H Q ⟨_, d, _, e, k⟩ => by cases e; exact k.here (IsD.str_iff.mpr rfl)

/-! ### two-place operations -/
def rD2 (K : PySem.W.Frag) (g : PyData → PyData → Option PyData) : R2 := fun x y H Q => ∃ a b c, IsD K H a x ∧ IsD K H b y ∧ g a b = some c ∧ KD K H c Q
def OpD (X : Cx) (f : Value → Value → Sem Value) (g : PyData → PyData → Option PyData) : Prop := OpR X f (rD2 X.K g)
def d2 (g : PyData → PyData → Option PyData) (fa fb : Rho → Option PyData) : Rho → Option PyData := fun ρ => (fa ρ).bind fun x => (fb ρ).bind fun y => g x y
theorem bind_some {α β : Type} {o : Option α} {k : α → Option β} {b : β} (h : o.bind k = some b) : ∃ a, o = some a ∧ k a = some b := by
  cases o with
  | none => cases h
  | some a => exact ⟨a, rfl, h⟩
theorem tD2 {K : PySem.W.Frag} {g : PyData → PyData → Option PyData} {σ : St} {H : Hp} {Q : VK} (h : tD K (d2 g fa fb) σ H Q) : tOp (rD2 K g) (tD K fa) (tD K fb) σ H Q := by
  obtain ⟨ρ, d, hs, e, k⟩ := h
  obtain ⟨x, ex, e⟩ := bind_some e
  obtain ⟨y, ey, e⟩ := bind_some e
  exact ⟨ρ, x, hs, ex, fun v H1 s1 i1 => ⟨ρ, y, hs.same s1, ey, fun u H2 s2 i2 => ⟨x, y, d, i1.same s2, i2, e, k.later (s1.trans s2)⟩⟩⟩
theorem pd_op {op : Operator} {g : PyData → PyData → Option PyData} (ho : OpD X (binaryOp op) g) (ha : PD X a fa) (hb : PD X b fb) : PD X (.BinOp a op b pos) (d2 g fa fb) :=
  PE.imp (pe_op ho ha hb) fun _ _ _ h => tD2 h
theorem pd_cmp {op : CmpOp} {g : PyData → PyData → Option PyData} (ho : OpD X (compareOp op) g) (ha : PD X a fa) (hb : PD X b fb) (hm : behindInMarks op b = false) : PD X (.Compare a [op] [b] pos) (d2 g fa fb) :=
  PE.imp (pe_cmpR ho ha hb hm) fun _ _ _ h => tD2 h
def PlainIxE (b : Expr) : Prop := PlainIx b
def IxD (X : Cx) (g : PyData → PyData → Option PyData) : Prop := IxR X (rD2 X.K g)
theorem pd_ix {g : PyData → PyData → Option PyData} (hr : IxD X g) (ha : PD X a fa) (hb : PD X b fb) (hs : PlainIx b) : PD X (.Subscript a b pos) (d2 g fa fb) :=
  PE.imp (pe_ix hr ha hb hs) fun _ _ _ h => tD2 h

/-! ### ints -/
def dI (C : Int → Int → Bool) (g : Int → Int → PyData) : PyData → PyData → Option PyData
  | .int i, .int j => if C i j then some (g i j) else none
  | _, _ => none
theorem dI_some {C : Int → Int → Bool} {g : Int → Int → PyData} {x y d : PyData} (h : dI C g x y = some d) : ∃ i j, x = .int i ∧ y = .int j ∧ C i j = true ∧ d = g i j := by
  cases x <;> cases y <;> try (simp [dI] at h; done)
  rename_i i j
  dsimp only [dI] at h
  by_cases hc : C i j = true
  · rw [if_pos hc] at h; cases h; exact ⟨i, j, rfl, rfl, hc, rfl⟩
  · rw [if_neg hc] at h; cases h
theorem opD_I {f : Value → Value → Sem Value} {P : Int → Int → Prop} {C : Int → Int → Bool} {g : Int → Int → Int} (h : OpR X f (rI P fun i j => .int (g i j))) (hc : ∀ i j, C i j = true → P i j) : OpD X f (dI C fun i j => .int (g i j)) :=
  OpR.imp h fun x y H Q ⟨a, b, d, ia, ib, e, k⟩ => by
    obtain ⟨i, j, rfl, rfl, c, rfl⟩ := dI_some e
    exact ⟨i, j, IsD.int_iff.mp ia, IsD.int_iff.mp ib, hc i j c, k.here (IsD.int_iff.mpr rfl)⟩
theorem opD_I0 {f : Value → Value → Sem Value} {g : Int → Int → Int} (h : OpR X f (rI0 fun i j => .int (g i j))) : OpD X f (dI (fun _ _ => true) fun i j => .int (g i j)) :=
  OpR.imp h fun x y H Q ⟨a, b, d, ia, ib, e, k⟩ => by
    obtain ⟨i, j, rfl, rfl, c, rfl⟩ := dI_some e
    exact ⟨i, j, IsD.int_iff.mp ia, IsD.int_iff.mp ib, k.here (IsD.int_iff.mpr rfl)⟩
theorem opD_B0 {f : Value → Value → Sem Value} {g : Int → Int → Bool} (h : OpR X f (rI0 fun i j => .bl (g i j))) : OpD X f (dI (fun _ _ => true) fun i j => .bool (g i j)) :=
  OpR.imp h fun x y H Q ⟨a, b, d, ia, ib, e, k⟩ => by
    obtain ⟨i, j, rfl, rfl, c, rfl⟩ := dI_some e
    exact ⟨i, j, IsD.int_iff.mp ia, IsD.int_iff.mp ib, k.here (IsD.bool_iff.mpr rfl)⟩
/-- a product of ints of at most 2 ^ 20 bits -/
def okBits (i : Int) : Bool := decide (Builtin.Int.intBits i ≤ 2 ^ 20)
theorem op_mulB : OpR X (binaryOp .Mult) (rI (fun i j => okBits i = true ∧ okBits j = true) fun i j => .int (i * j)) := opI fun _ _ _ _ _ _ _ hc q => mul_int q (.of_bits (of_decide_eq_true hc.1) (of_decide_eq_true hc.2))
def dSub := dI (fun _ _ => true) fun i j => .int (i - j)
def dMul := dI (fun i j => okBits i && okBits j) fun i j => .int (i * j)
def dDiv := dI (fun _ j => decide (0 < j) && decide (j < 1073741824)) fun i j => .int (i / j)
def dMod := dI (fun _ j => decide (0 < j)) fun i j => .int (i % j)
def dPow := dI (fun i j => decide (0 ≤ j) && decide (j ≤ 1000000) && decide (i.natAbs < 2 ^ 64)) fun i j => .int (i ^ j.toNat)
theorem od_sub : OpD X (binaryOp .Sub) dSub := opD_I0 op_sub
theorem od_mul : OpD X (binaryOp .Mult) dMul := opD_I op_mulB fun i j h => by simpa using h
theorem od_div : OpD X (binaryOp .FloorDiv) dDiv := opD_I op_fdiv fun i j h => by simpa [CDiv] using h
theorem od_mod : OpD X (binaryOp .Mod) dMod := opD_I op_mod fun i j h => by simpa using h
theorem od_pow : OpD X (binaryOp .Pow) dPow := opD_I op_pow fun i j h => by
  simp only [Bool.and_eq_true, decide_eq_true_eq] at h
  exact ⟨h.1.1, h.1.2, h.2⟩
def dLt := dI (fun _ _ => true) fun i j => .bool (decide (i < j))
def dLe := dI (fun _ _ => true) fun i j => .bool (decide (i ≤ j))
def dGt := dI (fun _ _ => true) fun i j => .bool (decide (j < i))
def dGe := dI (fun _ _ => true) fun i j => .bool (decide (j ≤ i))
theorem od_lt : OpD X (compareOp .Lt) dLt := opD_B0 op_lt
theorem od_le : OpD X (compareOp .LtE) dLe := opD_B0 op_le
theorem od_gt : OpD X (compareOp .Gt) dGt := opD_B0 op_gt
theorem od_ge : OpD X (compareOp .GtE) dGe := opD_B0 op_ge

/-! ### + of ints, texts, lists, tuples -/
/-- list + list, any that are read -/
def rCatL (K : PySem.W.Frag) : R2 := fun x y H Q => ∃ l b xs zs, x = .ref l ∧ y = .ref b ∧ SqL K H l xs ∧ SqL K H b zs ∧ xs.length + zs.length ≤ sizeLine ∧ ∀ p, H p = none → Q (.ref p) (upd H p (.lst (xs ++ zs)))
theorem op_catL : OpR X (binaryOp .Add) (rCatL X.K) := by
  intro pins s σ H x y v u Q I rx ry h
  obtain ⟨l, b, xs, zs, rfl, rfl, hl, hb, hz, q⟩ := h
  cases rx
  cases ry
  obtain ⟨its, r, pl, _⟩ := I.list hl
  obtain ⟨its2, r2, pl2, _⟩ := I.list hb
  have e1 := r.length
  have e2 := r2.length
  obtain ⟨⟨cls, dd, data, sl⟩, n, ho, hc, _, hd⟩ := pl
  obtain ⟨⟨cls2, dd2, data2, sl2⟩, n2, ho2, hc2, _, hd2⟩ := pl2
  simp only at hc hd hc2 hd2
  subst hc hd hc2 hd2
  have e : its.toArray ++ its2.toArray = (its ++ its2).toArray := by simp
  refine concat_meets ⟨_, ho, rfl⟩ ⟨_, ho2, rfl⟩ noFill_list_add seq_list_add PySem.F.slot_list_add PySem.F.entry_list_add (PySem.F.args_list_add_2 _ _) (list_addW l b its.toArray its2.toArray n n2 dd dd2 sl sl2 (by simp; omega)) ⟨ho, ho2, ?_⟩
  rw [e]
  exact ⟨.ref _, _, I.lnew (t' := s.toks) (r.append r2) (by rw [List.length_append]; omega), rfl, q _ I.fresh⟩
/-- () + u is u itself -/
theorem op_cat0 : OpR X (binaryOp .Add) (fun x y H Q => ∃ l b zs, x = .ref l ∧ y = .ref b ∧ SqT X.K H l [] ∧ SqT X.K H b zs ∧ Q (.ref b) H) := by
  intro pins s σ H x y v u Q I rx ry h
  obtain ⟨l, b, zs, rfl, rfl, hl, hb, q⟩ := h
  cases rx
  cases ry
  obtain ⟨its, r, pl, _⟩ := I.tuple hl
  obtain ⟨its2, r2, pl2, _⟩ := I.tuple hb
  have e1 := r.length
  obtain ⟨⟨cls, dd, data, sl⟩, ho, hc, n, hd⟩ := pl
  obtain ⟨⟨cls2, dd2, data2, sl2⟩, ho2, hc2, n2, hd2⟩ := pl2
  simp only at hc hd hc2 hd2
  subst hc hd hc2 hd2
  have e0 : its = [] := by cases its with
    | nil => rfl
    | cons a r => simp at e1
  subst e0
  exact concat_meets ⟨_, ho, rfl⟩ ⟨_, ho2, rfl⟩ noFill_tuple_add seq_tuple_add PySem.F.slot_tuple_add PySem.F.entry_tuple_add (PySem.F.args_tuple_add_2 _ _) (tuple_addW0 l b #[] its2.toArray n n2 dd dd2 sl sl2 rfl) ⟨ho, ho2, ⟨.ref b, H, I, rfl, q⟩⟩
theorem same_upd {H : Hp} {p : Addr} {o : HO} (h : H p = none) : Same H (upd H p o) := fun b u e => by rw [upd_ne (ne_of_none e h)]; exact e
theorem isD_newL {K : PySem.W.Frag} {H : Hp} {p : Addr} {vs : List V} {ds : List PyData} (h : H p = none) (e : IsDs K H ds vs) : IsD K (upd H p (.lst vs)) (.list ds) (.ref p) :=
  IsD.list_iff.mpr ⟨p, vs, rfl, SqL.of upd_same, e.same (same_upd h)⟩
theorem isD_newT {K : PySem.W.Frag} {H : Hp} {p : Addr} {vs : List V} {ds : List PyData} (h : H p = none) (e : IsDs K H ds vs) : IsD K (upd H p (.tup vs)) (.tuple ds) (.ref p) :=
  IsD.tuple_iff'.mpr ⟨p, vs, rfl, upd_same, e.same (same_upd h)⟩
theorem KD.newL {K : PySem.W.Frag} {H : Hp} {vs : List V} {ds : List PyData} {Q : VK} (k : KD K H (.list ds) Q) (e : IsDs K H ds vs) : ∀ p, H p = none → Q (.ref p) (upd H p (.lst vs)) := fun p h => k _ _ (same_upd h) (isD_newL h e)
theorem KD.newT {K : PySem.W.Frag} {H : Hp} {vs : List V} {ds : List PyData} {Q : VK} (k : KD K H (.tuple ds) Q) (e : IsDs K H ds vs) : ∀ p, H p = none → Q (.ref p) (upd H p (.tup vs)) := fun p h => k _ _ (same_upd h) (isD_newT h e)
def dAdd : PyData → PyData → Option PyData
  | .int i, .int j => some (.int (i + j))
  | .str x, .str y => if x.length + y.length ≤ sizeLine then some (.str (x ++ y)) else none
  | .list xs, .list ys => if xs.length + ys.length ≤ sizeLine then some (.list (xs ++ ys)) else none
  | .tuple xs, .tuple ys => if xs.length + ys.length ≤ sizeLine then some (.tuple (xs ++ ys)) else none
  | _, _ => none
theorem od_add : OpD X (binaryOp .Add) dAdd := by
  refine OpR.imp (op_add.or (op_add_str.or (op_catL.or (op_catT.or op_cat0)))) fun x y H Q ⟨a, b, d, ia, ib, e, k⟩ => ?_
  cases a <;> cases b <;> try (simp [dAdd] at e; done)
  · rename_i i j
    cases e
    exact .inl ⟨i, j, IsD.int_iff.mp ia, IsD.int_iff.mp ib, k.here (IsD.int_iff.mpr rfl)⟩
  · rename_i i j
    dsimp only [dAdd] at e
    by_cases hz : i.length + j.length ≤ sizeLine
    · rw [if_pos hz] at e
      cases e
      exact .inr (.inl ⟨i, j, IsD.str_iff.mp ia, IsD.str_iff.mp ib, hz, k.here (IsD.str_iff.mpr rfl)⟩)
    · rw [if_neg hz] at e; cases e
  · rename_i i j
    dsimp only [dAdd] at e
    by_cases hz : i.length + j.length ≤ sizeLine
    · rw [if_pos hz] at e
      cases e
      obtain ⟨p, vs, rfl, e2, e3⟩ := IsD.list_iff.mp ia
      obtain ⟨q, ws, rfl, f2, f3⟩ := IsD.list_iff.mp ib
      exact .inr (.inr (.inl ⟨p, q, vs, ws, rfl, rfl, e2, f2, by rw [← e3.length, ← f3.length]; exact hz, k.newL (e3.append f3)⟩))
    · rw [if_neg hz] at e; cases e
  · rename_i i j
    dsimp only [dAdd] at e
    by_cases hz : i.length + j.length ≤ sizeLine
    · rw [if_pos hz] at e
      cases e
      obtain ⟨p, vs, rfl, e2, e3⟩ := ia.tuple_of
      obtain ⟨q, ws, rfl, f2, f3⟩ := ib.tuple_of
      cases i with
      | nil =>
        rw [IsDs.nil_iff.mp e3] at e2
        exact .inr (.inr (.inr (.inr ⟨p, q, ws, rfl, rfl, e2, f2, k.here ib⟩)))
      | cons i0 ir =>
        refine .inr (.inr (.inr (.inl ⟨p, q, vs, ws, rfl, rfl, e2, f2, ?_, by rw [← e3.length, ← f3.length]; exact hz, fun z => ?_, fun z => k.newT (e3.append f3)⟩)))
        · intro z; subst z; have := e3.length; simp at this
        · subst z
          have : j = [] := by have := f3.length; cases j with
            | nil => rfl
            | cons _ _ => simp at this
          subst this
          rw [List.append_nil] at k
          exact k.here ia
    · rw [if_neg hz] at e; cases e

/-! ### ==, != of any data -/
def dEq : PyData → PyData → Option PyData := fun a b => if SeqAt.shaped a = true ∧ SeqAt.shaped b = true then some (.bool (PyData.eqv a b)) else none
def dNe : PyData → PyData → Option PyData := fun a b => if SeqAt.shaped a = true ∧ SeqAt.shaped b = true then some (.bool (!PyData.eqv a b)) else none
theorem od_eq (hu : X.A.units + 64 < cLine) : OpD X (compareOp .Eq) dEq := by
  intro pins s σ H x y v u Q I rx ry ⟨a, b, d, ia, ib, e, k⟩
  unfold dEq at e
  by_cases hc : SeqAt.shaped a = true ∧ SeqAt.shaped b = true
  · rw [if_pos hc] at e
    cases e
    obtain ⟨as, ra⟩ := I.readsD (SeqAt.canLay_of_shaped hc.1) ia rx
    obtain ⟨bs, rb⟩ := I.readsD (SeqAt.canLay_of_shaped hc.2) ib ry
    exact eq_dataH ra rb hc.1 hc.2 hu ⟨.bl _, H, I, rfl, k.here (IsD.bool_iff.mpr rfl)⟩
  · rw [if_neg hc] at e; cases e
theorem od_ne (hu : X.A.units + 64 < cLine) : OpD X (compareOp .NotEq) dNe := by
  intro pins s σ H x y v u Q I rx ry ⟨a, b, d, ia, ib, e, k⟩
  unfold dNe at e
  by_cases hc : SeqAt.shaped a = true ∧ SeqAt.shaped b = true
  · rw [if_pos hc] at e
    cases e
    obtain ⟨as, ra⟩ := I.readsD (SeqAt.canLay_of_shaped hc.1) ia rx
    obtain ⟨bs, rb⟩ := I.readsD (SeqAt.canLay_of_shaped hc.2) ib ry
    exact ne_dataH ra rb hc.1 hc.2 hu ⟨.bl _, H, I, rfl, k.here (IsD.bool_iff.mpr rfl)⟩
  · rw [if_neg hc] at e; cases e

/-! ### an item -/
def dIx : PyData → PyData → Option PyData
  | .list xs, .int i => atI xs i
  | .tuple xs, .int i => atI xs i
  | .str z, .int i => if z.length ≤ sizeLine then (atI z.cps.toList i).map fun c => .str ⟨#[c]⟩ else none
  | _, _ => none
theorem atI_D {K : PySem.W.Frag} {H : Hp} {ds : List PyData} {vs : List V} {i : Int} {d : PyData} (h : IsDs K H ds vs) (e : atI ds i = some d) : ∃ v, atI vs i = some v ∧ IsD K H d v := by
  unfold atI at e ⊢
  rw [← h.length]
  cases q : ixN ds.length i with
  | none => rw [q] at e; cases e
  | some j =>
    rw [q] at e
    exact h.get e
theorem ixD : IxD X dIx := by
  refine IxR.imp ix_seq fun x y H Q ⟨a, b, d, ia, ib, e, k⟩ => ?_
  cases a <;> cases b <;> try (simp [dIx] at e; done)
  · rename_i z i
    dsimp only [dIx] at e
    by_cases hz : z.length ≤ sizeLine
    · rw [if_pos hz] at e
      obtain ⟨c, e1, e2⟩ := Option.map_eq_some_iff.mp e
      subst e2
      exact .inr (.inr ⟨z, i, c, IsD.str_iff.mp ia, IsD.int_iff.mp ib, hz, e1, k.here (IsD.str_iff.mpr rfl)⟩)
    · rw [if_neg hz] at e; cases e
  · rename_i xs i
    obtain ⟨p, vs, rfl, e2, e3⟩ := IsD.list_iff.mp ia
    obtain ⟨v, e4, e5⟩ := atI_D e3 e
    exact .inl ⟨p, vs, i, v, rfl, IsD.int_iff.mp ib, e2, e4, k.here e5⟩
  · rename_i xs i
    obtain ⟨p, vs, rfl, e2, e3⟩ := ia.tuple_of
    obtain ⟨v, e4, e5⟩ := atI_D e3 e
    exact .inr (.inl ⟨p, vs, i, v, rfl, IsD.int_iff.mp ib, e2, e4, k.here e5⟩)

/-! ### truth, tests -/
def dTruth : PyData → Option Bool
  | .none => some false
  | .bool b => some b
  | .int i => some (i != 0)
  | .str y => if y.length ≤ sizeLine then some ((y.length : Int) != 0) else none
  | .list xs => some (!xs.isEmpty)
  | .tuple xs => some (!xs.isEmpty)
  | .dict _ => none
theorem isDs_empty {K : PySem.W.Frag} {H : Hp} {ds : List PyData} {vs : List V} (h : IsDs K H ds vs) : ds.isEmpty = vs.isEmpty := by
  have := h.length
  cases ds <;> cases vs <;> first | rfl | (simp at this)
theorem truV_D {K : PySem.W.Frag} {H : Hp} {d : PyData} {v : V} {k : Bool} (h : IsD K H d v) (e : dTruth d = some k) : TruV K v H k := by
  cases d with
  | none => rw [IsD.none_iff.mp h]; cases e; rfl
  | bool b => rw [IsD.bool_iff.mp h]; cases e; rfl
  | int i => rw [IsD.int_iff.mp h]; cases e; rfl
  | str y =>
    rw [IsD.str_iff.mp h]
    dsimp only [dTruth] at e
    by_cases hz : y.length ≤ sizeLine
    · rw [if_pos hz] at e; cases e; exact ⟨hz, rfl⟩
    · rw [if_neg hz] at e; cases e
  | list xs =>
    obtain ⟨p, vs, rfl, e2, e3⟩ := IsD.list_iff.mp h
    cases e
    exact .inl ⟨vs, e2, by rw [isDs_empty e3]⟩
  | tuple xs =>
    obtain ⟨p, vs, rfl, e2, e3⟩ := h.tuple_of
    cases e
    exact .inr (.inl ⟨vs, e2, by rw [isDs_empty e3]⟩)
  | dict _ => cases e
def fT (f : Rho → Option PyData) : Rho → Option Bool := fun ρ => (f ρ).bind dTruth
theorem pdt_val (h : PD X e f) (he : ∀ whole, isTrue e X.env whole = (do let v ← whole; standAt e.pos; holding [v] (truthy v)) := by intro _; rfl) : PDT X e (fT f) :=
  PT.imp (pt_truth h he) fun σ H Q ⟨ρ, b, hs, e, k⟩ => by
    obtain ⟨d, e1, e2⟩ := bind_some e
    exact ⟨ρ, d, hs, e1, fun v H1 s1 i1 => ⟨b, truV_D i1 e2, k H1 s1⟩⟩
def fB (f : Rho → Option PyData) : Rho → Option Bool := fun ρ => (f ρ).bind fun d => match d with | .bool b => some b | _ => none
theorem fB_some {ρ : Rho} {b : Bool} (h : fB f ρ = some b) : f ρ = some (.bool b) := by
  obtain ⟨d, e1, e2⟩ := bind_some h
  cases d <;> first | (cases e2; exact e1) | cases e2
theorem pdt_cmp {op : CmpOp} {g : PyData → PyData → Option PyData} (ho : OpD X (compareOp op) g) (ha : PD X a fa) (hb : PD X b fb) (hm : behindInMarks op b = false) : PDT X (.Compare a [op] [b] pos) (fB (d2 g fa fb)) :=
  PT.imp (pt_cmpR ho ha hb hm) fun σ H Q ⟨ρ, b, hs, e, k⟩ =>
    tD2 ⟨ρ, .bool b, hs, fB_some e, fun v H1 s1 i1 => ⟨b, IsD.bool_iff.mp i1, k H1 s1⟩⟩
def fAnd (f g : Rho → Option Bool) : Rho → Option Bool := fun ρ => (f ρ).bind fun x => if x then g ρ else some false
def fOr (f g : Rho → Option Bool) : Rho → Option Bool := fun ρ => (f ρ).bind fun x => if x then some true else g ρ
def fNot (f : Rho → Option Bool) : Rho → Option Bool := fun ρ => (f ρ).map (!·)
variable {ga gb gc : Rho → Option Bool} {rest : List Expr}
def PDW (X : Cx) (e : Expr) (f : Rho → Option Bool) : Prop := PW X e (tDT X.K f)
theorem PW.imp {t u : TT} (h : PW X e t) (k : ∀ σ H Q, u σ H Q → t σ H Q) : PW X e u := fun wh pins s σ H Q I q => h wh pins s σ H Q I (k σ H Q q)
theorem pdw_and1 (h : PDT X a ga) : PDW X (.BoolOp .And [a] pos) ga := pw_and1 h
theorem pdw_or1 (h : PDT X a ga) : PDW X (.BoolOp .Or [a] pos) ga := pw_or1 h
theorem pdw_and (ha : PDT X a ga) (hb : PDW X (.BoolOp .And (b :: rest) pos) gb) : PDW X (.BoolOp .And (a :: b :: rest) pos) (fAnd ga gb) :=
  PW.imp (pw_and ha hb) fun σ H Q ⟨ρ, x, hs, e, k⟩ => by
    obtain ⟨y, e1, e2⟩ := bind_some e
    refine ⟨ρ, y, hs, e1, fun H1 s1 => ?_⟩
    cases y with
    | true => rw [if_pos rfl]; exact ⟨ρ, x, hs.same s1, e2, fun H2 s2 => k H2 (s1.trans s2)⟩
    | false => rw [if_neg Bool.false_ne_true]; cases e2; exact k H1 s1
theorem pdw_or (ha : PDT X a ga) (hb : PDW X (.BoolOp .Or (b :: rest) pos) gb) : PDW X (.BoolOp .Or (a :: b :: rest) pos) (fOr ga gb) :=
  PW.imp (pw_or ha hb) fun σ H Q ⟨ρ, x, hs, e, k⟩ => by
    obtain ⟨y, e1, e2⟩ := bind_some e
    refine ⟨ρ, y, hs, e1, fun H1 s1 => ?_⟩
    cases y with
    | false => rw [if_neg Bool.false_ne_true]; exact ⟨ρ, x, hs.same s1, e2, fun H2 s2 => k H2 (s1.trans s2)⟩
    | true => rw [if_pos rfl]; cases e2; exact k H1 s1
theorem pdt_w (h : PDW X e ga) : PDT X e ga := h.pt
theorem pdt_not (ha : PDT X a ga) : PDT X (.UnaryOp .Not a pos) (fNot ga) :=
  PT.imp (pt_not ha) fun σ H Q ⟨ρ, x, hs, e, k⟩ => by
    obtain ⟨y, e1, e2⟩ := Option.map_eq_some_iff.mp e
    exact ⟨ρ, y, hs, e1, fun H1 s1 => by show Q (!y) H1; rw [e2]; exact k H1 s1⟩
def dIf (g : Rho → Option Bool) (fa fb : Rho → Option PyData) : Rho → Option PyData := fun ρ => (g ρ).bind fun x => if x then fa ρ else fb ρ
theorem pd_if (hc : PDT X c gc) (ha : PD X a fa) (hb : PD X b fb) : PD X (.IfExp c a b pos) (dIf gc fa fb) :=
  PE.imp (pe_ifExp hc ha hb) fun σ H Q ⟨ρ, d, hs, e, k⟩ => by
    obtain ⟨y, e1, e2⟩ := bind_some e
    refine ⟨ρ, y, hs, e1, fun H1 s1 => ?_⟩
    cases y with
    | true => rw [if_pos rfl]; exact ⟨ρ, d, hs.same s1, e2, k.later s1⟩
    | false => rw [if_neg Bool.false_ne_true]; exact ⟨ρ, d, hs.same s1, e2, k.later s1⟩
/-- not, and, or as values: bools -/
def dOfT (g : Rho → Option Bool) : Rho → Option PyData := fun ρ => (g ρ).map .bool

/-! ### argument lists, displays -/
variable {ff : Rho → Option (List PyData)}
def aNil : Rho → Option (List PyData) := fun _ => some []
def aCons (f : Rho → Option PyData) (g : Rho → Option (List PyData)) : Rho → Option (List PyData) := fun ρ => (f ρ).bind fun x => (g ρ).bind fun xs => some (x :: xs)
theorem pda_nil : PDA X [] aNil := PA.imp pa_nil fun σ H Q ⟨ρ, ds, hs, e, k⟩ => by cases e; exact k [] H (.refl H) IsDs.nil
theorem pda_cons (ha : PD X e f) (hr : PDA X es ff) (hs : starEach (e :: es) X.env = (false, eval e X.env) :: starEach es X.env := by rfl) : PDA X (e :: es) (aCons f ff) :=
  PA.imp (pa_cons ha hr hs) fun σ H Q ⟨ρ, ds, hs, e, k⟩ => by
    obtain ⟨x, e1, e⟩ := bind_some e
    obtain ⟨xs, e2, e⟩ := bind_some e
    cases e
    exact ⟨ρ, x, hs, e1, fun v H1 s1 i1 => ⟨ρ, xs, hs.same s1, e2, fun vs H2 s2 i2 => k _ H2 (s1.trans s2) (IsDs.cons (i1.same s2) i2)⟩⟩
def dTup (ff : Rho → Option (List PyData)) : Rho → Option PyData := fun ρ => (ff ρ).bind fun xs => if xs.length ≤ sizeLine then some (.tuple xs) else none
def dLst (ff : Rho → Option (List PyData)) : Rho → Option PyData := fun ρ => (ff ρ).bind fun xs => if xs.length ≤ sizeLine then some (.list xs) else none
theorem pd_tup {x1} (h : PDA X es ff) : PD X (.Tuple es x1 pos) (dTup ff) :=
  PE.imp (pe_tup h) fun σ H Q ⟨ρ, d, hs, e, k⟩ => by
    obtain ⟨xs, e1, e⟩ := bind_some e
    by_cases hz : xs.length ≤ sizeLine
    · rw [if_pos hz] at e
      cases e
      exact ⟨ρ, xs, hs, e1, fun vs H1 s1 i1 => ⟨by rw [← i1.length]; exact hz, (k.later s1).newT i1⟩⟩
    · rw [if_neg hz] at e; cases e
theorem pd_lst (h : PDA X es ff) : PD X (.List es pos) (dLst ff) :=
  PE.imp (pe_lst h) fun σ H Q ⟨ρ, d, hs, e, k⟩ => by
    obtain ⟨xs, e1, e⟩ := bind_some e
    by_cases hz : xs.length ≤ sizeLine
    · rw [if_pos hz] at e
      cases e
      exact ⟨ρ, xs, hs, e1, fun vs H1 s1 i1 => ⟨by rw [← i1.length]; exact hz, (k.later s1).newL i1⟩⟩
    · rw [if_neg hz] at e; cases e

/-! ### a[lo:hi] -/
abbrev FO := Rho → Option (Option Int)
def tDO (K : PySem.W.Frag) (g : FO) : TO := fun σ H Q => ∃ ρ o, HasD K H σ ρ ∧ g ρ = some o ∧ ∀ H', Same H H' → Q o H'
def PDO (X : Cx) (e : Option Expr) (g : FO) : Prop := PO X e (tDO X.K g)
theorem PO.imp {e : Option Expr} {t u : TO} (h : PO X e t) (k : ∀ σ H Q, u σ H Q → t σ H Q) : PO X e u := fun pins s σ H Q I q => h pins s σ H Q I (k σ H Q q)
def oNone : FO := fun _ => some none
def oSome (f : Rho → Option PyData) : FO := fun ρ => (f ρ).bind fun d => match d with | .int i => some (some i) | _ => none
theorem pdo_none : PDO X none oNone := PO.imp po_none fun σ H Q ⟨ρ, o, hs, e, k⟩ => by cases e; exact k H (.refl H)
theorem pdo_some (h : PD X e f) : PDO X (some e) (oSome f) := PO.imp (po_some h) fun σ H Q ⟨ρ, o, hs, e, k⟩ => by
  obtain ⟨d, e1, e2⟩ := bind_some e
  cases d <;> first
    | (cases e2; exact ⟨ρ, _, hs, e1, fun v H1 s1 i1 => ⟨_, IsD.int_iff.mp i1, k H1 s1⟩⟩)
    | cases e2
def cutL {α : Type} (xs : List α) (lo hi : Option Int) : List α := (xs.drop (HT.sIx xs.length 0 lo)).take (HT.sIx xs.length xs.length hi - HT.sIx xs.length 0 lo)
theorem IsDs.cut {K : PySem.W.Frag} {H : Hp} {ds : List PyData} {vs : List V} (h : IsDs K H ds vs) (lo hi : Option Int) : IsDs K H (cutL ds lo hi) (cutV vs lo hi) := by
  unfold cutL cutV
  rw [← h.length]
  exact (h.drop _).take _
/-- t[:] and the like: the tuple itself -/
def rSlT0 (K : PySem.W.Frag) : V → Option Int → Option Int → Hp → VK → Prop := fun x lo hi H Q => ∃ a xs, x = .ref a ∧ SqT K H a xs ∧ (HT.sIx xs.length 0 lo = 0 ∧ HT.sIx xs.length xs.length hi = xs.length) ∧ Q (.ref a) H
end
end L2

end
section
set_option Elab.async false
set_option linter.all false
set_option maxRecDepth 100000
set_option maxHeartbeats 1000000
namespace HT
open PySem PyProof.Rows
section
variable {prog : Program} {w : World} {A : Around} {E : Value → Shared → Prop} {s : Shared}
/-- t[lo:hi], the whole of it: t itself -/
theorem getItem_tuple_whole {t sl : Addr} {items : Array Value} {vl vu : Value} {lo hi : Option Int} {Q : Value → Shared → Prop} (ht : IsTup s.heap t items) (hs : s.heap.IsSliceOf sl vl vu .none) (pl : IsPart vl lo) (pu : IsPart vu hi)
    (hw : sIx items.size 0 lo = 0 ∧ sIx items.size items.size hi = items.size) (h : Q (.ref t) s) : wpAny (model prog w) A (getItem (.ref t) (.ref sl)) Q E s := by
  obtain ⟨os, hos, hcs, hds⟩ := id hs
  have hTs : s.TypeIs (.ref sl) "slice" := ⟨os, hos, hcs⟩
  unfold getItem
  try with_reducible refine wpAny_holding ?_
  first | refine wpAny_bind (wpAny_pure ?_) | skip
  refine wpAny_bind (wpAny_sequenceKey ht.typeIs (by decide) ?_)
  refine wpAny_bind (wpAny_callSpecial?_slot (name := Str.ofString "__getitem__") ht.typeIs PyProof.Rows.slot_tuple_getitem
    (wpAny_call_entry PyProof.Rows.slot_tuple_getitem ht.typeIs entry_tuple_getitem ?_ (args_tuple_getitem _ _)))
  show wpAny _ _ (Builtin.Tuple.tupleItemsOf (.ref t) >>= _) _ _ s
  refine wpAny_bind (tupleItemsOf_ ht ?_)
  refine wpAny_bind (wpAny_typeOf hTs ?_)
  rw [if_pos (by decide)]
  refine wpAny_bind (sliceApplied_gen hs pl pu ?_)
  have hyes : ((((sIx items.size 0 lo : Nat) : Int) == 0 && (1 : Int) == 1 && (sIx items.size items.size hi - sIx items.size 0 lo) == items.size) = true) := by
    rw [hw.1, hw.2]
    simp
  show wpAny _ _ (if (((sIx items.size 0 lo : Nat) : Int) == 0 && (1 : Int) == 1 && (sIx items.size items.size hi - sIx items.size 0 lo) == items.size) = true then _ else _) _ _ s
  rw [if_pos hyes]
  unfold Builtin.Tuple.tupleIsExact
  refine wpAny_bind (wpAny_bind (wpAny_typeOf ht.typeIs (wpAny_pure ?_)))
  rw [if_pos (by decide)]
  refine wpAny_bind (wpAny_rule ?_)
  exact wpAny_pure ⟨_, rfl, wpAny_pure h⟩
end
end HT

namespace L2
open PySem PySem.Spec PyProof.Rows
section
variable {X : Cx} {a b c e : Expr} {es : List Expr} {fa fb fc f : Rho → Option PyData} {pos p2 : Pos} {ff : Rho → Option (List PyData)}

theorem sl_tup0 : SlR X (rSlT0 X.K) := by
  intro pins s σ H x v vl vu lo hi sl Q I rx hs pl pu h
  obtain ⟨a, xs, rfl, hx, hw, q⟩ := h
  cases rx
  obtain ⟨its, r, ht, hz⟩ := I.tuple hx
  have hlen : its.toArray.size = xs.length := by rw [List.size_toArray]; exact r.length.symm
  refine ⟨"tuple", _, PyProof.Rows.slot_tuple_getitem.lookup, ht.typeIs, ?_⟩
  exact HT.getItem_tuple_whole ht hs pl pu (by rw [hlen]; exact hw) ⟨.ref a, H, I, rfl, q⟩
def rSlS : V → Option Int → Option Int → Hp → VK → Prop := fun x lo hi H Q => ∃ z, x = .str z ∧ z.length ≤ sizeLine ∧ Q (.str (Txt.slice z lo hi)) H
def partTok : Value → Option (Int × Tok)
  | .int i t => some (i, t)
  | _ => none
theorem partTok_val {v : Value} {o : Option Int} (p : IsPart v o) : partValue (partTok v) = v ∧ (partTok v).map (·.1) = o := by
  cases p <;> exact ⟨rfl, rfl⟩
theorem sl_str : SlR X rSlS := by
  intro pins s σ H x v vl vu lo hi sl Q I rx hs pl pu h
  obtain ⟨z, rfl, hz, q⟩ := h
  obtain ⟨t, rfl⟩ := rx
  refine ⟨"str", _, F.slot_str_getitem.lookup, typeIs_str _ _ _, ?_⟩
  obtain ⟨l1, l2⟩ := partTok_val pl
  obtain ⟨u1, u2⟩ := partTok_val pu
  obtain ⟨os, ho, hc, hd⟩ := hs
  refine wpAny_getItem_str_slice (l := partTok vl) (u := partTok vu) (st := none) ⟨os, ho, hc, by rw [l1, u1]; exact hd⟩ rfl ?_
  have e : sliceMade z t (partTok vl) (partTok vu) none = (if ((1 : Int) == 1 && (Builtin.Str.strSliceIndices lo hi 1 z.length).length == z.length) = true then .val (.str z t) else .str ⟨((Builtin.Str.strSliceIndices lo hi 1 z.length).filterMap (z.cps[·]?)).toArray⟩) := by
    unfold sliceMade slicePicked
    rw [l2, u2]
    rfl
  rw [e]
  exact post_val_or_str ⟨Nat.le_trans (Txt.slice_le z lo hi) hz, fun t' k => ⟨.str (Txt.slice z lo hi), H, I.tok _, ⟨_, rfl⟩, q⟩⟩
def dSl : PyData → Option Int → Option Int → Option PyData
  | .list xs, lo, hi => some (.list (cutL xs lo hi))
  | .tuple xs, lo, hi => some (.tuple (cutL xs lo hi))
  | .str z, lo, hi => if z.length ≤ sizeLine then some (.str (Txt.slice z lo hi)) else none
  | _, _, _ => none
def dSlice (f : Rho → Option PyData) (l h : FO) : Rho → Option PyData := fun ρ => (f ρ).bind fun x => (l ρ).bind fun lo => (h ρ).bind fun hi => dSl x lo hi
theorem SlR.imp {r r' : V → Option Int → Option Int → Hp → VK → Prop} (h : SlR X r) (k : ∀ x lo hi H Q, r' x lo hi H Q → r x lo hi H Q) : SlR X r' :=
  fun pins s σ H x v vl vu lo hi sl Q I rx hs pl pu q => h pins s σ H x v vl vu lo hi sl Q I rx hs pl pu (k _ _ _ _ _ q)
theorem slD : SlR X (fun x lo hi H Q => ∃ d c, IsD X.K H d x ∧ dSl d lo hi = some c ∧ KD X.K H c Q) := by
  refine SlR.imp (sl_list.or (sl_str.or (sl_tup.or sl_tup0))) fun x lo hi H Q ⟨d, c, i, e, k⟩ => ?_
  cases d <;> try (simp [dSl] at e; done)
  · rename_i z
    dsimp only [dSl] at e
    by_cases hz : z.length ≤ sizeLine
    · rw [if_pos hz] at e; cases e
      exact .inr (.inl ⟨z, IsD.str_iff.mp i, hz, k.here (IsD.str_iff.mpr rfl)⟩)
    · rw [if_neg hz] at e; cases e
  · rename_i xs
    cases e
    obtain ⟨p, vs, rfl, e2, e3⟩ := IsD.list_iff.mp i
    exact .inl ⟨p, vs, rfl, e2, k.newL (e3.cut lo hi)⟩
  · rename_i xs
    cases e
    obtain ⟨p, vs, rfl, e2, e3⟩ := i.tuple_of
    by_cases hw : HT.sIx vs.length 0 lo = 0 ∧ HT.sIx vs.length vs.length hi = vs.length
    · refine .inr (.inr (.inr ⟨p, vs, rfl, e2, hw, ?_⟩))
      have : cutL xs lo hi = xs := by
        unfold cutL
        rw [e3.length, hw.1, hw.2]
        simp only [List.drop_zero, Nat.sub_zero]
        rw [← e3.length]
        exact List.take_length
      rw [this] at k
      exact k.here i
    · exact .inr (.inr (.inl ⟨p, vs, rfl, e2, hw, k.newT (e3.cut lo hi)⟩))
theorem pd_slice {lo hi : Option Expr} {l h : FO} (he : PD X e f) (hl : PDO X lo l) (hu : PDO X hi h) : PD X (.Subscript e (.Slice lo hi none p2) pos) (dSlice f l h) :=
  PE.imp (pe_slice slD he hl hu) fun σ H Q ⟨ρ, d, hs, e, k⟩ => by
    obtain ⟨x, e1, e⟩ := bind_some e
    obtain ⟨lo', e2, e⟩ := bind_some e
    obtain ⟨hi', e3, e⟩ := bind_some e
    exact ⟨ρ, x, hs, e1, fun v H1 s1 i1 => ⟨ρ, lo', hs.same s1, e2, fun H2 s2 => ⟨ρ, hi', hs.same (s1.trans s2), e3, fun H3 s3 => ⟨x, d, i1.same (s2.trans s3), e, k.later (s1.trans (s2.trans s3))⟩⟩⟩⟩

/-! ### calls of builtins -/
def rDC (K : PySem.W.Frag) (g : List PyData → Option PyData) : List V → Hp → VK → Prop := fun xs H Q => ∃ ds c, IsDs K H ds xs ∧ g ds = some c ∧ KD K H c Q
def CallD (X : Cx) (v : Value) (g : List PyData → Option PyData) : Prop := CallR X v (rDC X.K g)
def dCall (g : List PyData → Option PyData) (ff : Rho → Option (List PyData)) : Rho → Option PyData := fun ρ => (ff ρ).bind g
theorem tDC {K : PySem.W.Frag} {g : List PyData → Option PyData} {σ : St} {H : Hp} {Q : VK} (h : tD K (dCall g ff) σ H Q) : tCB (rDC K g) (tDA K ff) σ H Q := by
  obtain ⟨ρ, d, hs, e, k⟩ := h
  obtain ⟨ds, e1, e2⟩ := bind_some e
  exact ⟨ρ, ds, hs, e1, fun vs H1 s1 i1 => ⟨ds, d, i1, e2, k.later s1⟩⟩
theorem pd_callB {x : Str} {p : Pos} {id : String} {g : List PyData → Option PyData} (hc : CallD X (.builtin id) g) (hg : Gl X x) (hm : X.mg x = none) (hv : bootBuiltins x = some (.builtin id)) (ha : PDA X (e :: es) ff) (hn : x ≠ "__name__" := by decide) (hdb : (x == ("__debug__" : Str)) = false := by decide)
    (he : starEach (e :: es) X.env = (false, eval e X.env) :: starEach es X.env := by rfl) (hpl : (backTo pos (starEach es X.env)).any (·.1) = false := by rfl) : PD X (.Call (.Name x p) (e :: es) [] pos) (dCall g ff) :=
  PE.imp (pe_callB hc hg hm hv ha hn hdb he hpl) fun _ _ _ h => tDC h
theorem pd_callTy {x : Str} {p : Pos} {T : String} {g : List PyData → Option PyData} (hc : CallD X (.type T) g) (hg : Gl X x) (hm : X.mg x = none) (hv : bootBuiltins x = some (.type T)) (ha : PDA X (e :: es) ff) (hn : x ≠ "__name__" := by decide) (hdb : (x == ("__debug__" : Str)) = false := by decide)
    (he : starEach (e :: es) X.env = (false, eval e X.env) :: starEach es X.env := by rfl) (hpl : (backTo pos (starEach es X.env)).any (·.1) = false := by rfl) : PD X (.Call (.Name x p) (e :: es) [] pos) (dCall g ff) :=
  PE.imp (pe_callTy hc hg hm hv ha hn hdb he hpl) fun _ _ _ h => tDC h
theorem isDs_one {K : PySem.W.Frag} {H : Hp} {d : PyData} {vs : List V} (h : IsDs K H [d] vs) : ∃ v, vs = [v] ∧ IsD K H d v := by
  obtain ⟨v, r, rfl, h1, t⟩ := IsDs.cons_iff.mp h
  rw [IsDs.nil_iff.mp t]
  exact ⟨v, rfl, h1⟩
theorem isDs_two {K : PySem.W.Frag} {H : Hp} {d d' : PyData} {vs : List V} (h : IsDs K H [d, d'] vs) : ∃ v v', vs = [v, v'] ∧ IsD K H d v ∧ IsD K H d' v' := by
  obtain ⟨v, r, rfl, h1, t⟩ := IsDs.cons_iff.mp h
  obtain ⟨v', rfl, h2⟩ := isDs_one t
  exact ⟨v, v', rfl, h1, h2⟩
def dTupleOf : List PyData → Option PyData
  | [.list xs] => some (.tuple xs)
  | [.tuple xs] => some (.tuple xs)
  | _ => none
theorem cd_tuple : CallD X (.type "tuple") dTupleOf := by
  refine CallR.imp call_tuple_of fun xs H Q ⟨ds, c, i, e, k⟩ => ?_
  match ds, e with
  | [.list ys], e =>
    cases e
    obtain ⟨v, rfl, h1⟩ := isDs_one i
    obtain ⟨p, vs, rfl, e2, e3⟩ := IsD.list_iff.mp h1
    exact ⟨p, vs, rfl, .inl ⟨e2, k.newT e3⟩⟩
  | [.tuple ys], e =>
    cases e
    obtain ⟨v, rfl, h1⟩ := isDs_one i
    obtain ⟨p, vs, rfl, e2, e3⟩ := h1.tuple_of
    exact ⟨p, vs, rfl, .inr ⟨e2, k.here h1⟩⟩
def dListOf : List PyData → Option PyData
  | [.list xs] => some (.list xs)
  | [.tuple xs] => some (.list xs)
  | _ => none
theorem cd_list : CallD X (.type "list") dListOf := by
  refine CallR.imp call_list_of fun xs H Q ⟨ds, c, i, e, k⟩ => ?_
  match ds, e with
  | [.list ys], e =>
    cases e
    obtain ⟨v, rfl, h1⟩ := isDs_one i
    obtain ⟨p, vs, rfl, e2, e3⟩ := IsD.list_iff.mp h1
    exact ⟨p, vs, rfl, .inl e2, k.newL e3⟩
  | [.tuple ys], e =>
    cases e
    obtain ⟨v, rfl, h1⟩ := isDs_one i
    obtain ⟨p, vs, rfl, e2, e3⟩ := h1.tuple_of
    exact ⟨p, vs, rfl, .inr e2, k.newL e3⟩
def dLen : List PyData → Option PyData
  | [.list xs] => some (.int xs.length)
  | [.tuple xs] => some (.int xs.length)
  | [.str z] => if z.length ≤ sizeLine then some (.int z.length) else none
  | _ => none
theorem cd_len : CallD X (.builtin "len") dLen := by
  refine CallR.imp (call_len_seq.or call_len_str) fun xs H Q ⟨ds, c, i, e, k⟩ => ?_
  match ds, e with
  | [.list ys], e =>
    cases e
    obtain ⟨v, rfl, h1⟩ := isDs_one i
    obtain ⟨p, vs, rfl, e2, e3⟩ := IsD.list_iff.mp h1
    exact .inl ⟨p, vs, rfl, .inl e2, k.here (by rw [e3.length]; exact IsD.int_iff.mpr rfl)⟩
  | [.tuple ys], e =>
    cases e
    obtain ⟨v, rfl, h1⟩ := isDs_one i
    obtain ⟨p, vs, rfl, e2, e3⟩ := h1.tuple_of
    exact .inl ⟨p, vs, rfl, .inr e2, k.here (by rw [e3.length]; exact IsD.int_iff.mpr rfl)⟩
  | [.str z], e =>
    dsimp only [dLen] at e
    by_cases hz : z.length ≤ sizeLine
    · rw [if_pos hz] at e; cases e
      obtain ⟨v, rfl, h1⟩ := isDs_one i
      exact .inr ⟨z, by rw [IsD.str_iff.mp h1], hz, k.here (IsD.int_iff.mpr rfl)⟩
    · rw [if_neg hz] at e; cases e
def dMin : List PyData → Option PyData
  | [.int i, .int j] => some (.int (if j < i then j else i))
  | _ => none
def dMax : List PyData → Option PyData
  | [.int i, .int j] => some (.int (if j > i then j else i))
  | _ => none
theorem cd_min (hc : X.calm = true) : CallD X (.builtin "min") dMin := by
  refine CallR.imp (call_min2 hc) fun xs H Q ⟨ds, c, i, e, k⟩ => ?_
  match ds, e with
  | [.int x, .int y], e =>
    cases e
    obtain ⟨v, v', rfl, h1, h2⟩ := isDs_two i
    exact ⟨x, y, by rw [IsD.int_iff.mp h1, IsD.int_iff.mp h2], k.here (IsD.int_iff.mpr rfl)⟩
theorem cd_max (hc : X.calm = true) : CallD X (.builtin "max") dMax := by
  refine CallR.imp (call_max2 hc) fun xs H Q ⟨ds, c, i, e, k⟩ => ?_
  match ds, e with
  | [.int x, .int y], e =>
    cases e
    obtain ⟨v, v', rfl, h1, h2⟩ := isDs_two i
    exact ⟨x, y, by rw [IsD.int_iff.mp h1, IsD.int_iff.mp h2], k.here (IsD.int_iff.mpr rfl)⟩

/-! ### isinstance(x, T), T a built-in type's name -/
def tyD : PyData → String
  | .none => "NoneType"
  | .bool _ => "bool"
  | .int _ => "int"
  | .str _ => "str"
  | .list _ => "list"
  | .tuple _ => "tuple"
  | .dict _ => "dict"
theorem call_isinst : CallR X (.builtin "isinstance") (fun xs H Q => ∃ d v T c, xs = [v, .ty T] ∧ IsD X.K H d v ∧ PySem.W.kitOne X.K (.type (tyD d)) (.type T) = some c ∧ Q (.bl c) H) := by
  intro pins s σ H xs us Q I r h
  obtain ⟨d, v, T, c, rfl, hd, e, q⟩ := h
  obtain ⟨u, w', rfl, ru, rw'⟩ := vals2 r
  obtain rfl : w' = Value.type T := rw'
  have fin : ∀ tk, EP X pins σ Q (.bool c) { s with toks := tk } := fun tk => ⟨.bl c, H, I.tok tk, rfl, q⟩
  cases d with
  | none => rw [IsD.none_iff.mp hd] at ru; cases ru; exact PySem.W.kia_one PySem.W.kitx_none I.kIn True.intro e (fun z => nomatch z) fin
  | bool y => rw [IsD.bool_iff.mp hd] at ru; cases ru; exact PySem.W.kia_one PySem.W.kitx_bool I.kIn True.intro e (fun z => nomatch z) fin
  | int i => rw [IsD.int_iff.mp hd] at ru; obtain ⟨t, rfl⟩ := ru; exact PySem.W.kia_one PySem.W.kitx_int I.kIn True.intro e (fun z => nomatch z) fin
  | str y => rw [IsD.str_iff.mp hd] at ru; obtain ⟨t, rfl⟩ := ru; exact PySem.W.kia_one PySem.W.kitx_str I.kIn True.intro e (fun z => nomatch z) fin
  | list xs =>
    obtain ⟨p, vs, rfl, e2, e3⟩ := IsD.list_iff.mp hd
    cases ru
    obtain ⟨its, _, ⟨o, n, h1, h2, _⟩, _⟩ := I.list e2
    exact PySem.W.kia_one PySem.W.kitx_list I.kIn ⟨o, h1, h2⟩ e (fun z => nomatch z) fin
  | tuple xs =>
    obtain ⟨p, vs, rfl, e2, e3⟩ := hd.tuple_of
    cases ru
    obtain ⟨its, _, ⟨o, h1, h2, _⟩, _⟩ := I.tuple e2
    exact PySem.W.kia_one PySem.W.kitx_tuple I.kIn ⟨o, h1, h2⟩ e (fun z => nomatch z) fin
  | dict _ =>
    obtain ⟨p, kv, rfl, e2, _⟩ := IsD.dict_iff.mp hd
    cases ru
    obtain ⟨_, _, xs, _, o, es, ep, h1, h2, _⟩ := (show ObjOk X.prog X.w H s.heap p (.dD kv) from I.hok p _ e2)
    exact PySem.W.kia_one PySem.W.kitx_dict I.kIn ⟨o, h1, h2.1⟩ e (fun z => nomatch z) fin
def dIsT (T : String) (f : Rho → Option PyData) : Rho → Option PyData := fun ρ => (f ρ).map fun d => .bool (tyD d == T || (tyD d == "bool" && T == "int"))
theorem kit_of {K : PySem.W.Frag} {T : String} (hT : T = "tuple" ∨ T = "list" ∨ T = "bool" ∨ T = "str" ∨ T = "int") (d : PyData) : PySem.W.kitOne K (.type (tyD d)) (.type T) = some (tyD d == T || (tyD d == "bool" && T == "int")) := by
  rcases hT with rfl | rfl | rfl | rfl | rfl <;> cases d <;> rfl
theorem pd_isinst {T : String} {p pt : Pos} {x : Str} (hT : T = "tuple" ∨ T = "list" ∨ T = "bool" ∨ T = "str" ∨ T = "int") (he : PD X e f) (hg : Gl X "isinstance") (hm : X.mg "isinstance" = none) (hgT : Gl X x) (hmT : X.mg x = none) (hv : bootBuiltins x = some (.type T))
    (hn : x ≠ "__name__" := by decide) (hdb : (x == ("__debug__" : Str)) = false := by decide)
    (hs : starEach [e, .Name x pt] X.env = (false, eval e X.env) :: starEach [.Name x pt] X.env := by rfl) (hs2 : starEach [.Name x pt] X.env = (false, eval (.Name x pt) X.env) :: starEach [] X.env := by rfl) (hpl : (backTo pos (starEach [.Name x pt] X.env)).any (·.1) = false := by rfl) :
    PD X (.Call (.Name "isinstance" p) [e, .Name x pt] [] pos) (dIsT T f) := by
  refine PE.imp (pe_callB call_isinst hg hm (by rfl) (pa_cons he (pa_cons (pe_bltn hgT hmT hv (v := .ty T) rfl hn hdb) pa_nil hs2) hs) (by decide) (by decide) hs hpl) fun σ H Q ⟨ρ, d, hs, e, k⟩ => ?_
  obtain ⟨x, e1, e2⟩ := Option.map_eq_some_iff.mp e
  subst e2
  exact ⟨ρ, x, hs, e1, fun v H1 s1 i1 => ⟨x, v, T, _, rfl, i1, kit_of hT x, (k.later s1).here (IsD.bool_iff.mpr rfl)⟩⟩
end

/-! ### statements -/
section
variable {X : Cx} {a b c e : Expr} {es : List Expr} {fa fb fc f : Rho → Option PyData} {pos p2 : Pos} {ff : Rho → Option (List PyData)} {st : Stmt} {rest : List Stmt} {g h : Rho → Option Out} {gc : Rho → Option Bool}
def sNil : Rho → Option Out := fun ρ => some (.nx ρ)
def sSeq (g h : Rho → Option Out) : Rho → Option Out := fun ρ => (g ρ).bind fun o => match o with
  | .nx ρ' => h ρ'
  | o => some o
theorem pdss_nil : PDSs X [] sNil := PSs.imp pss_nil fun D σ H ⟨ρ, o, hs, e, k⟩ => by cases e; exact k σ H (.refl H) hs
theorem pdss_cons (h1 : PDS X st g) (h2 : PDSs X rest h) : PDSs X (st :: rest) (sSeq g h) :=
  PSs.imp (pss_cons h1 h2) fun D σ H ⟨ρ, o, hs, e, k⟩ => by
    obtain ⟨o1, e1, e2⟩ := bind_some e
    refine ⟨ρ, o1, hs, e1, ?_⟩
    cases o1 with
    | nx ρ' => exact fun σ' H' s' hs' => ⟨ρ', o, hs', e2, k.later s'⟩
    | rt d => cases e2; exact k
    | bk ρ' => cases e2; exact k
    | ct ρ' => cases e2; exact k
theorem pdss_one (h1 : PDS X st g) : PDSs X [st] g := PSs.imp (pss_one h1) fun D σ H h => h
def sRet (f : Rho → Option PyData) : Rho → Option Out := fun ρ => (f ρ).map .rt
theorem pds_ret (h : PD X e f) : PDS X (.Return (some e) pos) (sRet f) :=
  PS.imp (ps_ret h) fun D σ H ⟨ρ, o, hs, e, k⟩ => by
    obtain ⟨d, e1, rfl⟩ := Option.map_eq_some_iff.mp e
    exact ⟨ρ, d, hs, e1, k⟩
theorem pds_retN : PDS X (.Return none pos) (fun _ => some (.rt .none)) := PS.imp ps_retN fun D σ H ⟨ρ, o, hs, e, k⟩ => by cases e; exact KD.here k (IsD.none_iff.mpr rfl)
def sIf (c : Rho → Option Bool) (g h : Rho → Option Out) : Rho → Option Out := fun ρ => (c ρ).bind fun x => if x then g ρ else h ρ
theorem pds_if {sa sb : List Stmt} (hc : PDT X c gc) (ha : PDSs X sa g) (hb : PDSs X sb h) : PDS X (.If c sa sb pos) (sIf gc g h) :=
  PS.imp (ps_if hc ha hb) fun D σ H ⟨ρ, o, hs, e, k⟩ => by
    obtain ⟨y, e1, e2⟩ := bind_some e
    refine ⟨ρ, y, hs, e1, fun H1 s1 => ?_⟩
    cases y with
    | true => rw [if_pos rfl]; exact ⟨ρ, o, hs.same s1, e2, k.later s1⟩
    | false => rw [if_neg Bool.false_ne_true]; exact ⟨ρ, o, hs.same s1, e2, k.later s1⟩
theorem pds_pass : PDS X (.Pass pos) sNil := PS.imp ps_pass fun D σ H ⟨ρ, o, hs, e, k⟩ => by cases e; exact k σ H (.refl H) hs
theorem pds_break : PDS X (.Break pos) (fun ρ => some (.bk ρ)) := PS.imp ps_break fun D σ H ⟨ρ, o, hs, e, k⟩ => by cases e; exact k σ H (.refl H) hs
theorem pds_continue : PDS X (.Continue pos) (fun ρ => some (.ct ρ)) := PS.imp ps_continue fun D σ H ⟨ρ, o, hs, e, k⟩ => by cases e; exact k σ H (.refl H) hs
def sExpr (f : Rho → Option PyData) : Rho → Option Out := fun ρ => (f ρ).map fun _ => .nx ρ
theorem pds_expr (h : PD X e f) (hs : swapsWith e none pos.line X.env = pure false := by rfl) : PDS X (.Expr e pos) (sExpr f) :=
  PS.imp (ps_expr h hs) fun D σ H ⟨ρ, o, hs, e, k⟩ => by
    obtain ⟨d, e1, rfl⟩ := Option.map_eq_some_iff.mp e
    exact ⟨ρ, d, hs, e1, fun v H1 s1 _ => k σ H1 s1 (hs.same s1)⟩

/-! targets -/
abbrev BD := PyData → Rho → Option Rho
def tDG (K : PySem.W.Frag) (bd : BD) : TG := fun v σ H Q => ∃ ρ d ρ', HasD K H σ ρ ∧ IsD K H d v ∧ bd d ρ = some ρ' ∧ ∀ σ' H', Same H H' → HasD K H' σ' ρ' → Q σ' H'
def PDG (X : Cx) (tg : Expr) (bd : BD) : Prop := PG X tg (tDG X.K bd)
theorem PG.imp {tg : Expr} {t u : TG} (h : PG X tg t) (k : ∀ v σ H Q, u v σ H Q → t v σ H Q) : PG X tg u := fun pins s σ H v u' Q I r q => h pins s σ H v u' Q I r (k _ _ _ _ q)
theorem PGs.imp {tg : List Expr} {t u : TGs} (h : PGs X tg t) (k : ∀ v σ H Q, u v σ H Q → t v σ H Q) : PGs X tg u := fun pins s σ H v u' Q I r q => h pins s σ H v u' Q I r (k _ _ _ _ q)
def bName (i : Nat) : BD := fun d ρ => some (ρ.set i (some d))
theorem pdg_name (i : Nat) {x : Str} (hN : X.N.Nodup) (hi : X.N[i]? = some x := by rfl) (hx : Loc X.env.scope x := by first | exact Or.inl rfl | exact Or.inr rfl) (hf : X.fn x = true ∨ X.env.scope.names.lookup x = some .local := by first | exact .inl rfl | exact .inr rfl | assumption) : PDG X (.Name x pos) (bName i) :=
  PG.imp (pg_name hN hi hx hf) fun v σ H Q ⟨ρ, d, ρ', hs, i1, e, k⟩ => by cases e; exact k _ H (.refl H) (hs.set i1)
abbrev BDs := List PyData → Rho → Option Rho
def tDGs (K : PySem.W.Frag) (bd : BDs) : TGs := fun vs σ H Q => ∃ ρ ds ρ', HasD K H σ ρ ∧ IsDs K H ds vs ∧ bd ds ρ = some ρ' ∧ ∀ σ' H', Same H H' → HasD K H' σ' ρ' → Q σ' H'
def PDGs (X : Cx) (tg : List Expr) (bd : BDs) : Prop := PGs X tg (tDGs X.K bd)
def bNil : BDs := fun ds ρ => match ds with | [] => some ρ | _ => none
def bCons (b : BD) (bs : BDs) : BDs := fun ds ρ => match ds with | [] => none | d :: r => (b d ρ).bind fun ρ' => bs r ρ'
theorem pdgs_nil : PDGs X [] bNil := PGs.imp pgs_nil fun vs σ H Q ⟨ρ, ds, ρ', hs, i1, e, k⟩ => by
  cases ds with
  | nil => cases e; exact ⟨IsDs.nil_iff.mp i1, k σ H (.refl H) hs⟩
  | cons _ _ => cases e
theorem pdgs_cons {bd : BD} {bs : BDs} (h1 : PDG X e bd) (h2 : PDGs X es bs) (hs : (assignEach (e :: es) X.env).map (·.2) = assign e X.env :: (assignEach es X.env).map (·.2) := by rfl) : PDGs X (e :: es) (bCons bd bs) :=
  PGs.imp (pgs_cons h1 h2 hs) fun vs σ H Q ⟨ρ, ds, ρ', hs, i1, e, k⟩ => by
    cases ds with
    | nil => cases e
    | cons d r =>
      obtain ⟨ρ1, e1, e2⟩ := bind_some e
      obtain ⟨v, vr, rfl, i2, i3⟩ := IsDs.cons_iff.mp i1
      exact ⟨v, vr, rfl, ρ, d, ρ1, hs, i2, e1, fun σ1 H1 s1 hs1 => ⟨ρ1, r, ρ', hs1, i3.same s1, e2, fun σ2 H2 s2 hs2 => k σ2 H2 (s1.trans s2) hs2⟩⟩
def bTup (n : Nat) (bs : BDs) : BD := fun d ρ => match d with | .tuple ds => if ds.length = n then bs ds ρ else none | _ => none
theorem pdg_tup {k n : Nat} {bs : BDs} (hc : X.calm = true) (h : PDGs X es bs) (hn : (assignEach es X.env).length = n := by rfl) (hst : (assignEach es X.env).findIdx? (·.1) = none := by rfl) : PDG X (.Tuple es k pos) (bTup n bs) :=
  PG.imp (pg_tup hc h hn hst) fun v σ H Q ⟨ρ, d, ρ', hs, i1, e, k⟩ => by
    cases d <;> try (simp [bTup] at e; done)
    rename_i ds
    dsimp only [bTup] at e
    by_cases hl : ds.length = n
    · rw [if_pos hl] at e
      obtain ⟨p, vs, rfl, e2, e3⟩ := i1.tuple_of
      exact ⟨p, vs, rfl, e2, by rw [← e3.length]; exact hl, ρ, ds, ρ', hs, e3, e, k⟩
    · rw [if_neg hl] at e; cases e
def sAsg (f : Rho → Option PyData) (b : BD) : Rho → Option Out := fun ρ => (f ρ).bind fun d => (b d ρ).map .nx
theorem pds_asg {tg : Expr} {b : BD} (he : PD X e f) (hg : PDG X tg b) (hs : swapsWithSole [tg] e pos.line X.env = pure false := by rfl) (hw : swappedStores [tg] e X.env = pure none := by rfl)
    (h1 : (assignEach [tg] X.env).map (·.2) = [assign tg X.env] := by rfl) : PDS X (.Assign [tg] e pos) (sAsg f b) :=
  PS.imp (ps_asg he hg hs hw h1) fun D σ H ⟨ρ, o, hs, e, k⟩ => by
    obtain ⟨d, e1, e2⟩ := bind_some e
    obtain ⟨ρ', e3, rfl⟩ := Option.map_eq_some_iff.mp e2
    exact ⟨ρ, d, hs, e1, fun v H1 s1 i1 => ⟨ρ, d, ρ', hs.same s1, i1, e3, fun σ2 H2 s2 hs2 => k σ2 H2 (s1.trans s2) hs2⟩⟩
theorem pds_set (i : Nat) {x : Str} {pos' : Pos} (hN : X.N.Nodup) (he : PD X e f) (hi : X.N[i]? = some x := by rfl) (hx : Loc X.env.scope x := by first | exact Or.inl rfl | exact Or.inr rfl) (hs : swapsWith e (some (.Name x pos')) pos.line X.env = pure false := by rfl)
    (hf : X.fn x = true ∨ X.env.scope.names.lookup x = some .local := by first | exact .inl rfl | exact .inr rfl | assumption) : PDS X (.Assign [.Name x pos'] e pos) (sAsg f (bName i)) :=
  PS.imp (ps_set hN hi hx he hs hf) fun D σ H ⟨ρ, o, hs, e, k⟩ => by
    obtain ⟨d, e1, e2⟩ := bind_some e
    obtain ⟨ρ', e3, rfl⟩ := Option.map_eq_some_iff.mp e2
    cases e3
    exact ⟨ρ, d, hs, e1, fun v H1 s1 i1 => k _ H1 s1 ((hs.same s1).set i1)⟩

/-! for: over data, over a range -/
/-- the iterator gives these, whatever is laid meanwhile -/
def WalksD (K : PySem.W.Frag) (J : It) (ds : List PyData) (H : Hp) : Prop :=
  ∀ H', Same H H' → (J.stop ds.length H') ∧ ∀ (i : Nat) (d : PyData), ds[i]? = some d → J.go i H' ∧ ∀ x H2, J.yld i H' x H2 → Same H' H2 ∧ IsD K H2 d x
def tDI (K : PySem.W.Frag) (q : Rho → Option (List PyData)) : TI := fun σ H R => ∃ ρ ds, HasD K H σ ρ ∧ q ρ = some ds ∧ ∀ J H', Same H H' → WalksD K J ds H' → R J H'
def PDI (X : Cx) (tg iter : Expr) (q : Rho → Option (List PyData)) : Prop := PI X tg iter (tDI X.K q)
theorem PI.imp {tg iter : Expr} {t u : TI} (h : PI X tg iter t) (k : ∀ σ H R, u σ H R → t σ H R) : PI X tg iter u := fun pins s σ H R I q => h pins s σ H R I (k _ _ _ q)
theorem PI.or {tg iter : Expr} {t u : TI} (h : PI X tg iter t) (h' : PI X tg iter u) : PI X tg iter (fun σ H R => t σ H R ∨ u σ H R) := fun pins s σ H R I q => q.elim (h pins s σ H R I) (h' pins s σ H R I)
def qSeq (f : Rho → Option PyData) : Rho → Option (List PyData) := fun ρ => (f ρ).bind fun d => match d with | .list ds => some ds | .tuple ds => some ds | _ => none
theorem pdi_seq {tg : Expr} (h : PD X e f) : PDI X tg e (qSeq f) :=
  PI.imp (PI.or (pi_list h) (pi_tup h)) fun σ H R ⟨ρ, ds, hs, e, k⟩ => by
    obtain ⟨d, e1, e2⟩ := bind_some e
    cases d <;> try (simp at e2; done)
    · cases e2
      refine .inl ⟨ρ, _, hs, e1, fun v H1 s1 i1 => ?_⟩
      obtain ⟨p, vs, rfl, e2, e3⟩ := IsD.list_iff.mp i1
      refine ⟨p, rfl, ⟨vs, e2⟩, k _ H1 s1 fun H' s' => ⟨⟨vs, s'.seq e2, by rw [e3.length]; exact Nat.le_refl _⟩, fun i d q => ?_⟩⟩
      obtain ⟨x, e4, e5⟩ := e3.get q
      refine ⟨⟨vs, x, s'.seq e2, e4⟩, fun y H2 ⟨r1, r2⟩ => ?_⟩
      subst r1
      have := r2 vs (s'.seq e2)
      rw [e4] at this; cases this
      exact ⟨.refl _, e5.same s'⟩
    · cases e2
      refine .inr ⟨ρ, _, hs, e1, fun v H1 s1 i1 => ?_⟩
      obtain ⟨p, vs, rfl, e2, e3⟩ := i1.tuple_of
      refine ⟨p, rfl, ⟨vs, e2⟩, k _ H1 s1 fun H' s' => ⟨⟨vs, s'.seqT e2, by rw [e3.length]; exact Nat.le_refl _⟩, fun i d q => ?_⟩⟩
      obtain ⟨x, e4, e5⟩ := e3.get q
      refine ⟨⟨vs, x, s'.seqT e2, e4⟩, fun y H2 ⟨r1, r2⟩ => ?_⟩
      subst r1
      have := r2 vs (s'.seqT e2)
      rw [e4] at this; cases this
      exact ⟨.refl _, e5.same s'⟩
def intsD (lo : Int) (n : Nat) : List PyData := (List.range n).map fun k => .int (lo + (k : Nat))
theorem walks_range {K : PySem.W.Frag} (lo : Int) (n : Nat) (H : Hp) : WalksD K (Itr lo n) (intsD lo n) H := fun H' s' => by
  refine ⟨by show n ≤ (intsD lo n).length; simp [intsD], fun i d q => ?_⟩
  have hi : i < n := by
    have := (List.getElem?_eq_some_iff.mp q).1
    simpa [intsD] using this
  refine ⟨hi, fun x H2 ⟨r1, r2⟩ => ?_⟩
  subst r1 r2
  have : d = .int (lo + (i : Nat)) := by
    unfold intsD at q
    rw [List.getElem?_map, List.getElem?_range hi] at q
    cases q; rfl
  subst this
  exact ⟨.refl _, IsD.int_iff.mpr rfl⟩
def qRange1 (f : Rho → Option PyData) : Rho → Option (List PyData) := fun ρ => (f ρ).bind fun d => match d with | .int j => if -(2 ^ 62) ≤ j ∧ j < 2 ^ 62 then some (intsD 0 j.toNat) else none | _ => none
theorem pdi_range1 {tg : Expr} {p : Pos} (hg : Gl X "range") (hm : X.mg "range" = none) (h : PD X e f) (hs : starEach [e] X.env = [(false, eval e X.env)] := by rfl) : PDI X tg (.Call (.Name "range" p) [e] [] pos) (qRange1 f) :=
  PI.imp (pi_range1 hg hm (pa_cons h pa_nil (by rw [hs]; rfl)) hs) fun σ H R ⟨ρ, ds, hs, e, k⟩ => by
    obtain ⟨d, e1, e2⟩ := bind_some e
    cases d <;> try (simp at e2; done)
    rename_i j
    dsimp only at e2
    by_cases hj : -(2 ^ 62) ≤ j ∧ j < 2 ^ 62
    · rw [if_pos hj] at e2
      cases e2
      exact ⟨ρ, _, hs, e1, fun v H1 s1 i1 => ⟨j, by rw [IsD.int_iff.mp i1], hj.1, hj.2, k _ H1 s1 (walks_range 0 _ H1)⟩⟩
    · rw [if_neg hj] at e2; cases e2
def qRange2 (f g : Rho → Option PyData) : Rho → Option (List PyData) := fun ρ => (f ρ).bind fun d => (g ρ).bind fun d' => match d, d' with
  | .int i, .int j => if (-(2 ^ 62) ≤ i ∧ i < 2 ^ 62 ∧ -(2 ^ 62) ≤ j ∧ j < 2 ^ 62) then some (intsD i (j - i).toNat) else none
  | _, _ => none
theorem pdi_range2 {tg : Expr} {p : Pos} (hg : Gl X "range") (hm : X.mg "range" = none) (h : PD X a fa) (h' : PD X b fb) (hs : starEach [a, b] X.env = [(false, eval a X.env), (false, eval b X.env)] := by rfl) (hs2 : starEach [b] X.env = [(false, eval b X.env)] := by rfl) :
    PDI X tg (.Call (.Name "range" p) [a, b] [] pos) (qRange2 fa fb) :=
  PI.imp (pi_range2 hg hm (pa_cons h (pa_cons h' pa_nil (by rw [hs2]; rfl)) (by rw [hs, hs2])) hs hs2) fun σ H R ⟨ρ, ds, hs, e, k⟩ => by
    obtain ⟨d, e1, e2⟩ := bind_some e
    obtain ⟨d', e3, e4⟩ := bind_some e2
    cases d <;> cases d' <;> try (simp at e4; done)
    rename_i i j
    dsimp only at e4
    by_cases hj : (-(2 ^ 62) ≤ i ∧ i < 2 ^ 62 ∧ -(2 ^ 62) ≤ j ∧ j < 2 ^ 62)
    · rw [if_pos hj] at e4
      cases e4
      exact ⟨ρ, _, hs, e1, fun v H1 s1 i1 => ⟨ρ, _, hs.same s1, e3, fun v' H2 s2 i2 => ⟨i, j, by rw [IsD.int_iff.mp i1, IsD.int_iff.mp i2], hj, k _ H2 (s1.trans s2) (walks_range i _ H2)⟩⟩⟩
    · rw [if_neg hj] at e4; cases e4
def forD (bd : BD) (g : Rho → Option Out) : List PyData → Rho → Option Out
  | [], ρ => some (.nx ρ)
  | d :: ds, ρ => ((bd d ρ).bind g).bind fun o => match o with
    | .nx ρ' => forD bd g ds ρ'
    | .ct ρ' => forD bd g ds ρ'
    | .bk ρ' => some (.nx ρ')
    | .rt d => some (.rt d)
def sFor (q : Rho → Option (List PyData)) (bd : BD) (g : Rho → Option Out) : Rho → Option Out := fun ρ => (q ρ).bind fun ds => forD bd g ds ρ
theorem pds_for {tg iter : Expr} {body : List Stmt} {q : Rho → Option (List PyData)} {bd : BD} (hp : PassesOwn (model X.prog X.w) X.A X.env X.xe) (hc : X.calm = true) (hi : PDI X tg iter q) (hg : PDG X tg bd) (hb : PDSs X body g)
    (hs : ∀ x, foldedSetIterable iter X.env x = pure x := by intro _; rfl) : PDS X (.For tg iter body [] pos) (sFor q bd g) :=
  PS.imp (ps_for hp hc hi hg hb hs) fun D σ H ⟨ρ, o, hs, e, k⟩ => by
    obtain ⟨ds, e1, e2⟩ := bind_some e
    refine ⟨ρ, ds, hs, e1, fun J H1 s1 w => ?_⟩
    refine ⟨fun i m σ' H' => m = ds.length - i ∧ i ≤ ds.length ∧ Same H1 H' ∧ ∃ ρ', HasD X.K H' σ' ρ' ∧ forD bd g (ds.drop i) ρ' = some o, ⟨ds.length, by simp, Nat.zero_le _, .refl _, ρ, hs.same s1, by simpa using e2⟩, ?_⟩
    rintro i m σ' H' ⟨rfl, hi, s2, ρ', hs', e3⟩
    obtain ⟨w1, w2⟩ := w H' s2
    by_cases hlt : i < ds.length
    · right
      have hd : ds[i]? = some ds[i] := List.getElem?_eq_getElem hlt
      obtain ⟨w3, w4⟩ := w2 i _ hd
      rw [List.drop_eq_getElem_cons hlt] at e3
      unfold forD at e3
      obtain ⟨o1, e4, e5⟩ := bind_some e3
      obtain ⟨ρ1, e6, e7⟩ := bind_some e4
      refine ⟨w3, fun σ3 H3 => Same H' H3 ∧ ∃ ρ3, HasD X.K H3 σ3 ρ3 ∧ forD bd g (ds.drop (i + 1)) ρ3 = some o, fun σ3 H3 ⟨s3, ρ3, h3, e8⟩ => ⟨ds.length - (i + 1), by omega, rfl, hlt, s2.trans s3, ρ3, h3, e8⟩, fun x H2 y => ?_⟩
      obtain ⟨s4, i4⟩ := w4 x H2 y
      refine ⟨ρ', ds[i], ρ1, hs'.same s4, i4, e6, fun σ5 H5 s5 h5 => ⟨ρ1, o1, h5, e7, ?_⟩⟩
      cases o1 with
      | nx ρ3 => exact fun σ6 H6 s6 h6 => ⟨s4.trans (s5.trans s6), ρ3, h6, e5⟩
      | ct ρ3 => exact fun σ6 H6 s6 h6 => ⟨s4.trans (s5.trans s6), ρ3, h6, e5⟩
      | bk ρ3 =>
        cases e5
        exact fun σ6 H6 s6 h6 => k σ6 H6 (s1.trans (s2.trans (s4.trans (s5.trans s6)))) h6
      | rt d =>
        cases e5
        exact KD.later k (s1.trans (s2.trans (s4.trans s5)))
    · have e8 : i = ds.length := by omega
      subst e8
      rw [List.drop_length] at e3
      cases e3
      exact .inl ⟨w1, k σ' H' (s1.trans s2) hs'⟩
end

/-! ### a def that is a function of its data -/
def spD (K : PySem.W.Frag) (n : Nat) (f : List PyData → Option PyData) : Sp := fun vs H Q _ => ∃ ds d, IsDs K H ds vs ∧ ds.length = n ∧ f ds = some d ∧ KD K H d Q
section
variable {X : Cx} {k : Nat} {fa : Addr} {fd : FuncData} {ps : List Str} {f : List PyData → Option PyData} {x : Str} {p pos : Pos} {e : Expr} {es : List Expr} {ff : Rho → Option (List PyData)}
def dFn (n : Nat) (f : List PyData → Option PyData) (ff : Rho → Option (List PyData)) : Rho → Option PyData := fun ρ => (ff ρ).bind fun ds => if ds.length = n then f ds else none
theorem pd_call {n : Nat} (F : FnOk X.prog X.w X.K X.mg X.base CX0 k fa fd ps (spD X.K n f)) (hr : Room k X.A) (hg : Gl X x) (hm : X.mg x = some (.ref fa)) (hk : PySem.W.keepIn X.K (.ref fa) = true) (hb : Binds X.K fd ps [])
    (ha : PDA X (e :: es) ff) (hdb : (x == ("__debug__" : Str)) = false := by decide) (he : starEach (e :: es) X.env = (false, eval e X.env) :: starEach es X.env := by rfl) (hpl : (backTo pos (starEach es X.env)).any (·.1) = false := by rfl) :
    PD X (.Call (.Name x p) (e :: es) [] pos) (dFn n f ff) :=
  PE.imp (pe_call F hr hg hm hk hb .nil pass0 ha hdb he hpl) fun σ H Q ⟨ρ, d, hs, e, k⟩ => by
    obtain ⟨ds, e1, e2⟩ := bind_some e
    by_cases hl : ds.length = n
    · rw [if_pos hl] at e2
      exact ⟨ρ, ds, hs, e1, fun vs H1 s1 i1 => ⟨ds, d, by rw [List.append_nil]; exact i1, hl, e2, k.later s1⟩⟩
    · rw [if_neg hl] at e2; cases e2
def startD (N : List Str) (ds : List PyData) : Rho := ds.map some ++ List.replicate (N.length - ds.length) none
theorem hasD_start {K : PySem.W.Frag} {H : Hp} {N : List Str} {vs : List V} {ds : List PyData} (h : IsDs K H ds vs) : HasD K H (start N vs) (startD N ds) := by
  have hl := h.length
  refine ⟨by simp [start, startD, hl], fun i d q => ?_⟩
  unfold startD at q
  by_cases hi : i < ds.length
  · rw [List.getElem?_append_left (by simpa using hi), List.getElem?_map] at q
    obtain ⟨d', e1, e2⟩ := Option.map_eq_some_iff.mp q
    cases e2
    obtain ⟨v, e3, e4⟩ := h.get e1
    refine ⟨v, ?_, e4⟩
    unfold start
    rw [List.getElem?_append_left (by simpa using (by omega : i < vs.length)), List.getElem?_map, e3]
    rfl
  · rw [List.getElem?_append_right (by simpa using hi), List.getElem?_replicate] at q
    split at q <;> cases q
def runD (N : List Str) (g : Rho → Option Out) : List PyData → Option PyData := fun ds => (g (startD N ds)).bind fun o => match o with
  | .rt d => some d
  | .nx _ => some .none
  | _ => none
theorem fn_pure {P : Program} {w : World} {K : PySem.W.Frag} {mg : Str → Option Value} {base : Heap} {x qual : Str} {st : Stmt} {N ps : List Str} {k n : Nat} {g : Rho → Option Out} (F : Fun K x qual st fa fd) (S : FnScope N ps (defScope st)) (hn : n = ps.length)
    (hbody : ∀ (cdv : Value) (A : Around) (outer : List Env) (s : Shared) (H : Hp) (E : XK), Room k (A.deeper (envOfC qual (defScope st) s.heap.objs.size fa cdv)) →
      PDSs (cxOf CX0 P w K mg base N qual (defScope st) fa cdv A outer s H E).nox (defBody st) g) : FnOk P w K mg base CX0 (k + 1) fa fd ps (spD K n (runD N g)) := by
  refine F.ok S (fun vs H Q E ⟨ds, d, i, l, _⟩ => by rw [← i.length, l, hn]) fun cdv A outer s H vs Q E hr ⟨ds, d, i, l, e, k⟩ => ⟨_, hbody cdv A outer s H E hr, ?_⟩
  obtain ⟨o, e1, e2⟩ := bind_some e
  refine ⟨startD N ds, o, hasD_start i, e1, ?_⟩
  cases o with
  | rt d' => cases e2; exact k
  | nx ρ' => cases e2; exact fun σ H' s' _ => k .non H' s' (IsD.none_iff.mpr rfl)
  | bk _ => cases e2
  | ct _ => cases e2
end
end L2

end
section
set_option Elab.async false
set_option linter.all false
set_option maxRecDepth 100000
set_option maxHeartbeats 1000000
namespace Att
open PySem PySem.W PySem.Calls PyProof.Rows
theorem attach_callB {l : OpenLaw} {n : Nat} {q : Program} {loose : List Str} {XP : (Str → Option Value) → Heap → Prop} {YP : World → Heap → Prop} {d : DefRec}
    (hn : l.most = some n) (hdf : d.params.defaults = [])
    (call : ∀ (w : World) (s₀ s₁ : Shared) (mg mb : Str → Option Value) (fa : Addr) (o : Obj) (pm cd doc : Value) (a : Addr) (vs : List Value) (ns : List Int),
      Ground q loose [] XP w s₀ mg mb s₁.heap → YP w s₁.heap →
      s₁.heap.get? fa = some o → o.data = .func (docDef d.name d.params d.body d.scope pm cd doc) → s₁.heap.CodeRec cd d.name → mg d.name = some (.ref fa) →
      s₁.heap.get? a = some { cls := .type "list", data := .seq vs.toArray } → IntsAre vs ns → ns.length ≤ n → (∀ x ∈ ns, L2.okBits x = true) → s₁.gens = #[] →
      codeAny (model l.prog w) callerA (.call (.ref fa) ⟨[.ref a], []⟩) (fun r s' => r = .ok (.ret (.bool true)) ∧ OldK s₁.heap s'.heap ∧ s'.os = s₁.os ∧ AllBare s'.gens) s₁) :
    WalkO q loose XP YP l.row.toRowW d [] (fun f vs => PySem.call f vs) := by
  intro w s₀ s₁ mg mb G Y fa o pm cd doc dV kV ho hd hcd hD hmg hg args vals as hpre hlay hrd hwl hlo
  obtain rfl : dV = .none := Dflts.none hD hdf
  obtain rfl : kV = .none := Dflts.noKw hD
  obtain ⟨a, vs, ns, rfl, rfl, hobj, hints, hlen⟩ := script_of hn hpre hwl
  have hbits : ∀ x ∈ ns, L2.okBits x = true := fun x hx => by
    have h1 := layableW_arg hlay (WData.list (ns.map WData.int)) (by simp)
    have h2 := layable_int (layableW_item h1 (.int x) (List.mem_map.mpr ⟨x, hx, rfl⟩))
    have h3 : (PyData.int x).layable = decide (Builtin.Int.intBits x ≤ 1048576) := by simp [PyData.layable, PyData.canLay, PyData.depth, PyData.weight, Builtin.Int.intBits]
    rw [h3] at h2
    exact h2
  refine enter_call (codeAny_mono (call w s₀ s₁ mg mb fa o pm cd doc a vs ns G Y ho (fd_plain hd) hcd hmg hobj hints hlen hbits hg) fun r s' hq => ?_)
  obtain ⟨rfl, h2, h3, h4⟩ := hq
  exact ⟨.inl ⟨.bool true, .bool true, [], rfl, fun _ => rfl, .bool true, post_true l _, fun _ => ⟨List.Pairwise.nil, fun _ hm => (nomatch hm)⟩⟩, h2, h3, h4⟩
end Att
namespace L2
open PySem PySem.Spec PyProof.Rows
theorem isDs_ints {K : PySem.W.Frag} {H : Hp} : ∀ ns : List Int, IsDs K H (ns.map PyData.int) (ns.map V.int)
  | [] => IsDs.nil
  | n :: ns => IsDs.cons (IsD.int_iff.mpr rfl) (isDs_ints ns)
/-- a def of the text, ready to be called: its name, its room, how many parameters, its function of data -/
structure Own (P : Program) (w : World) (K : PySem.W.Frag) (mg : Str → Option Value) (base : Heap) (x : Str) (k n : Nat) (f : List PyData → Option PyData) : Prop where
  ex : ∃ a fd ps, FnOk P w K mg base CX0 k a fd ps (spD K n f) ∧ mg x = some (.ref a) ∧ PySem.W.keepIn K (.ref a) = true ∧ Binds K fd ps []
section
variable {X : Cx} {f : List PyData → Option PyData} {x : Str} {p pos : Pos} {e : Expr} {es : List Expr} {ff : Rho → Option (List PyData)} {j k n : Nat}
theorem pd_own (O : Own X.prog X.w X.K X.mg X.base x j n f) (hr : Room k X.A) (hg : Gl X x) (ha : PDA X (e :: es) ff) (hj : j ≤ k := by decide) (hdb : (x == ("__debug__" : Str)) = false := by decide)
    (he : starEach (e :: es) X.env = (false, eval e X.env) :: starEach es X.env := by rfl) (hpl : (backTo pos (starEach es X.env)).any (·.1) = false := by rfl) : PD X (.Call (.Name x p) (e :: es) [] pos) (dFn n f ff) := by
  obtain ⟨a, fd, ps, F, m, kp, b⟩ := O.ex
  exact pd_call (F.mono hj) hr hg m kp b ha hdb he hpl
end
/-- the whole: a law's def that is a function of its data, and gives True -/
theorem walk_data {l : PySem.W.OpenLaw} {n k : Nat} {q : Program} {loose : List Str} {XP : (Str → Option Value) → Heap → Prop} {YP : World → Heap → Prop} {d : DefRec} {K : Params → PySem.W.Frag} {x : Str} {f : List PyData → Option PyData}
    (hn : l.most = some n) (hn2 : n ≤ sizeLine) (hdf : d.params.defaults = []) (hr : Room k callerA)
    (hY : ∀ (w : World) (h : Heap), YP w h → (K w.params).In h)
    (F : ∀ (w : World) (mg : Str → Option Value) (fa : Addr) (h : Heap), (K w.params).In h → h.Ns mainGlobals mg → mg d.name = some (.ref fa) →
      ∃ fd : FuncData, (∀ (s : Shared) (u : Value), BindsTo s fd ⟨[u], []⟩ [(x, u)]) ∧
        ∀ base : Heap, (K w.params).In base → base.Ns mainGlobals mg → FnOk l.prog w (K w.params) mg base CX0 k fa fd [x] (spD (K w.params) 1 f))
    (hf : ∀ ns : List Int, ns.length ≤ n → (∀ x ∈ ns, okBits x = true) → f [.list (ns.map .int)] = some (.bool true)) :
    PySem.W.WalkO q loose XP YP l.row.toRowW d [] (fun f vs => PySem.call f vs) := by
  refine Att.attach_callB hn hdf fun w s₀ s₁ mg mb fa o pm cd doc a vs ns G Y ho hd hcd hmg hobj hints hlen hbits hg => ?_
  have KX := hY w _ Y
  obtain ⟨fd, hb, hF⟩ := F w mg fa _ KX G.T.g hmg
  refine law_call KX G.T.g G.T.b G.T.builtins G.T.nolimit hg hobj hints (Nat.le_trans hlen hn2) hr hF hb (fun H hO hS => ?_) fun H e s' z => z
  exact ⟨[.list (ns.map .int)], .bool true, IsDs.cons (IsD.list_iff.mpr ⟨a, _, rfl, hS, isDs_ints ns⟩) IsDs.nil, rfl, hf ns hlen hbits, fun v H' _ i => IsD.bool_iff.mp i⟩
end L2

end
section
set_option Elab.async false
set_option linter.all false
set_option maxRecDepth 100000
set_option maxHeartbeats 1000000
namespace L2
open PySem
/-! ### mathematics of data -/
theorem toNat_inj {a b : Char} (h : a.toNat = b.toNat) : a = b := Char.toNat_inj.mp h
theorem map_toNat_inj : ∀ {a b : List Char}, a.map Char.toNat = b.map Char.toNat → a = b
  | [], [], _ => rfl
  | [], _ :: _, h => by simp at h
  | _ :: _, [], h => by simp at h
  | a :: as, b :: bs, h => by
    rw [List.map_cons, List.map_cons] at h
    injection h with h1 h2
    rw [toNat_inj h1, map_toNat_inj h2]
theorem ofString_inj {a b : String} (h : Str.ofString a = Str.ofString b) : a = b := by
  rw [Str.ofString_eq_toList, Str.ofString_eq_toList] at h
  injection h with h
  have h2 := congrArg Array.toList h
  simp only [List.toList_toArray] at h2
  exact String.toList_inj.mp (map_toNat_inj h2)
theorem beq_ofString (a b : String) : (Str.ofString a == Str.ofString b) = (a == b) := by
  by_cases h : a = b
  · subst h; simp
  · have h' : ¬ Str.ofString a = Str.ofString b := fun z => h (ofString_inj z)
    rw [beq_eq_false_iff_ne.mpr h', beq_eq_false_iff_ne.mpr h]
theorem eq_ofString (a b : String) : (Str.ofString a = Str.ofString b) = (a = b) := propext ⟨ofString_inj, fun h => by rw [h]⟩
theorem strOk_ofString (a : String) : PyData.strOk (Str.ofString a) = true := by
  rw [Str.ofString_eq_toList]
  unfold PyData.strOk
  simp only [Array.all_eq_true', List.mem_toArray, List.mem_map]
  rintro x ⟨c, _, rfl⟩
  have := c.valid
  simp only [decide_eq_true_eq]
  have h2 : c.toNat < 1114112 := by
    rcases c.valid with h | h
    · have : c.toNat < 55296 := h
      omega
    · exact h.2
  exact h2
end L2

end
section
set_option Elab.async false
set_option linter.all false
set_option maxRecDepth 100000
set_option maxHeartbeats 1000000
namespace L2
open PySem PySem.Spec PyProof.Rows

/-! ### a list comprehension over data: [elt for x in iter if c] -/
def clOf (env : Env) (scope : Scope) : List (Str × Addr) := (scope.names.filterMap fun p => if p.2 == NameKind.free then (env.cells.lookup p.1).map fun a => (p.1, a) else none).reverse
theorem closure_loop (env : Env) : ∀ (names : List (Str × NameKind)) (acc : List (Str × Addr)), (∀ p ∈ names, p.2 = .free → ∃ c, env.cells.lookup p.1 = some c) →
    (forIn names acc fun p cs => (if (p.2 == NameKind.free) = true then do let c ← cellOf env p.1; pure (ForInStep.yield ((p.1, c) :: cs)) else pure (ForInStep.yield cs) : Sem (ForInStep (List (Str × Addr))))) =
      pure ((names.filterMap fun p => if p.2 == NameKind.free then (env.cells.lookup p.1).map fun a => (p.1, a) else none).reverse ++ acc)
  | [], acc, _ => rfl
  | p :: r, acc, h => by
    have ih := fun acc => closure_loop env r acc fun q hq => h q (List.mem_cons_of_mem _ hq)
    rw [List.forIn_cons]
    by_cases hp : p.2 = .free
    · obtain ⟨c, hc⟩ := h p List.mem_cons_self hp
      have e : (p.2 == NameKind.free) = true := by rw [hp]; rfl
      rw [if_pos e]
      have e2 : cellOf env p.1 = pure c := by unfold cellOf; rw [hc]
      rw [e2]
      simp only [pure_bind]
      rw [ih, List.filterMap_cons, if_pos e, hc]
      simp
    · have e : (p.2 == NameKind.free) = false := by simpa using hp
      rw [if_neg (by rw [e]; exact Bool.false_ne_true)]
      simp only [pure_bind]
      rw [ih, List.filterMap_cons, if_neg (by rw [e]; exact Bool.false_ne_true)]
theorem closureFor_of {scope : Scope} {env : Env} (h : ∀ p ∈ scope.names, p.2 = .free → ∃ c, env.cells.lookup p.1 = some c) : closureFor scope env = pure (clOf env scope) := by
  have e := closure_loop env scope.names [] h
  unfold closureFor clOf
  rw [List.append_nil] at e
  have e2 : (forIn scope.names ([] : List (Str × Addr)) fun x cs => (match x with | (name, kind) => do if (kind == NameKind.free) = true then do let c ← cellOf env name; pure (ForInStep.yield ((name, c) :: cs)) else pure (ForInStep.yield cs) : Sem (ForInStep (List (Str × Addr))))) = _ := e
  first
    | (simp only [bind_pure] ; exact e2)
    | (show (forIn scope.names ([] : List (Str × Addr)) _ >>= fun cs => pure cs) = _
       rw [bind_pure]
       exact e2)
theorem clOf_mem {env : Env} {scope : Scope} {x : Str} {c : Addr} (h : (x, c) ∈ clOf env scope) : env.cells.lookup x = some c ∧ (x, NameKind.free) ∈ scope.names := by
  unfold clOf at h
  rw [List.mem_reverse, List.mem_filterMap] at h
  obtain ⟨⟨n, k⟩, hm, e⟩ := h
  by_cases hk : (k == NameKind.free) = true
  · rw [if_pos hk] at e
    obtain ⟨a, e1, e2⟩ := Option.map_eq_some_iff.mp e
    cases e2
    have : k = .free := eq_of_beq hk
    subst this
    exact ⟨e1, hm⟩
  · rw [if_neg hk] at e; cases e
theorem clOf_lookup {env : Env} {scope : Scope} {x : Str} {c : Addr} (h : (clOf env scope).lookup x = some c) : env.cells.lookup x = some c := (clOf_mem (PySem.mem_of_lookup h)).1
theorem lookup_of_mem {α : Type} {x : Str} {c : α} : ∀ {l : List (Str × α)}, (x, c) ∈ l → ∃ d, l.lookup x = some d
  | [], h => by cases h
  | (n, a) :: r, h => by
    by_cases e : x = n
    · subst e; exact ⟨a, by simp⟩
    · rcases List.mem_cons.mp h with h | h
      · cases h; exact absurd rfl e
      · obtain ⟨d, hd⟩ := lookup_of_mem h
        exact ⟨d, by rw [List.lookup_cons, beq_eq_false_iff_ne.mpr e]; exact hd⟩
theorem clOf_has {env : Env} {scope : Scope} {x : Str} {c : Addr} (hm : (x, NameKind.free) ∈ scope.names) (hc : env.cells.lookup x = some c) : (clOf env scope).lookup x = some c := by
  have : (x, c) ∈ clOf env scope := by
    unfold clOf
    rw [List.mem_reverse, List.mem_filterMap]
    exact ⟨(x, .free), hm, by rw [if_pos (by rfl), hc]; rfl⟩
  obtain ⟨d, hd⟩ := lookup_of_mem this
  have e := clOf_lookup hd
  rw [hc] at e; cases e
  exact hd
theorem relabel_mem {scope : Scope} {env : Env} {x : Str} {k : NameKind} (h : (relabel scope env).names.lookup x = some k) : (x, k) ∈ scope.names ∨ (k = .cell ∧ (x, NameKind.free) ∈ scope.names) := by
  have hm := PySem.mem_of_lookup h
  unfold relabel at hm
  obtain ⟨⟨n, k'⟩, h1, h2⟩ := List.mem_map.mp hm
  dsimp only at h2
  split at h2
  · rename_i hc
    cases h2
    simp only [Bool.and_eq_true, beq_iff_eq] at hc
    obtain ⟨⟨rfl, _⟩, _⟩ := hc
    exact .inr ⟨rfl, h1⟩
  · cases h2; exact .inl h1
theorem relabel_free {env : Env} : ∀ {names : List (Str × NameKind)} {x : Str}, names.lookup x = some .free →
    (names.map fun (n, k) => if (k == NameKind.free && env.scope.kind == .function && env.kindOf n == some .cell) then (n, NameKind.cell) else (n, k)).lookup x = some .cell ∨
    (names.map fun (n, k) => if (k == NameKind.free && env.scope.kind == .function && env.kindOf n == some .cell) then (n, NameKind.cell) else (n, k)).lookup x = some .free
  | [], _, h => by simp at h
  | (n, k) :: r, x, h => by
    have ih := @relabel_free env r x
    rw [List.map_cons]
    dsimp only
    cases hx : x == n with
    | true =>
      simp only [List.lookup_cons, hx] at h
      cases h
      split
      · exact .inl (by simp [List.lookup_cons, hx])
      · exact .inr (by simp [List.lookup_cons, hx])
    | false =>
      simp only [List.lookup_cons, hx] at h
      split
      · simp only [List.lookup_cons, hx]; exact ih h
      · simp only [List.lookup_cons, hx]; exact ih h

/-- the context within a comprehension -/
def cxIn (X : Cx) (scope : Scope) (C : Addr) (N : List Str) (s : Shared) (H : Hp) (fp : List Addr) : Cx where
  prog := X.prog
  w := X.w
  K := X.K
  mg := X.mg
  base := X.base
  A := X.A
  N := N
  s₀ := s
  H₀ := H
  env := compEnvC scope (clOf X.env scope) C X.env
  outer := X.stack
  stack := X.stack
  ex := fp
  fn := fun _ => false
  calm := true
  pn := []
  xe := fun _ _ => False
/-- what a comprehension takes from around it: the slot there, the name -/
def CapsOk (X : Cx) (scope : Scope) : List (Nat × Str) → Prop
  | [] => True
  | (j, y) :: r => (X.N[j]? = some y ∧ (X.env.kindOf y = some .cell ∨ X.env.kindOf y = some .free) ∧ scope.names.lookup y = some .free) ∧ CapsOk X scope r
theorem CapsOk.at {X : Cx} {scope : Scope} : ∀ {caps : List (Nat × Str)}, CapsOk X scope caps → ∀ {i : Nat} {j : Nat} {y : Str}, caps[i]? = some (j, y) → X.N[j]? = some y ∧ (X.env.kindOf y = some .cell ∨ X.env.kindOf y = some .free) ∧ scope.names.lookup y = some .free
  | [], _, _, _, _, h => by simp at h
  | (_, _) :: _, hc, 0, _, _, h => by simp at h; obtain ⟨rfl, rfl⟩ := h; exact hc.1
  | (_, _) :: _, hc, i + 1, _, _, h => CapsOk.at hc.2 (i := i) (by simpa using h)
def capV (caps : List (Nat × Str)) (σ : St) : St := caps.map fun p => (σ[p.1]?).join
def capD (caps : List (Nat × Str)) (ρ : Rho) : Rho := caps.map fun p => (ρ[p.1]?).join
structure ScopeIn (scope : Scope) (x : Str) : Prop where
  kind : scope.kind = .function
  nocell : ∀ y ∈ scope.names, y.2 ≠ .cell
  loc : ∀ y ∈ scope.names, y.2 = .local → scope.names.lookup y.1 = some .local
  var : scope.names.lookup x = some .local
  /-- every free name has a cell around -/
  has : True := True.intro

section
variable {X : Cx} {pins : List (Addr × Obj)} {σ : St} {H : Hp} {s : Shared}
/-- inside, at the start: s the state ahead of the block, D the new list, C the block's frame -/
theorem inv_in {scope : Scope} {x : Str} {caps : List (Nat × Str)} {fp : List Addr} {C : Addr} {s' : Shared} (I : Inv X pins σ H s) (hc : X.calm = true) (S : ScopeIn scope x) (hcl : ∀ p ∈ scope.names, p.2 = .free → ∃ c, X.env.cells.lookup p.1 = some c) (hcap : CapsOk X scope caps)
    (hf : ∀ b ∈ fp, FpOk X pins H b) (hfo : ∀ b ∈ fp, ∃ o, s.heap.get? b = some o) (hC : s.heap.objs.size ≤ C) (k : ∀ b o, s.heap.get? b = some o → s'.heap.get? b = some o) (hns : s'.heap.Ns C fun _ => none) (hos : s'.os = s.os) (hg : AllBare s'.gens) :
    Inv (cxIn X scope C (x :: caps.map (·.2)) s H fp) [] (none :: capV caps σ) H s' := by
  have hpar : ∀ b, b ∈ (cxIn X scope C (x :: caps.map (·.2)) s H fp).fs → b ∈ X.env.locals :: X.fs := fun b hb => I.stkSub b hb
  refine ⟨⟨I.ok.mod, S.kind, I.ok.glob, I.ok.blt, hC, fun y z c e1 e2 => I.ok.inj y z c (clOf_lookup e1) (clOf_lookup e2), fun y hy => ?_, fun y c h => (by cases h), fun _ => I.ok.hd hc, I.ok.frames, .inl rfl, fun b hb => ?_, I.bs, Nat.le_trans I.ok.bsz I.sz, fun b o e hb => ?_, fun b hb hb2 => ?_, I.stack, I.stkFree⟩,
    hos, hg, Un.kept k, ⟨_, hns, fun i y v e1 e2 e3 => ?_⟩, fun y c e => ?_, I.hok.fresh hC, fun y c e => I.freeC y c (clOf_lookup e), fun p hp => ?_, I.hok.kept k, ?_⟩
  · have hy' : (relabel scope X.env).names.lookup y = some .cell ∨ (relabel scope X.env).names.lookup y = some .free := hy
    have hm : (y, NameKind.free) ∈ scope.names := by
      rcases hy' with h | h
      · rcases relabel_mem h with h | ⟨_, h⟩
        · exact absurd rfl (S.nocell _ h)
        · exact h
      · rcases relabel_mem h with h | ⟨h, _⟩
        · exact h
        · cases h
    obtain ⟨c, hc⟩ := hcl _ hm rfl
    exact ⟨c, clOf_has hm hc⟩
  · obtain ⟨f0, f1, f2, f3, f4, f5⟩ := hf b hb
    obtain ⟨o, ho⟩ := hfo b hb
    refine ⟨?_, fun y c e => f4 y c (clOf_lookup e)⟩
    show b ≠ C
    exact Nat.ne_of_lt (Nat.lt_of_lt_of_le (Heap.lt_size ho) hC)
  · obtain ⟨f0, f1, f2, f3, f4, f5⟩ := hf b hb
    have hb1 := I.bs b o e
    rcases f3 with h | h
    · exact I.ok.noex b o e h
    · have := (I.ok.bs b o e).1
      exact absurd (Nat.lt_of_lt_of_le (Heap.lt_size this) h) (Nat.lt_irrefl _)
  · obtain ⟨f0, f1, f2, f3, f4, f5⟩ := hf b hb
    rcases List.mem_cons.mp (hpar b hb2) with h | h
    · exact f1 h
    · exact f2 h
  · cases i with
    | zero => simp at e2
    | succ i =>
      have e1' : (caps.map (·.2))[i]? = some y := by simpa [cxIn] using e1
      have e2' : (capV caps σ)[i]? = some (some v) := by simpa using e2
      rw [List.getElem?_map] at e1'
      obtain ⟨⟨j, y'⟩, e4, e5⟩ := Option.map_eq_some_iff.mp e1'
      dsimp only at e5
      subst e5
      unfold capV at e2'
      rw [List.getElem?_map, e4] at e2'
      have e6 : (σ[j]?).join = some v := by simpa using e2'
      have e7 : σ[j]? = some (some v) := by
        cases q : σ[j]? with
        | none => rw [q] at e6; cases e6
        | some o => rw [q] at e6; cases o with
          | none => cases e6
          | some v' => cases e6; rfl
      obtain ⟨c1, c2, c3⟩ := hcap.at e4
      obtain ⟨m, hn, hl⟩ := I.loc
      have hv : Vis X.env.scope y' := by
        rcases c2 with h | h
        · exact .inr (.inl h)
        · exact .inr (.inr h)
      obtain ⟨u, r, l⟩ := hl j y' v c1 e7 hv
      refine ⟨u, r, .inr ⟨?_, ?_⟩⟩
      · exact relabel_free c3
      · rcases l with ⟨hk, _⟩ | ⟨_, c, hc, hcell⟩
        · rcases c2 with h | h
          · rw [hk] at h; cases h
          · rw [hk] at h; cases h
        · refine ⟨c, clOf_has (PySem.mem_of_lookup c3) hc, ?_⟩
          obtain ⟨o, ho, hd⟩ := hcell
          exact ⟨o, k _ _ ho, hd⟩
  · obtain ⟨v, o, ho, hd⟩ := I.cell y c (clOf_lookup e)
    exact ⟨v, o, k _ _ ho, hd⟩
  · exact absurd (show p ∈ ([] : List (Addr × Obj)) from hp) (by simp)
  · show (none :: capV caps σ).length = (x :: caps.map (·.2)).length
    simp [capV]

/-- the tests of a comprehension -/
def PTs (X : Cx) (ifs : List Expr) (t : TT) : Prop :=
  ∀ (pins : List (Addr × Obj)) (s : Shared) (σ : St) (H : Hp) (Q : Bool → Hp → Prop), Inv X pins σ H s → t σ H Q →
    wpAny (model X.prog X.w) X.A (forIn ifs true fun c r => if r = true then do let ok ← isTrue c X.env (eval c X.env); pure (ForInStep.yield ok) else pure (ForInStep.yield r)) (TP X pins σ Q) X.xe s
def PDTs (X : Cx) (ifs : List Expr) (g : Rho → Option Bool) : Prop := PTs X ifs (tDT X.K g)
theorem pdts_nil : PDTs X [] (fun _ => some true) := fun pins s σ H Q I ⟨ρ, b, hs, e, k⟩ => by
  cases e
  rw [List.forIn_nil]
  exact wpAny_pure ⟨H, I, k H (.refl H)⟩
theorem pdts_one {c : Expr} {g : Rho → Option Bool} (h : PDT X c g) : PDTs X [c] g := fun pins s σ H Q I q => by
  rw [List.forIn_cons]
  rw [if_pos rfl]
  refine wpAny_bind (wpAny_bind (thn (h pins s σ H Q I q) fun b s1 q1 => wpAny_pure ?_))
  show wpAny _ _ (forIn ([] : List Expr) b _) _ _ s1
  rw [List.forIn_nil]
  exact wpAny_pure q1
def compD (g : Rho → Option Bool) (f : Rho → Option PyData) (ρc : Rho) : List PyData → Option (List PyData)
  | [] => some []
  | d :: ds => (g (some d :: ρc)).bind fun b => if b then (f (some d :: ρc)).bind fun y => (compD g f ρc ds).bind fun ys => some (y :: ys) else compD g f ρc ds
def dComp (q : Rho → Option (List PyData)) (caps : List (Nat × Str)) (g : Rho → Option Bool) (f : Rho → Option PyData) : Rho → Option PyData := fun ρ =>
  (q ρ).bind fun ds => if ds.length ≤ sizeLine then (compD g f (capD caps ρ) ds).map .list else none
theorem compD_length {g : Rho → Option Bool} {f : Rho → Option PyData} {ρc : Rho} : ∀ {ds ys : List PyData}, compD g f ρc ds = some ys → ys.length ≤ ds.length
  | [], ys, h => by cases h; exact Nat.le_refl _
  | d :: ds, ys, h => by
    unfold compD at h
    obtain ⟨b, _, h⟩ := bind_some h
    cases b with
    | false =>
      rw [if_neg Bool.false_ne_true] at h
      have := compD_length h
      simp; omega
    | true =>
      rw [if_pos rfl] at h
      obtain ⟨y, _, h⟩ := bind_some h
      obtain ⟨zs, h2, h⟩ := bind_some h
      cases h
      have := compD_length h2
      simp; omega
theorem HasD.cap {K : PySem.W.Frag} {H : Hp} {σ : St} {ρ : Rho} (h : HasD K H σ ρ) (caps : List (Nat × Str)) (o : Option V) : HasD K H (o :: capV caps σ) (none :: capD caps ρ) := by
  refine ⟨by simp [capV, capD], fun i d q => ?_⟩
  cases i with
  | zero => simp at q
  | succ i =>
    have q' : (capD caps ρ)[i]? = some (some d) := by simpa using q
    unfold capD at q'
    rw [List.getElem?_map] at q'
    obtain ⟨⟨j, y⟩, e4, e5⟩ := Option.map_eq_some_iff.mp q'
    dsimp only at e5
    have e6 : ρ[j]? = some (some d) := by
      cases q : ρ[j]? with
      | none => rw [q] at e5; cases e5
      | some o => rw [q] at e5; cases o with
        | none => cases e5
        | some v' => cases e5; rfl
    obtain ⟨v, e7, e8⟩ := h.2 j d e6
    refine ⟨v, ?_, e8⟩
    show (capV caps σ)[i]? = some (some v)
    unfold capV
    rw [List.getElem?_map, e4]
    simp [e7]
/-- an untracked list of ours: its items by values -/
theorem compLoop_own {prog : Program} {w : World} {A : Around} {R : Result → Shared → Prop} {s : Shared} {elt target iter : Expr} {ifs : List Expr} {scope : Scope} {pos : Pos} {it acc : Value} {env : Env} (I : Nat → Shared → Prop)
    (turn : ∀ n s, I n s → wpAny (model prog w) A (pyNext it) (fun r s₁ => match r with
      | none => R (.ok .next) s₁
      | some v => wpAny (model prog w) A (letOwnedTupleGo target it v) (fun _ s₁ => wpAny (model prog w) A (assign target env v) (fun _ s₂ =>
          wpAny (model prog w) A (forIn ifs true fun c r => if r = true then do let ok ← isTrue c env (eval c env); pure (ForInStep.yield ok) else pure (ForInStep.yield r)) (fun ok s₃ =>
            if ok = true then wpAny (model prog w) A (eval elt env) (fun x s₄ =>
              wpAny (model prog w) A (call (.builtin "list.append") [acc, x]) (fun _ s₅ => ∃ m, m < n ∧ I m s₅) (fun _ _ => False) s₄) (fun _ _ => False) s₃
            else ∃ m, m < n ∧ I m s₃) (fun _ _ => False) s₂) (fun _ _ => False) s₁) (fun _ _ => False) s₁) (fun _ _ => False) s)
    (n : Nat) (h : I n s) :
    codeAny (model prog w) A (.compLoop (.ListComp elt [⟨target, iter, ifs, 0⟩] scope pos) 0 it acc env) R s := by
  refine codeAny_loop rfl I (fun n s hI => ?_) n h
  show wpAny _ A ((compTurn (.ListComp elt [⟨target, iter, ifs, 0⟩] scope pos) 0 it acc env).onRaise (fun x => do noteFrame x env; theTreesLotGoes x)) _ _ s
  refine wpAny_noted ?_
  rw [compTurn_list]
  refine wpAny_bind (wpAny_standAt (wpAny_bind (wpAny_mono (turn n s hI) (fun r s₁ h₁ => ?_) fun _ _ z => False.elim z)))
  cases r with
  | none => exact wpAny_pure h₁
  | some v =>
    refine wpAny_bind (wpAny_mono h₁ (fun _ s₁ h₁ => ?_) fun _ _ z => False.elim z)
    refine wpAny_bind (wpAny_mono h₁ (fun _ s₂ h₂ => wpAny_bind (wpAny_mono h₂ (fun ok s₃ h₃ => ?_) fun _ _ z => False.elim z)) fun _ _ z => False.elim z)
    cases ok with
    | false => exact wpAny_pure ⟨rfl, h₃⟩
    | true =>
      exact wpAny_bind (wpAny_bind (wpAny_mono h₃ (fun x s₄ h₄ => wpAny_bind (wpAny_mono h₄ (fun _ s₅ h₅ => wpAny_pure (wpAny_pure ⟨rfl, h₅⟩)) fun _ _ z => False.elim z)) fun _ _ z => False.elim z))
def LObj (its : List Value) (n : Nat) : Obj := { cls := .type "list", data := .seq its.toArray n }
/-- the block of a comprehension, up to its end: D the list, C the block's frame -/
def PCm (X : Cx) (e : Expr) (scope : Scope) (iter : Expr) (t : TE) : Prop :=
  ∀ (pins : List (Addr × Obj)) (s : Shared) (σ : St) (H : Hp) (Q : VK) (R : Value → Addr → Result → Shared → Prop), Inv X pins σ H s → t σ H Q →
    (∀ (D C : Addr) (s9 : Shared) (H9 : Hp) (oC : Obj) (m : Str → Option Value), Inv X ((C, oC) :: pins) σ H9 s9 → s9.heap.Ns C m → (∀ p ∈ X.pn ++ pins, p.1 ≠ C) → X.s₀.heap.objs.size ≤ C → Q (.ref D) H9 → R (.ref D) C (.ok .next) s9) →
    wpAny (model X.prog X.w) X.A (eval iter X.env) (fun xv s₁ => wpAny (model X.prog X.w) X.A (pyIter xv) (fun it s₂ => wpAny (model X.prog X.w) X.A (newList []) (fun acc s₃ =>
      wpAny (model X.prog X.w) X.A (newFunctionEnv scope X.env.globals (clOf X.env scope) [] X.env.qual none .none (some X.env)) (fun cenv s₄ =>
        codeAny (model X.prog X.w) X.A (.compStart e 0 it acc { cenv with scope := relabel scope X.env }) (R acc cenv.locals) s₄) X.xe s₃) X.xe s₂) X.xe s₁) X.xe s
theorem Inv.drop_pin {pins : List (Addr × Obj)} {σ : St} {H : Hp} {s : Shared} {C : Addr} {oC : Obj} {h' : Heap} (I : Inv X ((C, oC) :: pins) σ H s) (hp : ∀ p ∈ X.pn ++ pins, p.1 ≠ C) (hz : X.s₀.heap.objs.size ≤ C) (hs : Heap.SameBut C s.heap h') : Inv X pins σ H { s with heap := h' } := by
  have hC := I.pin (C, oC) (by simp)
  have J : Inv X pins σ H s := I.pins_of fun p hq => I.pin p (List.mem_append_right _ (List.mem_cons_of_mem _ hq))
  refine J.turned (t' := s.toks) (it := C) (fun b o hb e => (hs.2 b hb).trans e) hC.2.1 hC.2.2.1 (.inr hz) (fun y c e z => ?_) hp
  obtain ⟨v, o, ho, hd⟩ := J.cell y c e
  rw [z, hC.1] at ho
  cases ho
  exact hC.2.2.2.2 v hd
set_option maxHeartbeats 4000000 in
theorem pc_comp {elt iter : Expr} {x : Str} {px pos : Pos} {ifs : List Expr} {scope : Scope} {caps : List (Nat × Str)} {q : Rho → Option (List PyData)} {g : Rho → Option Bool} {f : Rho → Option PyData}
    (hc : X.calm = true) (S : ScopeIn scope x) (hcl : ∀ p ∈ scope.names, p.2 = .free → ∃ c, X.env.cells.lookup p.1 = some c) (hcap : CapsOk X scope caps) (hnd : (x :: caps.map (·.2)).Nodup)
    (hi : PDI X (.Name x px) iter q)
    (ht : ∀ C s H fp, PDTs (cxIn X scope C (x :: caps.map (·.2)) s H fp) ifs g)
    (he : ∀ C s H fp, PD (cxIn X scope C (x :: caps.map (·.2)) s H fp) elt f) : PCm X (.ListComp elt [⟨.Name x px, iter, ifs, 0⟩] scope pos) scope iter (tD X.K (dComp q caps g f)) := by
  intro pins s σ H Q R I ⟨ρ, d, hsD, e, k⟩ fin
  obtain ⟨ds, e1, e2⟩ := bind_some e
  have hz : ds.length ≤ sizeLine := by
    by_cases hz : ds.length ≤ sizeLine
    · exact hz
    · rw [if_neg hz] at e2; cases e2
  rw [if_pos hz] at e2
  obtain ⟨ys, e3, rfl⟩ := Option.map_eq_some_iff.mp e2
  refine thn (hi pins s σ H (fun J H' => Same H H' ∧ WalksD X.K J ds H') I ⟨ρ, ds, hsD, e1, fun J H' s' w => ⟨s', w⟩⟩) fun v sA hA => thn hA fun itv s2 ⟨it, fp, tn, J, H2, eit, I2, T, st2, f2, same2, wd⟩ => ?_
  subst eit
  have hsD2 := hsD.same same2
  refine wpAny_newObj_type (wpAny_newFunctionEnv S.nocell (by intro y hy; simp at hy) (fun h₁ hns₁ hsb₁ => ?_) S.kind)
  dsimp only at hns₁ hsb₁ ⊢
  generalize hH2 : s2.heap.push { cls := .type "list", dict := none, data := .seq ([] : List Value).toArray } = hp2 at hns₁ hsb₁ ⊢
  have hCs : hp2.objs.size = s2.heap.objs.size + 1 := by rw [← hH2, Heap.size_push]
  generalize hC : hp2.objs.size = C at hns₁ hsb₁ hCs ⊢
  generalize hD : s2.heap.objs.size = D at hCs ⊢
  have hDC : D ≠ C := by omega
  have hCle : s2.heap.objs.size ≤ C := by omega
  have old : ∀ b o, s2.heap.get? b = some o → h₁.get? b = some o := fun b o e => by
    have hb := Heap.lt_size e
    exact hsb₁.extBut b o (Nat.ne_of_lt (Nat.lt_of_lt_of_le hb hCle)) (Heap.get?_push_of_some _ (hH2 ▸ Heap.get?_push_of_some _ e))
  have hD1 : h₁.get? D = some (LObj [] 0) := by
    refine hsb₁.extBut _ _ hDC (Heap.get?_push_of_some _ (hH2 ▸ ?_))
    rw [← hD]
    exact Heap.get?_push_size _ rfl
  have hfo : ∀ b ∈ fp, ∃ o, s2.heap.get? b = some o := fun b hb => by
    obtain ⟨o, ho, _⟩ := T.obj 0 _ st2 b hb
    exact ⟨o, ho⟩
  have I3 : Inv (cxIn X scope C (x :: caps.map (·.2)) s2 H2 fp) [] (none :: capV caps σ) H2 { s2 with heap := h₁, toks := s2.toks + ([] : List (Str × Value)).length } :=
    inv_in I2 hc S hcl hcap f2 hfo hCle old hns₁ rfl I2.bare
  have fpD : ∀ b ∈ fp, b ≠ D ∧ b ≠ C := fun b hb => by
    obtain ⟨o, ho⟩ := hfo b hb
    have := Heap.lt_size ho
    exact ⟨Nat.ne_of_lt (hD ▸ this), Nat.ne_of_lt (Nat.lt_of_lt_of_le this hCle)⟩
  -- the loop's word
  have hDex : ∀ (X' : Cx), X' = cxIn X scope C (x :: caps.map (·.2)) s2 H2 fp → ∀ {G : Hp} {σ' : St} {s' : Shared} {its : List Value} {n : Nat}, Inv X' [(D, LObj its n)] σ' G s' →
      ∀ {t' : Nat} {h' : Heap} {its' : List Value} {n' : Nat}, (∀ b o, b ≠ D → s'.heap.get? b = some o → h'.get? b = some o) → h'.get? D = some (LObj its' n') → Inv X' [(D, LObj its' n')] σ' G { s' with heap := h', toks := t' } := by
    intro X' hX G σ' s' its n J1 t' h' its' n' kk hD'
    have hp := J1.pin (D, LObj its n) (by simp)
    have J2 : Inv X' [] σ' G s' := J1.pins_of fun p hp => by cases hp
    have J3 : Inv X' [] σ' G { s' with heap := h', toks := t' } := by
      refine J2.turned (it := D) (fun b o hb e => kk b o hb e) hp.2.1 hp.2.2.1 (.inr ?_) (fun y c e z => ?_) (fun p hp => ?_)
      · subst hX; show s2.heap.objs.size ≤ D; omega
      · obtain ⟨v, o, ho, hd⟩ := J2.cell y c e
        rw [z, hp.1] at ho
        cases ho
        have hd' : (LObj its n).data = .cell v := hd
        cases hd'
      · subst hX
        exact absurd (show p ∈ ([] : List (Addr × Obj)) ++ [] from hp) (by simp)
    refine J3.pins_of fun p hp2 => ?_
    have : p = (D, LObj its' n') := by simpa using hp2
    subst this
    exact ⟨hD', hp.2.1, hp.2.2.1, hp.2.2.2.1, fun v z => by
      have z' : (LObj its' n').data = .cell v := z
      cases z'⟩
  have hDfs : D ∉ frs X.stack := fun hb => by
    obtain ⟨_, o, ho, _⟩ := I2.stack.mem hb
    have := Heap.lt_size ho
    exact absurd this (by rw [hD]; exact Nat.lt_irrefl _)
  have I4 : Inv (cxIn X scope C (x :: caps.map (·.2)) s2 H2 fp) [(D, LObj [] 0)] (none :: capV caps σ) H2 { s2 with heap := h₁, toks := s2.toks + ([] : List (Str × Value)).length } := by
    refine I3.pins_of fun p hp => ?_
    have : p = (D, LObj [] 0) := by simpa using hp
    subst this
    exact ⟨hD1, I2.hok.fresh (by omega), hDC, hDfs, fun v z => by
      have z' : (LObj [] 0).data = .cell v := z
      cases z'⟩
  have st4 : tn 0 h₁ := T.keep 0 _ _ st2 fun b hb o e => old b o e
  let X' := cxIn X scope C (x :: caps.map (·.2)) s2 H2 fp
  have stat : ∀ {G : Hp} {pl : List (Addr × Obj)}, (∀ p ∈ pl, p.1 = D) → (∀ b ∈ fp, G b = none) → ∀ b ∈ fp, FpOk X' pl G b := fun {G pl} hpl hn b hb => by
    obtain ⟨f0, f1, f2', f3, f4, f5⟩ := f2 b hb
    refine ⟨hn b hb, (fpD b hb).2, fun z => ?_, .inl hb, fun y c e => f4 y c (clOf_lookup e), fun p hp z => ?_⟩
    · rcases List.mem_cons.mp (I2.stkSub b z) with h | h
      · exact f1 h
      · exact f2' h
    · have hp' : p ∈ pl := by simpa [X', cxIn] using hp
      exact (fpD b hb).1 (by rw [← z]; exact hpl p hp')
  have loop : ∀ s₃ : Shared, s₃ = { s2 with heap := h₁, toks := s2.toks + ([] : List (Str × Value)).length } →
      codeAny (model X.prog X.w) X.A (.compLoop (.ListComp elt [⟨.Name x px, iter, ifs, 0⟩] scope pos) 0 (.ref it) (.ref D) (compEnvC scope (clOf X.env scope) C X.env))
        (R (.ref D) C) s₃ := by
    rintro s₃ rfl
    refine compLoop_own (fun n s' => ∃ (i : Nat) (σ' : St) (G : Hp) (its : List Value) (vs : List V) (m : Nat) (done : List PyData) (ys' : List PyData), Inv X' [(D, LObj its m)] σ' G s' ∧ tn i s'.heap ∧ (∀ b ∈ fp, G b = none) ∧ Same H2 G ∧ HasD X.K G σ' (none :: capD caps ρ) ∧
        Vals vs its ∧ IsDs X.K G done vs ∧ done.length ≤ i ∧ i ≤ ds.length ∧ compD g f (capD caps ρ) (ds.drop i) = some ys' ∧ ys = done ++ ys' ∧ n = ds.length - i) ?_ ds.length
      ⟨0, _, H2, [], [], 0, [], ys, I4, st4, fun b hb => (f2 b hb).1, .refl _, hsD2.cap caps none, .nil, IsDs.nil, Nat.le_refl _, Nat.zero_le _, by simpa using e3, rfl, by simp⟩
    rintro n s' ⟨i, σ', G, its, vs, m, done, ys', JJ, st, fr, sG, hasD, rv, id1, hdi, hil, e5, e6, rfl⟩
    obtain ⟨w1, w2⟩ := wd G sG
    by_cases hlt : i < ds.length
    · -- one more item
      have hd : ds[i]? = some ds[i] := List.getElem?_eq_getElem hlt
      obtain ⟨w3, w4⟩ := w2 i _ hd
      rw [List.drop_eq_getElem_cons hlt] at e5
      unfold compD at e5
      obtain ⟨b, eb, e7⟩ := bind_some e5
      refine thn (T.item X' rfl rfl rfl rfl i _ s' σ' G (fun _ _ => False) JJ (stat (by simp) fr) st w3) fun r s5 ⟨u, hr, h5⟩ => ?_
      subst hr
      refine thn h5 fun _ s6 ⟨y, G6, J6, r6, y6, st6, fr6⟩ => ?_
      obtain ⟨s7, i7⟩ := w4 y G6 y6
      have hfp6 := stat (G := G6) (pl := [(D, LObj its m)]) (by simp) fr6
      have J6' := J6.pinned hfp6 (T.obj _ _ st6)
      -- the name
      have hg : PDG X' (.Name x px) (bName 0) := pdg_name 0 hnd rfl (.inl (lookup_relabel_local S.var)) (.inr (lookup_relabel_local S.var))
      have hasD6 : HasD X.K G6 σ' (none :: capD caps ρ) := hasD.same s7
      refine thn (hg _ s6 σ' G6 y u (fun σ8 H8 => Same G6 H8 ∧ HasD X.K H8 σ8 (some ds[i] :: capD caps ρ)) J6' r6 ⟨none :: capD caps ρ, ds[i], some ds[i] :: capD caps ρ, hasD6, i7, rfl, fun σ8 H8 s8 h8 => ⟨s8, h8⟩⟩) fun _ s8 ⟨σ8, G8, J8, same8, has8⟩ => ?_
      -- the tests
      refine thn (ht C s2 H2 fp _ s8 σ8 G8 (fun c H9 => c = b ∧ Same G8 H9) J8 ⟨_, b, has8, eb, fun H9 s9 => ⟨rfl, s9⟩⟩) fun ok s9 ⟨G9, J9, ⟨hok, same9⟩⟩ => ?_
      subst hok
      have keepT : ∀ {σ7 : St} {G7 : Hp} {s7 : Shared} {pl : List (Addr × Obj)}, Inv X' (pl ++ pinsAt fp s6.heap) σ7 G7 s7 → tn (i + 1) s7.heap ∧ ∀ b ∈ fp, G7 b = none := fun {σ7 G7 s7 pl} J7 => by
        refine ⟨T.keep _ _ _ st6 fun b hb o e => (J7.pin (b, o) (List.mem_append_right _ (List.mem_append_right _ (mem_pinsAt hb e)))).1, fun b hb => ?_⟩
        obtain ⟨o, e, d⟩ := T.obj _ _ st6 b hb
        exact (J7.pin (b, o) (List.mem_append_right _ (List.mem_append_right _ (mem_pinsAt hb e)))).2.1
      have forget : ∀ {H7 : Hp} {σ7 : St}, HasD X.K H7 σ7 (some ds[i] :: capD caps ρ) → HasD X.K H7 σ7 (none :: capD caps ρ) := fun {H7 σ7} h => ⟨by simpa using h.1, fun j d q => by
        cases j with
        | zero => simp at q
        | succ j => exact h.2 (j + 1) d (by simpa using q)⟩
      cases ok with
      | false =>
        rw [if_neg Bool.false_ne_true] at e7 ⊢
        obtain ⟨k1, k2⟩ := keepT J9
        exact ⟨ds.length - (i + 1), by omega, i + 1, σ8, G9, its, vs, m, done, ys', J9.unpinned, k1, k2, sG.trans (s7.trans (same8.trans same9)), (forget has8).same same9, rv, id1.same (s7.trans (same8.trans same9)), by omega, hlt, e7, e6, rfl⟩
      | true =>
        rw [if_pos rfl] at e7 ⊢
        obtain ⟨yd, e8, e9⟩ := bind_some e7
        obtain ⟨ys2, e10, e11⟩ := bind_some e9
        cases e11
        refine thn (he C s2 H2 fp _ s9 σ8 G9 (fun v H10 => Same G9 H10 ∧ IsD X.K H10 yd v) J9 ⟨_, yd, has8.same same9, e8, fun v H10 s10 i10 => ⟨s10, i10⟩⟩) fun u10 s10 ⟨v10, G10, J10, r10, same10, i10⟩ => ?_
        obtain ⟨k1, k2⟩ := keepT J10
        have J11 : Inv X' [(D, LObj its m)] σ8 G10 s10 := J10.unpinned
        have hpD := J11.pin (D, LObj its m) (by simp)
        have hlen : its.length ≤ sizeLine := by
          have h1 := rv.length
          have h2 := id1.length
          omega
        refine wpAny_list_append_plain (hsz := by rw [List.size_toArray]; exact hlen) ⟨m, hpD.1⟩ fun h12 ⟨n12, hl12⟩ hs12 => ?_
        have J12 := hDex X' rfl J11 (t' := s10.toks) (h' := h12) (its' := its ++ [u10]) (n' := n12) (fun b o hb e => (hs12.2 b hb).trans e) (by rw [hl12]; simp [LObj])
        refine ⟨ds.length - (i + 1), by omega, i + 1, σ8, G10, its ++ [u10], vs ++ [v10], n12, done ++ [yd], ys2, J12, ?_, k2, sG.trans (s7.trans (same8.trans (same9.trans same10))), (forget has8).same (same9.trans same10), rv.append (.cons r10 .nil), (id1.same (s7.trans (same8.trans (same9.trans same10)))).append (IsDs.cons i10 IsDs.nil), by simp; omega, hlt, e10, by simp [e6], rfl⟩
        exact T.keep _ _ _ k1 fun b hb o e => (hs12.2 b (fpD b hb).1).trans e
    · -- the end
      have hiL : i = ds.length := by omega
      subst hiL
      rw [List.drop_length] at e5
      cases e5
      rw [List.append_nil] at e6
      subst e6
      refine thn (T.done X' rfl rfl rfl rfl _ _ s' σ' G (fun _ _ => False) JJ (stat (by simp) fr) st w1) fun r s9 ⟨hr, J9⟩ => ?_
      subst hr
      have hpD := J9.pin (D, LObj its m) (by simp)
      obtain ⟨mC, hnC, _⟩ := J9.loc
      have hGD : G D = none := hpD.2.1
      have hGC : G C = none := J9.free
      have hok' : HOk X.prog X.w (upd G D (.lst vs)) s9.heap := fun a o e => by
        by_cases ha : a = D
        · subst ha
          rw [upd_same] at e; cases e
          have h1 := rv.length
          have h2 := id1.length
          exact ⟨by omega, its, m, rv, hpD.1⟩
        · rw [upd_ne ha] at e
          exact (J9.hok a o e).stay (fun c w' hcc q => q) (fun c q => by rw [upd_ne (ne_of_none q hGD)]; exact q) fun c xs q => by rw [upd_ne (ne_of_none q hGD)]; exact q
      have ne2 : ∀ b o, s2.heap.get? b = some o → b ≠ C ∧ b ≠ D := fun b o e => by
        have := Heap.lt_size e
        exact ⟨Nat.ne_of_lt (Nat.lt_of_lt_of_le this hCle), Nat.ne_of_lt (hD ▸ this)⟩
      have un : Un (frs X.stack) fp H2 (upd G D (.lst vs)) s2.heap s9.heap := by
        have B := J9.base
        refine ⟨fun b o e n hb hx => B.keep b o e n hb hx, fun b o e n hb hx => B.slot b o e n hb hx, fun b o e n hx => by rw [upd_ne (ne2 b o e).2]; exact B.free b o e n hx, fun b o e hx => B.there b o e hx, fun b xs e => by rw [upd_ne (ne_of_none (B.tups b xs e) hGD)]; exact B.tups b xs e,
          fun b o u e => by rw [upd_ne (ne_of_none (B.frzs b o u e) hGD)]; exact B.frzs b o u e, fun b ps e => ?_⟩
        obtain ⟨mm, e1⟩ := B.tbls b ps e
        exact ⟨mm, by rw [upd_ne (ne_of_none e1 hGD)]; exact e1⟩
      have I9 : Inv X pins σ (upd G D (.lst vs)) s9 := I2.call' (s' := s9) (ch := fp) J9.os un hok' J9.bare (fun b hb => by
        obtain ⟨f0, f1, f2', f3, f4, f5⟩ := f2 b hb
        exact ⟨f3, f1, f4, f5⟩)
      have hpn : ∀ p ∈ X.pn ++ pins, p.1 ≠ C := fun p hp => (ne2 p.1 p.2 (I2.pin p hp).1).1
      have hCz : X.s₀.heap.objs.size ≤ C := Nat.le_trans I2.sz hCle
      obtain ⟨oC, es, ep, hoC, rC⟩ := hnC
      have hCfs : C ∉ X.fs := fun hb => by
        have h1 := J9.ok.frf
        have : C ∈ frs X.stack := by
          rcases I2.ok.stk with z | ⟨z, _⟩
          · rw [z]; exact hb
          · rw [z]
            obtain ⟨a, h1, h2⟩ := List.mem_filterMap.mp hb
            exact List.mem_filterMap.mpr ⟨a, List.mem_cons_of_mem _ h1, h2⟩
        obtain ⟨_, o, ho, _⟩ := I2.stack.mem this
        exact (ne2 C o ho).1 rfl
      have hCL : C ≠ X.env.locals := fun z => by
        obtain ⟨mL, hnL, _⟩ := I2.loc
        obtain ⟨oL, _, _, hoL, _⟩ := hnL
        exact (ne2 _ oL hoL).1 z.symm
      refine fin D C s9 _ oC mC (I9.pins_of fun p hp => ?_) ⟨oC, es, ep, hoC, rC⟩ hpn hCz (k _ _ (same2.trans (sG.trans (same_upd hGD))) (isD_newL hGD id1))
      rcases List.mem_cons.mp hp with z | z
      · subst z
        refine ⟨hoC, by rw [upd_ne (Ne.symm hDC)]; exact hGC, hCL, hCfs, fun v z => ?_⟩
        rw [rC.1] at z; cases z
      · exact I9.pin p (List.mem_append_right _ z)
  exact codeAny_compStart_list (loop _ rfl) (T.self X.A 0 _ _ _ st4 (loop _ rfl))
theorem PCm.pe {elt iter : Expr} {x : Str} {px pos : Pos} {ifs : List Expr} {scope : Scope} {t : TE} (h : PCm X (.ListComp elt [⟨.Name x px, iter, ifs, 0⟩] scope pos) scope iter t) (S : ScopeIn scope x) (hcl : ∀ p ∈ scope.names, p.2 = .free → ∃ c, X.env.cells.lookup p.1 = some c)
    (hs : ∀ x, foldedSetIterable iter X.env x = pure x := by intro _; rfl) : PE X (.ListComp elt [⟨.Name x px, iter, ifs, 0⟩] scope pos) t := by
  intro pins s σ H Q I hQ
  rw [eval_ListComp]
  refine wpAny_comprehension_free (use := none) rfl hs (closureFor_of hcl) S.kind S.loc (h pins s σ H Q (compPost (model X.prog X.w) X.A X.xe none (EP X pins σ Q)) I hQ ?_)
  intro D C s9 H9 oC m I9 hn hp hz q
  exact ⟨m, hn, fun h' hs' => ⟨.ref D, H9, I9.drop_pin hp hz hs', rfl, q⟩⟩
theorem pd_comp {elt iter : Expr} {x : Str} {px pos : Pos} {ifs : List Expr} {scope : Scope} {caps : List (Nat × Str)} {q : Rho → Option (List PyData)} {g : Rho → Option Bool} {f : Rho → Option PyData}
    (hc : X.calm = true) (S : ScopeIn scope x) (hcl : ∀ p ∈ scope.names, p.2 = .free → ∃ c, X.env.cells.lookup p.1 = some c) (hcap : CapsOk X scope caps) (hnd : (x :: caps.map (·.2)).Nodup)
    (hi : PDI X (.Name x px) iter q)
    (ht : ∀ C s H fp, PDTs (cxIn X scope C (x :: caps.map (·.2)) s H fp) ifs g)
    (he : ∀ C s H fp, PD (cxIn X scope C (x :: caps.map (·.2)) s H fp) elt f)
    (hs : ∀ x, foldedSetIterable iter X.env x = pure x := by intro _; rfl) : PD X (.ListComp elt [⟨.Name x px, iter, ifs, 0⟩] scope pos) (dComp q caps g f) :=
  (pc_comp hc S hcl hcap hnd hi ht he).pe S hcl hs
/-- y = [..], y a plain local: the store comes ahead of the end of the block -/
theorem ps_comp {i : Nat} {y : Str} {py spos : Pos} {elt iter : Expr} {x : Str} {px pos : Pos} {ifs : List Expr} {scope : Scope} {t : TE} (h : PCm X (.ListComp elt [⟨.Name x px, iter, ifs, 0⟩] scope pos) scope iter t) (S : ScopeIn scope x) (hcl : ∀ p ∈ scope.names, p.2 = .free → ∃ c, X.env.cells.lookup p.1 = some c)
    (hN : X.N.Nodup) (hi : X.N[i]? = some y) (hy : X.env.scope.names.lookup y = some .local) (hsw : swapsWith (.ListComp elt [⟨.Name x px, iter, ifs, 0⟩] scope pos) (some (.Name y py)) spos.line X.env = pure true)
    (hs : ∀ x, foldedSetIterable iter X.env x = pure x := by intro _; rfl) : PS X (.Assign [.Name y py] (.ListComp elt [⟨.Name x px, iter, ifs, 0⟩] scope pos) spos) (tAsg t (gName i)) := by
  intro pins s σ H D I hQ
  rw [exec_Assign_Name_used _ _ _ _ hsw]
  refine wpAny_bind (wpAny_standAt (wpAny_bind ?_))
  show wpAny _ X.A (do let _ ← comprehension (.ListComp elt [⟨.Name x px, iter, ifs, 0⟩] scope pos) scope X.env _ (newList []) false (eval iter X.env) (some (assign (.Name y py) X.env))) _ _ s
  refine wpAny_bind (wpAny_mono (wpAny_comprehension_free (use := some (assign (.Name y py) X.env)) (Q := fun _ s' => SP X pins D .next s') rfl hs (closureFor_of hcl) S.kind S.loc
    (h pins s σ H _ (compPost (model X.prog X.w) X.A X.xe (some (assign (.Name y py) X.env)) (fun _ s' => SP X pins D .next s')) I hQ ?_)) (fun _ s' hq => wpAny_pure (wpAny_pure hq)) fun _ _ e => e)
  intro Da C s9 H9 oC m I9 hn hp hz q
  show wpAny _ X.A (assign (.Name y py) X.env (.ref Da)) _ _ _
  refine wpAny_mono (pg_name hN hi (.inl hy) (.inr hy) _ s9 σ H9 (.ref Da) (.ref Da) (fun σ' H' => D.nx σ' H') I9 rfl q) (fun _ s' ⟨σ', H', I', q'⟩ => ?_) fun _ _ e => e
  have hC' := I'.pin (C, oC) (by simp)
  have hC9 := I9.pin (C, oC) (by simp)
  refine ⟨m, hn.at' fun o e => ?_, fun h' hs' => ⟨σ', H', I'.drop_pin hp hz hs', q'⟩⟩
  rw [hC9.1] at e; cases e; exact hC'.1
end
end L2

end
section
set_option Elab.async false
set_option linter.all false
set_option maxRecDepth 100000
set_option maxHeartbeats 1000000
namespace L2
open PySem PySem.Spec PyProof.Rows

/-! ### the frame: objects that a piece of code never meets are put aside, and laid back as they were -/
def frmO : HO → Prop
  | .lst _ => True
  | .dD _ => True
  | _ => False
def joinB (G : Hp) : List (Addr × HO) → Hp
  | [] => G
  | (p, o) :: r => upd (joinB G r) p o
structure Frm (G : Hp) (B : List (Addr × HO)) : Prop where
  nd : (B.map (·.1)).Nodup
  free : ∀ x ∈ B, G x.1 = none
  ok : ∀ x ∈ B, frmO x.2
theorem joinB_out {G : Hp} {a : Addr} : ∀ {B : List (Addr × HO)}, (∀ x ∈ B, x.1 ≠ a) → joinB G B a = G a
  | [], _ => rfl
  | (p, o) :: r, h => by
    show upd (joinB G r) p o a = G a
    rw [upd_ne (Ne.symm (h (p, o) (by simp)))]
    exact joinB_out fun x hx => h x (List.mem_cons_of_mem _ hx)
theorem joinB_in {G : Hp} : ∀ {B : List (Addr × HO)}, (B.map (·.1)).Nodup → ∀ x ∈ B, joinB G B x.1 = some x.2
  | [], _, _, h => by cases h
  | (p, o) :: r, nd, x, hx => by
    rw [List.map_cons, List.nodup_cons] at nd
    rcases List.mem_cons.mp hx with e | hx
    · subst e; exact upd_same
    · show upd (joinB G r) p o x.1 = some x.2
      have hne : x.1 ≠ p := fun e => nd.1 (by rw [← e]; exact List.mem_map.mpr ⟨x, hx, rfl⟩)
      rw [upd_ne hne]
      exact joinB_in nd.2 x hx
theorem joinB_cases {G : Hp} {a : Addr} : ∀ (B : List (Addr × HO)), (∃ x ∈ B, x.1 = a) ∨ (∀ x ∈ B, x.1 ≠ a) := fun B => by
  by_cases h : ∃ x ∈ B, x.1 = a
  · exact .inl h
  · exact .inr fun x hx e => h ⟨x, hx, e⟩
theorem Frm.same {G : Hp} {B : List (Addr × HO)} (f : Frm G B) : Same G (joinB G B) := fun a o e => by
  rw [joinB_out fun x hx z => ?_]
  · exact e
  · have := f.free x hx
    rw [z, e] at this; cases this
theorem Frm.tail {G : Hp} {x : Addr × HO} {B : List (Addr × HO)} (f : Frm G (x :: B)) : Frm G B :=
  ⟨(List.nodup_cons.mp (by simpa using f.nd)).2, fun y hy => f.free y (List.mem_cons_of_mem _ hy), fun y hy => f.ok y (List.mem_cons_of_mem _ hy)⟩
theorem joinB_tup {G : Hp} {B : List (Addr × HO)} (f : Frm G B) {b : Addr} {xs : List V} (h : joinB G B b = some (.tup xs)) : G b = some (.tup xs) := by
  rcases joinB_cases (G := G) (a := b) B with ⟨x, hx, rfl⟩ | h'
  · rw [joinB_in f.nd x hx] at h
    have := f.ok x hx
    rw [Option.some.inj h] at this
    exact this.elim
  · rw [joinB_out h'] at h; exact h

section
variable {X : Cx} {pins : List (Addr × Obj)} {σ : St} {H : Hp} {s : Shared} {p : Addr} {o : HO}
theorem frm_obj (I : Inv X pins σ (upd H p o) s) (hf : frmO o) : ∃ ob, s.heap.get? p = some ob ∧ ∀ v, ob.data ≠ .cell v := by
  have h := I.hok p o upd_same
  cases o with
  | lst xs => obtain ⟨_, its, n, _, e⟩ := h; exact ⟨_, e, fun v z => by have z' : Data.seq its.toArray n = .cell v := z; cases z'⟩
  | dD kvs => obtain ⟨_, _, xs, _, ob, es, ep, e, _, ed, _⟩ := h; exact ⟨ob, e, fun v z => by rw [ed] at z; cases z⟩
  | _ => exact hf.elim
theorem frm_move {P : Program} {w : World} {H H' : Hp} {h h' : Heap} {ob : Obj} (hf : frmO o) (x : ObjOk P w H h p o) (e : h.get? p = some ob) (e' : h'.get? p = some ob) (ht : ∀ b xs, H b = some (.tup xs) → H' b = some (.tup xs)) : ObjOk P w H' h' p o := by
  cases o with
  | lst xs =>
    obtain ⟨z, its, n, r, q⟩ := x
    rw [e] at q; cases q
    exact ⟨z, its, n, r, e'⟩
  | dD kvs =>
    obtain ⟨z, y, xs, r, ob', es, ep, q, c⟩ := x
    rw [e] at q; cases q
    exact ⟨z, y, xs, Paired.mapP r fun p q z => ⟨z.1, ⟨z.2.1.1, z.2.1.2.1, z.2.1.2.2.1, KeyH.stay ht z.2.1.2.2.2⟩, z.2.2⟩, ob, es, ep, e', c⟩
  | _ => exact hf.elim
theorem not_tup (hf : frmO o) {xs : List V} : o ≠ .tup xs := fun e => by subst e; exact hf
/-- one object is put aside -/
theorem hide1 (I : Inv X pins σ (upd H p o) s) (hn : H p = none) (hf : frmO o) : ∃ ob, Inv X (pins ++ [(p, ob)]) σ H s ∧
    ∀ (G : Hp) (s' : Shared) (σ' : St), (∀ b xs, H b = some (.tup xs) → G b = some (.tup xs)) → Inv X (pins ++ [(p, ob)]) σ' G s' → G p = none ∧ Inv X pins σ' (upd G p o) s' := by
  obtain ⟨ob, hob, hcell⟩ := frm_obj I hf
  have nt : ∀ b u, H b = some u → b ≠ p := fun b u e => ne_of_none e hn
  have un : ∀ b, upd H p o b = none → b ≠ p ∧ H b = none := fun b e => by
    have hb : b ≠ p := fun z => by rw [z, upd_same] at e; cases e
    rw [upd_ne hb] at e
    exact ⟨hb, e⟩
  have bk : ∀ b u, upd H p o b = some u → u ≠ o → H b = some u := fun b u e hu => by
    by_cases hb : b = p
    · rw [hb, upd_same] at e; cases e; exact absurd rfl hu
    · rw [upd_ne hb] at e; exact e
  have ntup : ∀ xs, (HO.tup xs) ≠ o := fun xs e => by rw [← e] at hf; exact hf
  have nfrz : ∀ q u, (HO.frz q u) ≠ o := fun q u e => by rw [← e] at hf; exact hf
  have ntbl : ∀ ps, (HO.tbl ps) ≠ o := fun ps e => by rw [← e] at hf; exact hf
  have nown : ∀ a, (HO.own a) ≠ o := fun a e => by rw [← e] at hf; exact hf
  have hL : p ≠ X.env.locals := fun z => by
    have := I.free
    rw [← z, upd_same] at this; cases this
  have hfs : p ∉ X.fs := fun hb => by
    obtain ⟨_, q, hq, _⟩ := I.ok.funs.mem hb
    have := I.base.free p q hq (I.ok.frf p hb) fun z => I.ok.exfs p z hb
    rw [upd_same] at this; cases this
  have hpn : ∀ q ∈ X.pn ++ pins, q.1 ≠ p := fun q hq => (un q.1 (I.pin q hq).2.1).1
  have h0 : ∀ q, X.s₀.heap.get? p = some q → X.H₀ p = none → p ∈ X.ex := fun q hq hn0 => by
    by_cases hx : p ∈ X.ex
    · exact hx
    · have := I.base.free p q hq hn0 hx
      rw [upd_same] at this; cases this
  refine ⟨ob, ?_, ?_⟩
  · refine ⟨I.ok, I.os, I.bare, ⟨I.base.keep, I.base.slot, fun b q e n hx => (un b (I.base.free b q e n hx)).2, I.base.there, fun b xs e => bk b _ (I.base.tups b xs e) (ntup xs), fun b q u e => bk b _ (I.base.frzs b q u e) (nfrz q u), fun b ps e => ?_⟩, I.loc, I.cell, (un _ I.free).2, fun x c e => (un c (I.freeC x c e)).2, fun q hq => ?_, fun a u e => ?_, I.len⟩
    · obtain ⟨m, e1⟩ := I.base.tbls b ps e
      exact ⟨m, bk b _ e1 (ntbl _)⟩
    · rcases List.mem_append.mp hq with h | h
      · obtain ⟨a1, a2, a3⟩ := I.pin q (List.mem_append_left _ h)
        exact ⟨a1, (un _ a2).2, a3⟩
      · rcases List.mem_append.mp h with h | h
        · obtain ⟨a1, a2, a3⟩ := I.pin q (List.mem_append_right _ h)
          exact ⟨a1, (un _ a2).2, a3⟩
        · have : q = (p, ob) := by simpa using h
          subst this
          exact ⟨hob, hn, hL, hfs, hcell⟩
    · have ha := nt a u e
      exact (I.hok a u (by rw [upd_ne ha]; exact e)).stay (fun _ _ _ q => q) (fun b q => bk b _ q (nown a)) fun b xs q => bk b _ q (ntup xs)
  · intro G s' σ' ht J
    have hp := J.pin (p, ob) (List.mem_append_right _ (List.mem_append_right _ (by simp)))
    have hGn : G p = none := hp.2.1
    have nG : ∀ b u, G b = some u → upd G p o b = some u := fun b u e => by rw [upd_ne (ne_of_none e hGn)]; exact e
    refine ⟨hGn, ⟨J.ok, J.os, J.bare, ⟨J.base.keep, J.base.slot, fun b q e n hx => ?_, J.base.there, fun b xs e => nG b _ (J.base.tups b xs e), fun b q u e => nG b _ (J.base.frzs b q u e), fun b ps e => ?_⟩, J.loc, J.cell, ?_, fun x c e => ?_, fun q hq => ?_, fun a u e => ?_, J.len⟩⟩
    · have hb : b ≠ p := fun z => by subst z; exact hx (h0 q e n)
      rw [upd_ne hb]
      exact J.base.free b q e n hx
    · obtain ⟨m, e1⟩ := J.base.tbls b ps e
      exact ⟨m, nG b _ e1⟩
    · rw [upd_ne (Ne.symm hL)]; exact J.free
    · have hc : c ≠ p := fun z => by
        obtain ⟨v, q, hq, hd⟩ := J.cell x c e
        rw [z] at hq
        have hp1 : s'.heap.get? p = some ob := hp.1
        rw [hp1] at hq; cases hq
        exact hcell v hd
      rw [upd_ne hc]; exact J.freeC x c e
    · have hq' : q ∈ X.pn ++ (pins ++ [(p, ob)]) := by
        rcases List.mem_append.mp hq with h | h
        · exact List.mem_append_left _ h
        · exact List.mem_append_right _ (List.mem_append_left _ h)
      obtain ⟨a1, a2, a3⟩ := J.pin q hq'
      exact ⟨a1, by rw [upd_ne (hpn q hq)]; exact a2, a3⟩
    · by_cases ha : a = p
      · subst ha
        rw [upd_same] at e; cases e
        refine frm_move hf (I.hok a o upd_same) hob hp.1 fun b xs q => nG b _ (ht b xs (bk b _ q (ntup xs)))
      · rw [upd_ne ha] at e
        exact (J.hok a u e).stay (fun _ _ _ q => q) (fun b q => nG b _ q) fun b xs q => nG b _ q
/-- several are put aside -/
theorem hideB : ∀ (B : List (Addr × HO)) {pins : List (Addr × Obj)} {G : Hp} {σ : St} {s : Shared}, Inv X pins σ (joinB G B) s → Frm G B → ∃ PB, Inv X (pins ++ PB) σ G s ∧ (∀ q ∈ PB, ∃ x ∈ B, q.1 = x.1) ∧ (∀ x ∈ B, ∃ q ∈ PB, q.1 = x.1) ∧
    ∀ (G' : Hp) (s' : Shared) (σ' : St), Same G G' → Inv X (pins ++ PB) σ' G' s' → Frm G' B ∧ Inv X pins σ' (joinB G' B) s'
  | [], pins, G, σ, s, I, f => ⟨[], by rw [List.append_nil]; exact I, (fun q hq => by cases hq), (fun x hx => by cases hx), fun G' s' σ' _ J => ⟨⟨List.nodup_nil, (fun x hx => by cases hx), fun x hx => by cases hx⟩, by rw [List.append_nil] at J; exact J⟩⟩
  | (p, o) :: r, pins, G, σ, s, I, f => by
    have fr := f.tail
    have nd := List.nodup_cons.mp (show (p :: r.map (·.1)).Nodup from f.nd)
    have hpr : ∀ x ∈ r, x.1 ≠ p := fun x hx e => nd.1 (List.mem_map.mpr ⟨x, hx, e⟩)
    have hpn : joinB G r p = none := by rw [joinB_out hpr]; exact f.free (p, o) (by simp)
    obtain ⟨ob, I1, back⟩ := hide1 (H := joinB G r) I hpn (f.ok (p, o) (by simp))
    obtain ⟨PB, I2, m1, m2, back2⟩ := hideB r I1 fr
    refine ⟨(p, ob) :: PB, by simpa using I2, fun q hq => ?_, fun x hx => ?_, fun G' s' σ' sG J => ?_⟩
    · rcases List.mem_cons.mp hq with e | h
      · exact ⟨(p, o), by simp, by rw [e]⟩
      · obtain ⟨x, hx, e⟩ := m1 q h
        exact ⟨x, List.mem_cons_of_mem _ hx, e⟩
    · rcases List.mem_cons.mp hx with e | h
      · exact ⟨(p, ob), by simp, by rw [e]⟩
      · obtain ⟨q, hq, e⟩ := m2 x h
        exact ⟨q, List.mem_cons_of_mem _ hq, e⟩
    · obtain ⟨f2, J2⟩ := back2 G' s' σ' sG (by simpa using J)
      obtain ⟨hn2, J3⟩ := back (joinB G' r) s' σ' (fun b xs e => f2.same b _ (sG b _ (joinB_tup fr e))) J2
      have hG'p : G' p = none := by rw [joinB_out hpr] at hn2; exact hn2
      refine ⟨⟨by simpa using f.nd, fun x hx => ?_, f.ok⟩, J3⟩
      rcases List.mem_cons.mp hx with e | h
      · rw [e]; exact hG'p
      · exact f2.free x h
/-- the frame of an expression -/
theorem PE.frame {e : Expr} {t : TE} (h : PE X e t) : PE X e (fun σ H Q => ∃ G B, H = joinB G B ∧ Frm G B ∧ t σ G fun v G' => Same G G' ∧ (Frm G' B → Q v (joinB G' B))) := by
  intro pins s σ H Q I ⟨G, B, eH, f, ht⟩
  subst eH
  obtain ⟨PB, I1, _, _, back⟩ := hideB B I f
  refine thn (h _ s σ G _ I1 ht) fun v s' ⟨x, G', J, r, sG, q⟩ => ?_
  obtain ⟨f', J'⟩ := back G' s' σ sG J
  exact ⟨x, joinB G' B, J', r, q f'⟩
/-- .. of what a loop walks -/
theorem PI.frame {tg iter : Expr} {t : TI} (h : PI X tg iter t) : PI X tg iter (fun σ H R => ∃ G B, H = joinB G B ∧ Frm G B ∧ t σ G fun J G' => Same G G' ∧ (Frm G' B → R J (joinB G' B))) := by
  intro pins s σ H R I ⟨G, B, eH, f, ht⟩
  subst eH
  obtain ⟨PB, I1, m1, m2, back⟩ := hideB B I f
  refine thn (h _ s σ G _ I1 ht) fun v s1 h1 => thn h1 fun itv s2 ⟨it, fp, tn, J, G', e, I2, T, st, hf, sG, q⟩ => ?_
  obtain ⟨f', J'⟩ := back G' s2 σ sG I2
  refine ⟨it, fp, tn, J, joinB G' B, e, J', T, st, fun b hb => ?_, q f'⟩
  obtain ⟨f0, f1, f2, f3, f4, f5⟩ := hf b hb
  refine ⟨?_, f1, f2, f3, f4, fun p hp => f5 p ?_⟩
  · rw [joinB_out fun x hx z => ?_]
    · exact f0
    · obtain ⟨q', hq', e'⟩ := m2 x hx
      exact f5 q' (List.mem_append_right _ (List.mem_append_right _ hq')) (e'.trans z)
  · rcases List.mem_append.mp hp with h | h
    · exact List.mem_append_left _ h
    · exact List.mem_append_right _ (List.mem_append_left _ h)
end
end L2

end
section
set_option Elab.async false
set_option linter.all false
set_option maxRecDepth 100000
set_option maxHeartbeats 1000000
namespace L2
open PySem PySem.Spec PyProof.Rows

/-! ### names whose list or dict is a def's own: nothing else holds it, so it is changed like a value -/
def OwnObj (K : PySem.W.Frag) (G : Hp) (d : PyData) (o : HO) : Prop :=
  (∃ ds vs, d = .list ds ∧ o = .lst vs ∧ IsDs K G ds vs) ∨ ∃ kvs kv, d = .dict kvs ∧ o = .dD kv ∧ IsKV K G kvs kv
def OwnL (K : PySem.W.Frag) (σ : St) (ρ : Rho) (G : Hp) : List Nat → List (Addr × HO) → Prop
  | [], B => B = []
  | i :: O, B => ((ρ[i]?).join = none ∧ OwnL K σ ρ G O B) ∨ ∃ d p o B', ρ[i]? = some (some d) ∧ σ[i]? = some (some (.ref p)) ∧ B = (p, o) :: B' ∧ OwnObj K G d o ∧ OwnL K σ ρ G O B'
structure HasO (O : List Nat) (K : PySem.W.Frag) (σ : St) (ρ : Rho) (H G : Hp) : Prop where
  len : σ.length = ρ.length
  ex : ∃ B, H = joinB G B ∧ Frm G B ∧ OwnL K σ ρ G O B
  non : ∀ (i : Nat) (d : PyData), ρ[i]? = some (some d) → i ∉ O → ∃ v, σ[i]? = some (some v) ∧ IsD K G d v
theorem join_some {α : Type} {l : List (Option α)} {i : Nat} {d : α} (h : (l[i]?).join = some d) : l[i]? = some (some d) := by
  cases q : l[i]? with
  | none => rw [q] at h; cases h
  | some o => rw [q] at h; cases o with
    | none => cases h
    | some v' => cases h; rfl
theorem joinB_ext {H G : Hp} {B : List (Addr × HO)} (nd : (B.map (·.1)).Nodup) (h1 : ∀ x ∈ B, H x.1 = some x.2) (h2 : ∀ a, (∀ x ∈ B, x.1 ≠ a) → H a = G a) : H = joinB G B := by
  funext a
  rcases joinB_cases (G := G) (a := a) B with ⟨x, hx, rfl⟩ | h
  · rw [h1 x hx, joinB_in nd x hx]
  · rw [h2 a h, joinB_out h]
theorem OwnObj.same {K : PySem.W.Frag} {G G' : Hp} {d : PyData} {o : HO} (h : OwnObj K G d o) (e : Same G G') : OwnObj K G' d o := by
  rcases h with ⟨ds, vs, a, b, c⟩ | ⟨kvs, kv, a, b, c⟩
  · exact .inl ⟨ds, vs, a, b, c.same e⟩
  · exact .inr ⟨kvs, kv, a, b, c.same e⟩
theorem OwnObj.frm {K : PySem.W.Frag} {G : Hp} {d : PyData} {o : HO} (h : OwnObj K G d o) : frmO o := by
  rcases h with ⟨ds, vs, a, b, c⟩ | ⟨kvs, kv, a, b, c⟩
  · subst b; exact True.intro
  · subst b; exact True.intro
theorem OwnObj.isD {K : PySem.W.Frag} {G H : Hp} {d : PyData} {o : HO} {p : Addr} (h : OwnObj K G d o) (e : Same G H) (hp : H p = some o) : IsD K H d (.ref p) := by
  rcases h with ⟨ds, vs, rfl, rfl, c⟩ | ⟨kvs, kv, rfl, rfl, c⟩
  · exact IsD.list_iff.mpr ⟨p, vs, rfl, SqL.of hp, c.same e⟩
  · exact IsD.dict_iff.mpr ⟨p, kv, rfl, hp, c.same e⟩
section
variable {K : PySem.W.Frag} {σ : St} {ρ : Rho} {G H : Hp}
theorem OwnL.same {G' : Hp} (e : Same G G') : ∀ {O : List Nat} {B : List (Addr × HO)}, OwnL K σ ρ G O B → OwnL K σ ρ G' O B
  | [], _, h => h
  | _ :: _, _, h => by
    rcases h with ⟨a, b⟩ | ⟨d, p, o, B', a, b, c, q, t⟩
    · exact .inl ⟨a, OwnL.same e b⟩
    · exact .inr ⟨d, p, o, B', a, b, c, q.same e, OwnL.same e t⟩
theorem OwnL.at : ∀ {O : List Nat} {B : List (Addr × HO)}, OwnL K σ ρ G O B → ∀ {i : Nat} {d : PyData}, i ∈ O → ρ[i]? = some (some d) → ∃ p o, (p, o) ∈ B ∧ σ[i]? = some (some (.ref p)) ∧ OwnObj K G d o
  | [], _, _, _, _, hi, _ => by cases hi
  | j :: O, _, h, i, d, hi, hd => by
    rcases h with ⟨a, b⟩ | ⟨d', p, o, B', a, b, c, q, t⟩
    · rcases List.mem_cons.mp hi with e | hi
      · subst e; rw [hd] at a; cases a
      · exact OwnL.at b hi hd
    · rcases List.mem_cons.mp hi with e | hi
      · subst e; rw [hd] at a; cases a
        exact ⟨p, o, by rw [c]; simp, b, q⟩
      · obtain ⟨p', o', m, r⟩ := OwnL.at t hi hd
        exact ⟨p', o', by rw [c]; exact List.mem_cons_of_mem _ m, r⟩
/-- other slots may change -/
theorem OwnL.other {σ' : St} {ρ' : Rho} : ∀ {O : List Nat} {B : List (Addr × HO)}, OwnL K σ ρ G O B → (∀ i ∈ O, ρ'[i]? = ρ[i]? ∧ σ'[i]? = σ[i]?) → OwnL K σ' ρ' G O B
  | [], _, h, _ => h
  | j :: O, _, h, k => by
    obtain ⟨k1, k2⟩ := k j (by simp)
    have k' : ∀ i ∈ O, ρ'[i]? = ρ[i]? ∧ σ'[i]? = σ[i]? := fun i hi => k i (List.mem_cons_of_mem _ hi)
    rcases h with ⟨a, b⟩ | ⟨d', p, o, B', a, b, c, q, t⟩
    · exact .inl ⟨by rw [k1]; exact a, b.other k'⟩
    · exact .inr ⟨d', p, o, B', by rw [k1]; exact a, by rw [k2]; exact b, c, q, t.other k'⟩
theorem HasO.full {O : List Nat} (h : HasO O K σ ρ H G) : HasD K H σ ρ := by
  obtain ⟨B, rfl, f, own⟩ := h.ex
  refine ⟨h.len, fun i d q => ?_⟩
  by_cases hi : i ∈ O
  · obtain ⟨p, o, m, e, ob⟩ := own.at hi q
    exact ⟨.ref p, e, ob.isD f.same (joinB_in f.nd _ m)⟩
  · obtain ⟨v, e1, e2⟩ := h.non i d q hi
    exact ⟨v, e1, e2.same f.same⟩
theorem HasO.sub {O : List Nat} (h : HasO O K σ ρ H G) : Same G H := by
  obtain ⟨B, rfl, f, own⟩ := h.ex
  exact f.same
def eraseO : List Nat → Rho → Rho
  | [], ρ => ρ
  | i :: O, ρ => (eraseO O ρ).set i none
theorem eraseO_len : ∀ (O : List Nat) (ρ : Rho), (eraseO O ρ).length = ρ.length
  | [], _ => rfl
  | i :: O, ρ => by rw [eraseO, List.length_set]; exact eraseO_len O ρ
theorem eraseO_get : ∀ {O : List Nat} {ρ : Rho} {j : Nat} {d : PyData}, (eraseO O ρ)[j]? = some (some d) → j ∉ O ∧ ρ[j]? = some (some d)
  | [], _, _, _, h => ⟨by simp, h⟩
  | i :: O, ρ, j, d, h => by
    unfold eraseO at h
    by_cases hj : j = i
    · subst hj
      by_cases hl : j < (eraseO O ρ).length
      · rw [List.getElem?_set_self hl] at h; cases h
      · rw [List.getElem?_eq_none (by simpa using hl)] at h; cases h
    · rw [List.getElem?_set_ne (Ne.symm hj)] at h
      obtain ⟨a, b⟩ := eraseO_get h
      exact ⟨by simp [hj, a], b⟩
theorem HasO.rest {O : List Nat} (h : HasO O K σ ρ H G) : HasD K G σ (eraseO O ρ) := by
  refine ⟨by rw [eraseO_len]; exact h.len, fun i d q => ?_⟩
  obtain ⟨a, b⟩ := eraseO_get q
  exact h.non i d b a
theorem HasO.grow {O : List Nat} {H' : Hp} (h : HasO O K σ ρ H G) (e : Same H H') : ∃ G', Same G G' ∧ HasO O K σ ρ H' G' := by
  obtain ⟨B, rfl, f, own⟩ := h.ex
  have hB : ∀ x ∈ B, H' x.1 = some x.2 := fun x hx => e _ _ (joinB_in f.nd x hx)
  let G' : Hp := fun a => if (∃ x ∈ B, x.1 = a) then none else H' a
  have g1 : ∀ a, (∀ x ∈ B, x.1 ≠ a) → G' a = H' a := fun a ha => if_neg fun ⟨x, hx, z⟩ => ha x hx z
  have g2 : ∀ x ∈ B, G' x.1 = none := fun x hx => if_pos ⟨x, hx, rfl⟩
  have sG : Same G G' := fun a o q => by
    have ha : ∀ x ∈ B, x.1 ≠ a := fun x hx z => by
      have := f.free x hx
      rw [z, q] at this; cases this
    rw [g1 a ha]
    exact e _ _ (by rw [joinB_out ha]; exact q)
  refine ⟨G', sG, h.len, ⟨B, joinB_ext f.nd hB fun a ha => (g1 a ha).symm, ⟨f.nd, g2, f.ok⟩, own.same sG⟩, fun i d q hi => ?_⟩
  obtain ⟨v, e1, e2⟩ := h.non i d q hi
  exact ⟨v, e1, e2.same sG⟩
/-- behind a framed piece -/
theorem HasO.framed {O : List Nat} {B : List (Addr × HO)} {G' : Hp} (hl : σ.length = ρ.length) (own : OwnL K σ ρ G O B) (non : ∀ (i : Nat) (d : PyData), ρ[i]? = some (some d) → i ∉ O → ∃ v, σ[i]? = some (some v) ∧ IsD K G d v)
    (sG : Same G G') (f : Frm G' B) : HasO O K σ ρ (joinB G' B) G' :=
  ⟨hl, ⟨B, rfl, f, own.same sG⟩, fun i d q hi => let ⟨v, a, b⟩ := non i d q hi; ⟨v, a, b.same sG⟩⟩
theorem HasO.set {O : List Nat} {i : Nat} {d : PyData} {v : V} (h : HasO O K σ ρ H G) (hi : i ∉ O) (e : IsD K G d v) : HasO O K (σ.set i (some v)) (ρ.set i (some d)) H G := by
  obtain ⟨B, eH, f, own⟩ := h.ex
  refine ⟨by simpa using h.len, ⟨B, eH, f, own.other fun j hj => ?_⟩, fun j d' q hj => ?_⟩
  · have hji : i ≠ j := fun z => hi (z ▸ hj)
    exact ⟨List.getElem?_set_ne hji, List.getElem?_set_ne hji⟩
  · by_cases hji : j = i
    · subst hji
      have hl : j < ρ.length := by
        have := (List.getElem?_eq_some_iff.mp q).1
        simpa using this
      rw [List.getElem?_set_self hl] at q
      cases q
      exact ⟨v, by rw [List.getElem?_set_self (by rw [h.len]; exact hl)], e⟩
    · rw [List.getElem?_set_ne (Ne.symm hji)] at q
      obtain ⟨u, a, b⟩ := h.non j d' q hj
      exact ⟨u, by rw [List.getElem?_set_ne (Ne.symm hji)]; exact a, b⟩
/-- an own object is changed -/
theorem OwnL.upd {i : Nat} {d' : PyData} {o' : HO} {p : Addr} : ∀ {O : List Nat} {B : List (Addr × HO)}, O.Nodup → OwnL K σ ρ G O B → (B.map (·.1)).Nodup → i ∈ O → i < ρ.length → σ[i]? = some (some (.ref p)) → (∃ d, ρ[i]? = some (some d)) → OwnObj K G d' o' →
    ∃ B', OwnL K σ (ρ.set i (some d')) G O B' ∧ B'.map (·.1) = B.map (·.1) ∧ (p, o') ∈ B' ∧ ∀ x, x.1 ≠ p → (x ∈ B' ↔ x ∈ B)
  | [], _, _, _, _, hi, _, _, _, _ => by cases hi
  | j :: O, B, ndO, h, nd, hi, hl, hσ, hρ, ob => by
    have ndO' := List.nodup_cons.mp ndO
    rcases h with ⟨a, b⟩ | ⟨d, q, o, B1, a, c, rfl, ob1, t⟩
    · have hji : j ≠ i := fun z => by
        subst z
        obtain ⟨d, hd⟩ := hρ
        rw [hd] at a; cases a
      obtain ⟨B', e1, e2, e3, e4⟩ := OwnL.upd ndO'.2 b nd ((List.mem_cons.mp hi).resolve_left (Ne.symm hji)) hl hσ hρ ob
      exact ⟨B', .inl ⟨by rw [List.getElem?_set_ne (Ne.symm hji)]; exact a, e1⟩, e2, e3, e4⟩
    · have nd' := List.nodup_cons.mp (show (q :: B1.map (·.1)).Nodup from nd)
      by_cases hji : j = i
      · subst hji
        rw [hσ] at c; cases c
        refine ⟨(p, o') :: B1, .inr ⟨d', p, o', B1, List.getElem?_set_self hl, hσ, rfl, ob, t.other fun k hk => ⟨?_, rfl⟩⟩, by simp, by simp, fun x hx => ?_⟩
        · have : j ≠ k := fun z => ndO'.1 (z ▸ hk)
          exact List.getElem?_set_ne this
        · constructor
          · intro m
            rcases List.mem_cons.mp m with e | m
            · rw [e] at hx; exact absurd rfl hx
            · exact List.mem_cons_of_mem _ m
          · intro m
            rcases List.mem_cons.mp m with e | m
            · rw [e] at hx; exact absurd rfl hx
            · exact List.mem_cons_of_mem _ m
      · obtain ⟨B', e1, e2, e3, e4⟩ := OwnL.upd ndO'.2 t nd'.2 ((List.mem_cons.mp hi).resolve_left (Ne.symm hji)) hl hσ hρ ob
        refine ⟨(q, o) :: B', .inr ⟨d, q, o, B', by rw [List.getElem?_set_ne (Ne.symm hji)]; exact a, c, rfl, ob1, e1⟩, by simp [e2], List.mem_cons_of_mem _ e3, fun x hx => ?_⟩
        rw [List.mem_cons, List.mem_cons, e4 x hx]
theorem HasO.own {O : List Nat} (h : HasO O K σ ρ H G) {i : Nat} {d : PyData} (hi : i ∈ O) (hd : ρ[i]? = some (some d)) : ∃ p o, σ[i]? = some (some (.ref p)) ∧ H p = some o ∧ OwnObj K G d o := by
  obtain ⟨B, rfl, f, own⟩ := h.ex
  obtain ⟨p, o, m, e, ob⟩ := own.at hi hd
  exact ⟨p, o, e, joinB_in f.nd _ m, ob⟩
theorem HasO.put {O : List Nat} (ndO : O.Nodup) (h : HasO O K σ ρ H G) {i : Nat} {d d' : PyData} {p : Addr} {o' : HO} (hi : i ∈ O) (hd : ρ[i]? = some (some d)) (hσ : σ[i]? = some (some (.ref p))) (ob : OwnObj K G d' o') :
    HasO O K σ (ρ.set i (some d')) (L2.upd H p o') G := by
  obtain ⟨B, rfl, f, own⟩ := h.ex
  have hl : i < ρ.length := (List.getElem?_eq_some_iff.mp hd).1
  obtain ⟨B', e1, e2, e3, e4⟩ := own.upd ndO f.nd hi hl hσ ⟨d, hd⟩ ob
  have nd' : (B'.map (·.1)).Nodup := by rw [e2]; exact f.nd
  have hmem : ∀ a, (∀ x ∈ B', x.1 ≠ a) → ∀ x ∈ B, x.1 ≠ a := fun a ha x hx z => by
    have : x.1 ∈ B'.map (·.1) := by rw [e2]; exact List.mem_map.mpr ⟨x, hx, rfl⟩
    obtain ⟨y, hy, ey⟩ := List.mem_map.mp this
    exact ha y hy (ey.trans z)
  refine ⟨by simpa using h.len, ⟨B', joinB_ext nd' (fun x hx => ?_) (fun a ha => ?_), ⟨nd', fun x hx => ?_, fun x hx => ?_⟩, e1⟩, fun j d2 q hj => ?_⟩
  · by_cases hx1 : x.1 = p
    · have : x = (p, o') := by
        have a1 := joinB_in (G := G) nd' x hx
        have a2 := joinB_in (G := G) nd' (p, o') e3
        rw [hx1] at a1
        have a3 : some x.2 = some o' := a1.symm.trans a2
        have a4 : x.2 = o' := Option.some.inj a3
        exact Prod.ext hx1 a4
      subst this
      exact upd_same
    · rw [upd_ne hx1]
      exact joinB_in f.nd x ((e4 x hx1).mp hx)
  · have hp : a ≠ p := fun z => ha (p, o') e3 z.symm
    rw [upd_ne hp, joinB_out (hmem a ha)]
  · have : x.1 ∈ B.map (·.1) := by rw [← e2]; exact List.mem_map.mpr ⟨x, hx, rfl⟩
    obtain ⟨y, hy, ey⟩ := List.mem_map.mp this
    rw [← ey]; exact f.free y hy
  · by_cases hx1 : x.1 = p
    · have a1 := joinB_in (G := G) nd' x hx
      have a2 := joinB_in (G := G) nd' (p, o') e3
      rw [hx1] at a1
      have a4 : x.2 = o' := Option.some.inj (a1.symm.trans a2)
      rw [a4]; exact ob.frm
    · exact f.ok x ((e4 x hx1).mp hx)
  · have hji : j ≠ i := fun z => hj (z ▸ hi)
    rw [List.getElem?_set_ne (Ne.symm hji)] at q
    exact h.non j d2 q hj
/-- an own name is made anew: what it held stays behind -/
theorem OwnL.drop {i : Nat} : ∀ {O : List Nat} {B : List (Addr × HO)}, O.Nodup → OwnL K σ ρ G O B → (B.map (·.1)).Nodup → i ∈ O → i < ρ.length →
    ∃ B', OwnL K σ (ρ.set i none) G O B' ∧ B'.Sublist B
  | [], _, _, _, _, hi, _ => by cases hi
  | j :: O, B, ndO, h, nd, hi, hl => by
    have ndO' := List.nodup_cons.mp ndO
    rcases h with ⟨a, b⟩ | ⟨d, q, o, B1, a, c, rfl, ob1, t⟩
    · by_cases hji : j = i
      · subst hji
        refine ⟨B, .inl ⟨by rw [List.getElem?_set_self hl]; rfl, b.other fun k hk => ⟨?_, rfl⟩⟩, List.Sublist.refl _⟩
        have : j ≠ k := fun z => ndO'.1 (z ▸ hk)
        exact List.getElem?_set_ne this
      · obtain ⟨B', e1, e2⟩ := OwnL.drop ndO'.2 b nd ((List.mem_cons.mp hi).resolve_left (Ne.symm hji)) hl
        exact ⟨B', .inl ⟨by rw [List.getElem?_set_ne (Ne.symm hji)]; exact a, e1⟩, e2⟩
    · have nd' := List.nodup_cons.mp (show (q :: B1.map (·.1)).Nodup from nd)
      by_cases hji : j = i
      · subst hji
        refine ⟨B1, .inl ⟨by rw [List.getElem?_set_self hl]; rfl, t.other fun k hk => ⟨?_, rfl⟩⟩, List.sublist_cons_self _ _⟩
        have : j ≠ k := fun z => ndO'.1 (z ▸ hk)
        exact List.getElem?_set_ne this
      · obtain ⟨B', e1, e2⟩ := OwnL.drop ndO'.2 t nd'.2 ((List.mem_cons.mp hi).resolve_left (Ne.symm hji)) hl
        exact ⟨(q, o) :: B', .inr ⟨d, q, o, B', by rw [List.getElem?_set_ne (Ne.symm hji)]; exact a, c, rfl, ob1, e1⟩, e2.cons_cons _⟩
theorem HasO.drop {O : List Nat} (ndO : O.Nodup) (h : HasO O K σ ρ H G) {i : Nat} (hi : i ∈ O) (hl : i < ρ.length) : ∃ G', Same G G' ∧ HasO O K σ (ρ.set i none) H G' := by
  obtain ⟨B, rfl, f, own⟩ := h.ex
  obtain ⟨B', e1, e2⟩ := own.drop ndO f.nd hi hl
  have nd' : (B'.map (·.1)).Nodup := f.nd.sublist (e2.map _)
  have mem : ∀ x ∈ B', x ∈ B := fun x hx => e2.subset hx
  let G' : Hp := fun a => if (∃ x ∈ B', x.1 = a) then none else joinB G B a
  have g1 : ∀ a, (∀ x ∈ B', x.1 ≠ a) → G' a = joinB G B a := fun a ha => if_neg fun ⟨x, hx, z⟩ => ha x hx z
  have g2 : ∀ x ∈ B', G' x.1 = none := fun x hx => if_pos ⟨x, hx, rfl⟩
  have sG : Same G G' := fun a o q => by
    have ha : ∀ x ∈ B, x.1 ≠ a := fun x hx z => by
      have := f.free x hx
      rw [z, q] at this; cases this
    rw [g1 a fun x hx => ha x (mem x hx), joinB_out ha]
    exact q
  refine ⟨G', sG, by simpa using h.len, ⟨B', joinB_ext nd' (fun x hx => joinB_in f.nd x (mem x hx)) (fun a ha => (g1 a ha).symm), ⟨nd', g2, fun x hx => f.ok x (mem x hx)⟩, e1.same sG⟩, fun j d q hj => ?_⟩
  have hji : j ≠ i := fun z => hj (z ▸ hi)
  rw [List.getElem?_set_ne (Ne.symm hji)] at q
  obtain ⟨v, a, b⟩ := h.non j d q hj
  exact ⟨v, a, b.same sG⟩
theorem OwnL.ins {i : Nat} {d' : PyData} {o' : HO} {p : Addr} : ∀ {O : List Nat} {B : List (Addr × HO)}, O.Nodup → OwnL K σ ρ G O B → i ∈ O → i < ρ.length → i < σ.length → (ρ[i]?).join = none → OwnObj K G d' o' →
    ∃ B', OwnL K (σ.set i (some (.ref p))) (ρ.set i (some d')) G O B' ∧ B'.Perm ((p, o') :: B)
  | [], _, _, _, hi, _, _, _, _ => by cases hi
  | j :: O, B, ndO, h, hi, hl, hl2, hn, ob => by
    have ndO' := List.nodup_cons.mp ndO
    by_cases hji : j = i
    · subst hji
      have oth : ∀ k ∈ O, (ρ.set j (some d'))[k]? = ρ[k]? ∧ (σ.set j (some (.ref p)))[k]? = σ[k]? := fun k hk => by
        have : j ≠ k := fun z => ndO'.1 (z ▸ hk)
        exact ⟨List.getElem?_set_ne this, List.getElem?_set_ne this⟩
      rcases h with ⟨a, b⟩ | ⟨d, q, o, B1, a, c, rfl, ob1, t⟩
      · exact ⟨(p, o') :: B, .inr ⟨d', p, o', B, List.getElem?_set_self hl, List.getElem?_set_self hl2, rfl, ob, b.other oth⟩, List.Perm.refl _⟩
      · rw [a] at hn; cases hn
    · have hi' := (List.mem_cons.mp hi).resolve_left (Ne.symm hji)
      rcases h with ⟨a, b⟩ | ⟨d, q, o, B1, a, c, rfl, ob1, t⟩
      · obtain ⟨B', e1, e2⟩ := OwnL.ins (p := p) ndO'.2 b hi' hl hl2 hn ob
        exact ⟨B', .inl ⟨by rw [List.getElem?_set_ne (Ne.symm hji)]; exact a, e1⟩, e2⟩
      · obtain ⟨B', e1, e2⟩ := OwnL.ins (p := p) ndO'.2 t hi' hl hl2 hn ob
        exact ⟨(q, o) :: B', .inr ⟨d, q, o, B', by rw [List.getElem?_set_ne (Ne.symm hji)]; exact a, by rw [List.getElem?_set_ne (Ne.symm hji)]; exact c, rfl, ob1, e1⟩, (e2.cons _).trans (List.Perm.swap _ _ _)⟩
theorem HasO.new {O : List Nat} (ndO : O.Nodup) (h : HasO O K σ ρ H G) {i : Nat} {d' : PyData} {o' : HO} {p : Addr} (hi : i ∈ O) (hl : i < ρ.length) (hp : H p = none) (ob : OwnObj K G d' o') :
    ∃ G', Same G G' ∧ HasO O K (σ.set i (some (.ref p))) (ρ.set i (some d')) (L2.upd H p o') G' := by
  obtain ⟨G1, s1, h1⟩ := h.drop ndO hi hl
  obtain ⟨B, eH, f, own⟩ := h1.ex
  have hl1 : i < (ρ.set i none).length := by simpa using hl
  obtain ⟨B', e1, e2⟩ := own.ins (p := p) ndO hi hl1 (by rw [h1.len]; exact hl1) (by rw [List.getElem?_set_self hl]; rfl) (ob.same s1)
  rw [List.set_set] at e1
  have hG1 : G1 p = none := by
    cases q : G1 p with
    | none => rfl
    | some u =>
      have := f.same p u q
      rw [← eH, hp] at this; cases this
  have hpB : ∀ x ∈ B, x.1 ≠ p := fun x hx z => by
    have := joinB_in (G := G1) f.nd x hx
    rw [← eH, z, hp] at this; cases this
  have nd' : (B'.map (·.1)).Nodup := (e2.map (·.1)).nodup_iff.mpr (by
    rw [List.map_cons, List.nodup_cons]
    exact ⟨fun m => by
      obtain ⟨x, hx, z⟩ := List.mem_map.mp m
      exact hpB x hx z, f.nd⟩)
  refine ⟨G1, s1, by simpa using h.len, ⟨B', joinB_ext nd' (fun x hx => ?_) (fun a ha => ?_), ⟨nd', fun x hx => ?_, fun x hx => ?_⟩, e1⟩, fun j d q hj => ?_⟩
  · rcases List.mem_cons.mp (e2.mem_iff.mp hx) with e | m
    · subst e; exact upd_same
    · rw [upd_ne (hpB x m), eH]; exact joinB_in f.nd x m
  · have hap : a ≠ p := fun z => ha (p, o') (e2.mem_iff.mpr (by simp)) z.symm
    rw [upd_ne hap, eH, joinB_out fun x hx => ha x (e2.mem_iff.mpr (List.mem_cons_of_mem _ hx))]
  · rcases List.mem_cons.mp (e2.mem_iff.mp hx) with e | m
    · subst e; exact hG1
    · exact f.free x m
  · rcases List.mem_cons.mp (e2.mem_iff.mp hx) with e | m
    · subst e; exact ob.frm
    · exact f.ok x m
  · have hji : j ≠ i := fun z => hj (z ▸ hi)
    rw [List.getElem?_set_ne (Ne.symm hji)] at q
    obtain ⟨v, a, b⟩ := h1.non j d (by rw [List.getElem?_set_ne (Ne.symm hji)]; exact q) hj
    exact ⟨v, by rw [List.getElem?_set_ne (Ne.symm hji)]; exact a, b⟩
end
end L2

end
section
set_option Elab.async false
set_option linter.all false
set_option maxRecDepth 100000
set_option maxHeartbeats 1000000
namespace L2
open PySem PySem.Spec PyProof.Rows

/-! ### dicts whose keys are tuples -/
mutual
theorem key_reads {P : Program} {w : World} {H : Hp} {h : Heap} (ok : HOk P w H h) : ∀ {d : PyData} {v : V} {u : Value}, KeyH H d v → RelV v u → ∃ as, Reads h u d as
  | .int i, _, _, k, r => by
    unfold KeyH at k
    subst k
    obtain ⟨t, rfl⟩ := r
    exact ⟨_, .int i t⟩
  | .str x, _, _, k, r => by
    unfold KeyH at k
    subst k
    obtain ⟨t, rfl⟩ := r
    exact ⟨_, .str x t⟩
  | .tuple xs, _, _, k, r => by
    unfold KeyH at k
    obtain ⟨p, vs, rfl, e, ks⟩ := k
    cases r
    obtain ⟨_, its, rv, o, h1, h2, n, h3⟩ := (show ObjOk P w H h p (.tup vs) from ok p _ e)
    obtain ⟨as, ra⟩ := keys_reads ok ks rv
    exact ⟨_, .tuple h1 h2 h3 (by simpa using ra)⟩
  | .none, _, _, k, _ => by unfold KeyH at k; exact k.elim
  | .bool _, _, _, k, _ => by unfold KeyH at k; exact k.elim
  | .list _, _, _, k, _ => by unfold KeyH at k; exact k.elim
  | .dict _, _, _, k, _ => by unfold KeyH at k; exact k.elim
theorem keys_reads {P : Program} {w : World} {H : Hp} {h : Heap} (ok : HOk P w H h) : ∀ {ds : List PyData} {vs : List V} {us : List Value}, KeyHs H ds vs → Vals vs us → ∃ as, ReadsAll h us ds as
  | [], _, _, k, r => by
    unfold KeyHs at k
    subst k
    cases r
    exact ⟨_, .nil⟩
  | d :: ds, _, _, k, r => by
    unfold KeyHs at k
    obtain ⟨v, rr, rfl, k1, k2⟩ := k
    cases r with
    | cons r1 r2 =>
      obtain ⟨as, ra⟩ := key_reads ok k1 r1
      obtain ⟨bs, rb⟩ := keys_reads ok k2 r2
      exact ⟨_, .cons ra rb⟩
end
theorem KeyOk.at {P : Program} {w : World} {H : Hp} {h : Heap} {d : PyData} {a : Addr} (k : KeyOk H d a) (ok : HOk P w H h) : TK.KeyAt h d a := by
  obtain ⟨k1, k2, k3, k4⟩ := k
  obtain ⟨as, r⟩ := key_reads ok k4 (u := .ref a) rfl
  exact ⟨k1, k2, k3, as, r⟩
mutual
theorem isD_key {K : PySem.W.Frag} {H : Hp} : ∀ {d : PyData} {v : V}, TK.hkD d = true → IsD K H d v → KeyH H d v
  | .int _, _, _, h => by unfold KeyH; exact IsD.int_iff.mp h
  | .str _, _, _, h => by unfold KeyH; exact IsD.str_iff.mp h
  | .tuple xs, _, hk, h => by
    obtain ⟨p, vs, e1, e2, e3⟩ := IsD.tuple_iff'.mp h
    unfold KeyH
    exact ⟨p, vs, e1, e2, isDs_keys (by simpa [TK.hkD] using hk) e3⟩
  | .none, _, hk, _ => by simp [TK.hkD] at hk
  | .bool _, _, hk, _ => by simp [TK.hkD] at hk
  | .list _, _, hk, _ => by simp [TK.hkD] at hk
  | .dict _, _, hk, _ => by simp [TK.hkD] at hk
theorem isDs_keys {K : PySem.W.Frag} {H : Hp} : ∀ {ds : List PyData} {vs : List V}, TK.hkDs ds = true → IsDs K H ds vs → KeyHs H ds vs
  | [], _, _, h => by unfold KeyHs; exact IsDs.nil_iff.mp h
  | d :: ds, _, hk, h => by
    have hk' : TK.hkD d = true ∧ TK.hkDs ds = true := by simpa [TK.hkDs] using hk
    obtain ⟨v, r, e1, e2, e3⟩ := IsDs.cons_iff.mp h
    unfold KeyHs
    exact ⟨v, r, e1, isD_key hk'.1 e2, isDs_keys hk'.2 e3⟩
end
/-- a tuple that may be a key -/
def isKey (d : PyData) : Bool := (match d with | .tuple _ => true | _ => false) && TK.hkD d && d.canLay0 && decide (d.depth ≤ 8)
theorem isKey_ok {K : PySem.W.Frag} {H : Hp} {d : PyData} {v : V} (h : isKey d = true) (i : IsD K H d v) : ∃ a, v = .ref a ∧ KeyOk H d a := by
  unfold isKey at h
  simp only [Bool.and_eq_true, decide_eq_true_eq] at h
  obtain ⟨⟨⟨h0, h1⟩, h2⟩, h3⟩ := h
  cases d <;> try (simp at h0; done)
  have k := isD_key h1 i
  obtain ⟨p, vs, e1, _, _⟩ := IsD.tuple_iff'.mp i
  exact ⟨p, e1, h1, h2, h3, by rw [← e1]; exact k⟩
noncomputable def putV (kvs : List (PyData × V)) (k : PyData) (v : V) : List (PyData × V) := if k ∈ kvs.map (·.1) then kvs.map (fun kv => if kv.1 = k then (kv.1, v) else kv) else kvs ++ [(k, v)]
noncomputable def putD (kvs : List (PyData × PyData)) (k v : PyData) : List (PyData × PyData) := if k ∈ kvs.map (·.1) then kvs.map (fun kv => if kv.1 = k then (kv.1, v) else kv) else kvs ++ [(k, v)]
theorem length_putV (kvs : List (PyData × V)) (k : PyData) (v : V) : (putV kvs k v).length ≤ kvs.length + 1 := by
  unfold putV
  split
  · rw [List.length_map]; omega
  · rw [List.length_append, List.length_cons, List.length_nil]; omega
theorem IsKV.keys {K : PySem.W.Frag} {H : Hp} : ∀ {kvs : List (PyData × PyData)} {kv : List (PyData × V)}, IsKV K H kvs kv → kv.map (·.1) = kvs.map (·.1)
  | [], _, h => by rw [IsKV.nil_iff.mp h]; rfl
  | (k, d) :: r, _, h => by
    obtain ⟨v, r', rfl, _, t⟩ := IsKV.cons_iff.mp h
    simp [IsKV.keys t]
theorem IsKV.repl {K : PySem.W.Frag} {H : Hp} {k d : PyData} {v : V} (i : IsD K H d v) : ∀ {kvs : List (PyData × PyData)} {kv : List (PyData × V)}, IsKV K H kvs kv →
    IsKV K H (kvs.map fun x => if x.1 = k then (x.1, d) else x) (kv.map fun x => if x.1 = k then (x.1, v) else x)
  | [], _, h => by rw [IsKV.nil_iff.mp h]; exact IsKV.nil_iff.mpr rfl
  | (k', d') :: r, _, h => by
    obtain ⟨v', r', rfl, i', t⟩ := IsKV.cons_iff.mp h
    rw [List.map_cons, List.map_cons]
    by_cases e : k' = k
    · rw [if_pos e, if_pos e]; exact IsKV.cons_iff.mpr ⟨_, _, rfl, i, IsKV.repl i t⟩
    · rw [if_neg e, if_neg e]; exact IsKV.cons_iff.mpr ⟨_, _, rfl, i', IsKV.repl i t⟩
theorem IsKV.snoc {K : PySem.W.Frag} {H : Hp} {k d : PyData} {v : V} (i : IsD K H d v) : ∀ {kvs : List (PyData × PyData)} {kv : List (PyData × V)}, IsKV K H kvs kv → IsKV K H (kvs ++ [(k, d)]) (kv ++ [(k, v)])
  | [], _, h => by rw [IsKV.nil_iff.mp h]; exact IsKV.cons_iff.mpr ⟨_, _, rfl, i, IsKV.nil_iff.mpr rfl⟩
  | (k', d') :: r, _, h => by
    obtain ⟨v', r', rfl, i', t⟩ := IsKV.cons_iff.mp h
    exact IsKV.cons_iff.mpr ⟨_, _, rfl, i', IsKV.snoc i t⟩
theorem IsKV.put {K : PySem.W.Frag} {H : Hp} {kvs : List (PyData × PyData)} {kv : List (PyData × V)} {k d : PyData} {v : V} (h : IsKV K H kvs kv) (i : IsD K H d v) : IsKV K H (putD kvs k d) (putV kv k v) := by
  unfold putD putV
  rw [h.keys]
  by_cases e : k ∈ kvs.map (·.1)
  · rw [if_pos e, if_pos e]; exact h.repl i
  · rw [if_neg e, if_neg e]; exact h.snoc i
theorem IsKV.length {K : PySem.W.Frag} {H : Hp} {kvs : List (PyData × PyData)} {kv : List (PyData × V)} (h : IsKV K H kvs kv) : kvs.length = kv.length := by
  have := congrArg List.length h.keys
  simpa using this.symm
section
variable {H : Hp} {kvs : List (PyData × V)} {xs : List (PyData × Addr × Value)}
theorem KD0.has (r : KD0 H kvs xs) (k : PyData) : (atKey xs k).isSome = decide (k ∈ kvs.map (·.1)) := by
  induction r with
  | nil => simp [atKey]
  | @cons p q ps qs h t ih =>
    obtain ⟨h1, _, _⟩ := h
    by_cases e : p.1 = k
    · have e' : q.1 = k := h1.symm.trans e
      simp [atKey, List.find?_cons, e', e]
    · have e' : ¬ q.1 = k := fun z => e (h1.trans z)
      have a : atKey (q :: qs) k = atKey qs k := by simp [atKey, List.find?_cons, e']
      rw [a, ih]
      have : (k ∈ (p :: ps).map (·.1)) ↔ (k ∈ ps.map (·.1)) := by
        rw [List.map_cons, List.mem_cons]
        exact ⟨fun z => z.resolve_left fun y => e y.symm, .inr⟩
      exact decide_eq_decide.mpr this.symm
theorem KD0.repl (r : KD0 H kvs xs) (k : PyData) {y : V} {u : Value} (ry : RelV y u) : KD0 H (kvs.map fun kv => if kv.1 = k then (kv.1, y) else kv) (xs.map (putAt k u)) := by
  induction r with
  | nil => exact .nil
  | @cons p q ps qs h t ih =>
    rw [List.map_cons, List.map_cons]
    refine .cons ?_ ih
    obtain ⟨h1, h2, h3⟩ := h
    by_cases e : p.1 = k
    · have e' : q.1 = k := h1.symm.trans e
      rw [if_pos e, putAt, if_pos e']
      exact ⟨h1, h2, ry⟩
    · have e' : ¬ q.1 = k := fun z => e (h1.trans z)
      rw [if_neg e, putAt, if_neg e']
      exact ⟨h1, h2, h3⟩
theorem KD0.snoc (r : KD0 H kvs xs) {k : PyData} {a : Addr} {y : V} {u : Value} (hk : KeyOk H k a) (ry : RelV y u) : KD0 H (kvs ++ [(k, y)]) (xs ++ [(k, a, u)]) := by
  induction r with
  | nil => exact .cons ⟨rfl, hk, ry⟩ .nil
  | cons h t ih => exact .cons h ih
theorem KD0.put (r : KD0 H kvs xs) {k : PyData} {a : Addr} {y : V} {u : Value} (hk : KeyOk H k a) (ry : RelV y u) : KD0 H (putV kvs k y) (storedH xs k a u) := by
  have e := r.has k
  unfold putV storedH
  by_cases q : k ∈ kvs.map (·.1)
  · rw [decide_eq_true q] at e
    rw [if_pos q, if_pos e]; exact r.repl k ry
  · rw [decide_eq_false q] at e
    rw [if_neg q, if_neg (by rw [e]; exact Bool.false_ne_true)]; exact r.snoc hk ry
end
section
variable {X : Cx} {pins : List (Addr × Obj)} {σ : St} {H : Hp} {s : Shared} {a : Addr}
theorem Inv.dD (I : Inv X pins σ H s) {kvs : List (PyData × V)} (e : H a = some (.dD kvs)) : kvs.length ≤ sizeLine ∧ (a == sysModules) = false ∧ ∃ xs, KD0 H kvs xs ∧ s.heap.DictOfH (TK.treeKind X.prog X.w) a xs := by
  obtain ⟨z, y, xs, r, o, es, ep, h1, h2, h3, h4, h5⟩ := (show ObjOk X.prog X.w H s.heap a (.dD kvs) from I.hok a _ e)
  refine ⟨z, y, xs, r, o, es, ep, h1, h2, h3, h4, fun x hx => ?_, h5⟩
  have all : ∀ {l : List (PyData × V)} {m : List (PyData × Addr × Value)}, KD0 H l m → ∀ x ∈ m, TK.KeyAt s.heap x.1 x.2.1 := by
    intro l m q
    induction q with
    | nil => intro x hx; exact nomatch hx
    | @cons p q ps qs hq t ih =>
      intro x hx
      rcases List.mem_cons.mp hx with e | hx
      · subst e
        rw [← hq.1]
        exact hq.2.1.at I.hok
      · exact ih x hx
  exact all r x hx
theorem op_in_dD (hu : X.A.units + 64 < cLine) : OpR X (compareOp .In) (fun x y H Q => ∃ a p kvs k, x = .ref a ∧ y = .ref p ∧ H p = some (.dD kvs) ∧ KeyOk H k a ∧ Q (.bl (decide (k ∈ kvs.map (·.1)))) H) := by
  intro pins s σ H x y v u Q I rx ry h
  obtain ⟨a, p, kvs, k, rfl, rfl, hp, hk, q⟩ := h
  cases rx
  cases ry
  obtain ⟨z, hd, xs, rel, dd⟩ := I.dD hp
  refine wpAny_in_heap (knd := TK.treeKind X.prog X.w) (by show X.A.units + 1 + 8 < cLine; omega) (hk.at I.hok) hd dd ?_
  rw [rel.has k]
  exact ⟨.bl _, H, I.tok _, rfl, q⟩
theorem op_notIn_dD (hu : X.A.units + 64 < cLine) : OpR X (compareOp .NotIn) (fun x y H Q => ∃ a p kvs k, x = .ref a ∧ y = .ref p ∧ H p = some (.dD kvs) ∧ KeyOk H k a ∧ Q (.bl (!decide (k ∈ kvs.map (·.1)))) H) := by
  intro pins s σ H x y v u Q I rx ry h
  obtain ⟨a, p, kvs, k, rfl, rfl, hp, hk, q⟩ := h
  cases rx
  cases ry
  obtain ⟨z, hd, xs, rel, dd⟩ := I.dD hp
  refine wpAny_notIn_heap (knd := TK.treeKind X.prog X.w) (by show X.A.units + 1 + 8 < cLine; omega) (hk.at I.hok) hd dd ?_
  rw [rel.has k]
  exact ⟨.bl _, H, I.tok _, rfl, q⟩
def rSetD : V → V → V → Hp → (Hp → Prop) → Prop := fun o i v H Q => ∃ p a kvs k, o = .ref p ∧ i = .ref a ∧ H p = some (.dD kvs) ∧ KeyOk H k a ∧ kvs.length < sizeLine ∧ Q (upd H p (.dD (putV kvs k v)))
theorem set_dD (hu : X.A.units + 64 < cLine) : PSet X rSetD := by
  intro pins s σ H o i v ov iv u Q I ro ri rv h
  obtain ⟨p, a, kvs, k, rfl, rfl, hp, hk, hl, q⟩ := h
  cases ro
  cases ri
  obtain ⟨z, hd, xs, rel, dd⟩ := I.dD hp
  have hz : xs.length ≤ sizeLine := by rw [← Paired.length rel]; exact z
  have hl2 : (putV kvs k v).length ≤ sizeLine := by have := length_putV kvs k v; omega
  refine wpAny_setItem_heap (knd := TK.treeKind X.prog X.w) (hsz := hz) (by show X.A.units + 1 + 8 < cLine; omega) (hk.at I.hok) dd fun h' dd' hs => ?_
  obtain ⟨ob, es, ep, hq, h2, h3, h4, _, h5⟩ := dd'
  refine ⟨upd H p (.dD (putV kvs k v)), I.write (x := p) (e := p) (by rw [hp]; exact True.intro) (.inl rfl) (fun b u hb z => (hs.2 b hb).trans z) ⟨ob, hq⟩ ⟨hl2, hd, _, Paired.mapP (rel.put hk rv) fun p' q' z => ⟨z.1, ⟨z.2.1.1, z.2.1.2.1, z.2.1.2.2.1, KeyH.stay (fun b ys e => ?_) z.2.1.2.2.2⟩, z.2.2⟩, ob, es, ep, hq, h2, h3, h4, h5⟩, q⟩
  rw [upd_ne (ne_of e hp (fun z => nomatch z))]
  exact e
theorem Inv.bigD (I : Inv X pins σ H s) : sysModules < s.heap.objs.size := by
  have h : mainGlobals < s.heap.objs.size := (I.mod.glob.keeps I.bk).lt
  exact Nat.lt_trans (by decide) h
def tDNewD : TE := fun _ H Q => ∀ p, H p = none → Q (.ref p) (upd H p (.dD []))
theorem pe_dnewD {pos : Pos} : PE X (.Dict [] [] pos) tDNewD := fun pins s σ H Q I h =>
  wpAny_Dict_empty ⟨.ref s.heap.objs.size, _, I.laid (a := s.heap.objs.size) (o := .dD []) (t' := s.toks) (fun _ _ q => Heap.get?_push_of_some _ q) (Nat.le_refl _)
    ⟨Nat.zero_le _, beq_eq_false_iff_ne.mpr (Ne.symm (Nat.ne_of_lt I.bigD)), [], .nil, _, #[], 0, Heap.get?_push_size _ rfl, ⟨rfl, rfl, rfl⟩, rfl, rfl, List.nodup_nil⟩, rfl, h _ (I.hok.fresh (Nat.le_refl _))⟩

/-! ### in, not in, over data -/
theorem in_reads (I : Inv X pins σ H s) {A : Around} {x : PyData} {v : V} {u : Value} (hx : SeqAt.shaped x = true) (ix : IsD X.K H x v) (ru : RelV v u) (hu : A.units + x.depth < cLine) :
    ∀ {ds : List PyData} {vs : List V} {us : List Value}, (∀ d ∈ ds, SeqAt.shaped d = true) → IsDs X.K H ds vs → Vals vs us → ∃ e : Value → Bool, (∀ y ∈ us, SeqAt.EqAt A s y u (e y)) ∧ us.any e = ds.any fun d => PyData.eqv d x := by
  obtain ⟨as, rx⟩ := I.readsD (SeqAt.canLay_of_shaped hx) ix ru
  -- the answer of a value, read off it
  let e : Value → Bool := fun y => @decide (∃ d bs, Reads s.heap y d bs ∧ SeqAt.shaped d = true ∧ PyData.eqv d x = true) (Classical.propDecidable _)
  have he : ∀ (d : PyData) (bs : List Addr) (y : Value), Reads s.heap y d bs → SeqAt.shaped d = true → e y = PyData.eqv d x := fun d bs y r hd => by
    cases q : PyData.eqv d x with
    | true => exact @decide_eq_true _ (Classical.propDecidable _) ⟨d, bs, r, hd, q⟩
    | false =>
      refine @decide_eq_false _ (Classical.propDecidable _) fun ⟨d', bs', r', hd', q'⟩ => ?_
      have := SeqAt.Reads.unique d d' y _ _ (SeqAt.canLay_of_shaped hd) r r'
      subst this
      rw [q] at q'; cases q'
  intro ds
  have main : ∀ {ds : List PyData} {vs : List V} {us : List Value}, (∀ d ∈ ds, SeqAt.shaped d = true) → IsDs X.K H ds vs → Vals vs us → (∀ y ∈ us, SeqAt.EqAt A s y u (e y)) ∧ us.any e = ds.any fun d => PyData.eqv d x := by
    intro ds
    induction ds with
    | nil =>
      intro vs us _ i r
      rw [IsDs.nil_iff.mp i] at r
      cases r
      exact ⟨(fun y hy => by cases hy), rfl⟩
    | cons d ds ih =>
      intro vs us hs i r
      obtain ⟨v', r', rfl, i1, i2⟩ := IsDs.cons_iff.mp i
      cases r with
      | cons r1 r2 =>
        obtain ⟨a1, a2⟩ := ih (fun d hd => hs d (List.mem_cons_of_mem _ hd)) i2 r2
        have hd := hs d (by simp)
        obtain ⟨bs, rd⟩ := I.readsD (SeqAt.canLay_of_shaped hd) i1 r1
        have ed := he d bs _ rd hd
        refine ⟨fun y hy => ?_, by rw [List.any_cons, List.any_cons, ed, a2]⟩
        rcases List.mem_cons.mp hy with q | q
        · subst q
          rw [ed]
          refine SeqAt.eqAt_reads d x A s _ _ bs as rd rx (SeqAt.canLay_of_shaped hd) (SeqAt.canLay_of_shaped hx) ?_
          have : min d.depth x.depth ≤ x.depth := Nat.min_le_right _ _
          omega
        · exact a1 y q
  intro vs us h1 h2 h3
  exact ⟨e, main h1 h2 h3⟩
noncomputable def dInB : PyData → PyData → Option Bool
  | x, .list xs => if SeqAt.shaped x = true ∧ xs.all SeqAt.shaped = true ∧ x.depth ≤ 60 then some (xs.any fun y => PyData.eqv y x) else none
  | x, .tuple xs => if SeqAt.shaped x = true ∧ xs.all SeqAt.shaped = true ∧ x.depth ≤ 60 then some (xs.any fun y => PyData.eqv y x) else none
  | x, .dict kvs => if isKey x = true then some (decide (x ∈ kvs.map (·.1))) else none
  | _, _ => none
noncomputable def dIn (x y : PyData) : Option PyData := (dInB x y).map .bool
noncomputable def dNotIn (x y : PyData) : Option PyData := (dInB x y).map fun b => .bool (!b)
theorem in_seqD (hu : X.A.units + 64 < cLine) : OpR X (compareOp .In) (fun x y H Q => ∃ p d ds vs, y = .ref p ∧ (SqL X.K H p vs ∨ SqT X.K H p vs) ∧ IsD X.K H d x ∧ IsDs X.K H ds vs ∧ SeqAt.shaped d = true ∧ ds.all SeqAt.shaped = true ∧ d.depth ≤ 60 ∧
    Q (.bl (ds.any fun y => PyData.eqv y d)) H) := by
  intro pins s σ H x y v u Q I rx ry h
  obtain ⟨p, d, ds, vs, rfl, hq, ix, is, hd, hds, hdd, q⟩ := h
  cases ry
  have hds' : ∀ d ∈ ds, SeqAt.shaped d = true := List.all_eq_true.mp hds
  have hu1 : X.A.in1.units + d.depth < cLine := by show X.A.units + 1 + d.depth < cLine; omega
  rcases hq with hq | hq
  · obtain ⟨its, r, pl, hz⟩ := I.list hq
    obtain ⟨e, e1, e2⟩ := in_reads I (A := X.A.in1) hd ix rx hu1 hds' is r
    refine SeqAt.in_listAt e pl.isList (fun y hy => e1 y (by simpa using hy)) ⟨.bl _, H, I, rfl, ?_⟩
    rw [show its.toArray.any e = its.any e by simp, e2]
    exact q
  · obtain ⟨its, r, pl, hz⟩ := I.tuple hq
    obtain ⟨e, e1, e2⟩ := in_reads I (A := X.A.in1) hd ix rx hu1 hds' is r
    refine SeqAt.in_tupleAt e pl (fun y hy => e1 y (by simpa using hy)) ⟨.bl _, H, I, rfl, ?_⟩
    rw [show its.toArray.any e = its.any e by simp, e2]
    exact q
theorem notIn_seqD (hu : X.A.units + 64 < cLine) : OpR X (compareOp .NotIn) (fun x y H Q => ∃ p d ds vs, y = .ref p ∧ (SqL X.K H p vs ∨ SqT X.K H p vs) ∧ IsD X.K H d x ∧ IsDs X.K H ds vs ∧ SeqAt.shaped d = true ∧ ds.all SeqAt.shaped = true ∧ d.depth ≤ 60 ∧
    Q (.bl (!(ds.any fun y => PyData.eqv y d))) H) := by
  intro pins s σ H x y v u Q I rx ry h
  obtain ⟨p, d, ds, vs, rfl, hq, ix, is, hd, hds, hdd, q⟩ := h
  cases ry
  have hds' : ∀ d ∈ ds, SeqAt.shaped d = true := List.all_eq_true.mp hds
  have hu1 : X.A.in1.units + d.depth < cLine := by show X.A.units + 1 + d.depth < cLine; omega
  rcases hq with hq | hq
  · obtain ⟨its, r, pl, hz⟩ := I.list hq
    obtain ⟨e, e1, e2⟩ := in_reads I (A := X.A.in1) hd ix rx hu1 hds' is r
    refine SeqAt.notIn_listAt e pl.isList (fun y hy => e1 y (by simpa using hy)) ⟨.bl _, H, I, rfl, ?_⟩
    rw [show its.toArray.any e = its.any e by simp, e2]
    exact q
  · obtain ⟨its, r, pl, hz⟩ := I.tuple hq
    obtain ⟨e, e1, e2⟩ := in_reads I (A := X.A.in1) hd ix rx hu1 hds' is r
    refine SeqAt.notIn_tupleAt e pl (fun y hy => e1 y (by simpa using hy)) ⟨.bl _, H, I, rfl, ?_⟩
    rw [show its.toArray.any e = its.any e by simp, e2]
    exact q
theorem od_in (hu : X.A.units + 64 < cLine) : OpD X (compareOp .In) dIn := by
  refine OpR.imp ((in_seqD hu).or (op_in_dD hu)) fun x y H Q ⟨a, b, c, ia, ib, e, k⟩ => ?_
  obtain ⟨t, e1, e2⟩ := Option.map_eq_some_iff.mp e
  subst e2
  cases b <;> try (simp [dInB] at e1; done)
  · rename_i ys
    dsimp only [dInB] at e1
    by_cases hc : SeqAt.shaped a = true ∧ ys.all SeqAt.shaped = true ∧ a.depth ≤ 60
    · rw [if_pos hc] at e1; cases e1
      obtain ⟨p, vs, rfl, e2, e3⟩ := IsD.list_iff.mp ib
      exact .inl ⟨p, a, ys, vs, rfl, .inl e2, ia, e3, hc.1, hc.2.1, hc.2.2, k.here (IsD.bool_iff.mpr rfl)⟩
    · rw [if_neg hc] at e1; cases e1
  · rename_i ys
    dsimp only [dInB] at e1
    by_cases hc : SeqAt.shaped a = true ∧ ys.all SeqAt.shaped = true ∧ a.depth ≤ 60
    · rw [if_pos hc] at e1; cases e1
      obtain ⟨p, vs, rfl, e2, e3⟩ := ib.tuple_of
      exact .inl ⟨p, a, ys, vs, rfl, .inr e2, ia, e3, hc.1, hc.2.1, hc.2.2, k.here (IsD.bool_iff.mpr rfl)⟩
    · rw [if_neg hc] at e1; cases e1
  · rename_i kvs
    dsimp only [dInB] at e1
    by_cases hc : isKey a = true
    · rw [if_pos hc] at e1; cases e1
      obtain ⟨p, kv, rfl, e2, e3⟩ := IsD.dict_iff.mp ib
      obtain ⟨q, rfl, hk⟩ := isKey_ok hc ia
      refine .inr ⟨q, p, kv, a, rfl, rfl, e2, hk, ?_⟩
      rw [e3.keys]
      exact k.here (IsD.bool_iff.mpr rfl)
    · rw [if_neg hc] at e1; cases e1
theorem od_notin (hu : X.A.units + 64 < cLine) : OpD X (compareOp .NotIn) dNotIn := by
  refine OpR.imp ((notIn_seqD hu).or (op_notIn_dD hu)) fun x y H Q ⟨a, b, c, ia, ib, e, k⟩ => ?_
  obtain ⟨t, e1, e2⟩ := Option.map_eq_some_iff.mp e
  subst e2
  cases b <;> try (simp [dInB] at e1; done)
  · rename_i ys
    dsimp only [dInB] at e1
    by_cases hc : SeqAt.shaped a = true ∧ ys.all SeqAt.shaped = true ∧ a.depth ≤ 60
    · rw [if_pos hc] at e1; cases e1
      obtain ⟨p, vs, rfl, e2, e3⟩ := IsD.list_iff.mp ib
      exact .inl ⟨p, a, ys, vs, rfl, .inl e2, ia, e3, hc.1, hc.2.1, hc.2.2, k.here (IsD.bool_iff.mpr rfl)⟩
    · rw [if_neg hc] at e1; cases e1
  · rename_i ys
    dsimp only [dInB] at e1
    by_cases hc : SeqAt.shaped a = true ∧ ys.all SeqAt.shaped = true ∧ a.depth ≤ 60
    · rw [if_pos hc] at e1; cases e1
      obtain ⟨p, vs, rfl, e2, e3⟩ := ib.tuple_of
      exact .inl ⟨p, a, ys, vs, rfl, .inr e2, ia, e3, hc.1, hc.2.1, hc.2.2, k.here (IsD.bool_iff.mpr rfl)⟩
    · rw [if_neg hc] at e1; cases e1
  · rename_i kvs
    dsimp only [dInB] at e1
    by_cases hc : isKey a = true
    · rw [if_pos hc] at e1; cases e1
      obtain ⟨p, kv, rfl, e2, e3⟩ := IsD.dict_iff.mp ib
      obtain ⟨q, rfl, hk⟩ := isKey_ok hc ia
      refine .inr ⟨q, p, kv, a, rfl, rfl, e2, hk, ?_⟩
      rw [e3.keys]
      exact k.here (IsD.bool_iff.mpr rfl)
    · rw [if_neg hc] at e1; cases e1
end
end L2

end
section
set_option Elab.async false
set_option linter.all false
set_option maxRecDepth 100000
set_option maxHeartbeats 1000000
namespace L2
open PySem PySem.Spec PyProof.Rows

/-! ### statements, with own names -/
def OutO (O : List Nat) (K : PySem.W.Frag) (G : Hp) (D : Ends) : Out → Prop
  | .nx ρ => ∀ σ H' G', Same G G' → HasO O K σ ρ H' G' → D.nx σ H'
  | .bk ρ => ∀ σ H' G', Same G G' → HasO O K σ ρ H' G' → D.bk σ H'
  | .ct ρ => ∀ σ H' G', Same G G' → HasO O K σ ρ H' G' → D.ct σ H'
  | .rt d => KD K G d D.rt
theorem OutO.later {O : List Nat} {K : PySem.W.Frag} {G G' : Hp} {D : Ends} (e : Same G G') : ∀ {o : Out}, OutO O K G D o → OutO O K G' D o
  | .nx _, h => fun σ H2 G2 e2 q => h σ H2 G2 (e.trans e2) q
  | .bk _, h => fun σ H2 G2 e2 q => h σ H2 G2 (e.trans e2) q
  | .ct _, h => fun σ H2 G2 e2 q => h σ H2 G2 (e.trans e2) q
  | .rt _, h => KD.later h e
def tO (O : List Nat) (K : PySem.W.Frag) (g : Rho → Option Out) : TS := fun D σ H => ∃ ρ o G, HasO O K σ ρ H G ∧ g ρ = some o ∧ OutO O K G D o
def POS (X : Cx) (O : List Nat) (st : Stmt) (g : Rho → Option Out) : Prop := PS X st (tO O X.K g)
def POSs (X : Cx) (O : List Nat) (st : List Stmt) (g : Rho → Option Out) : Prop := PSs X st (tO O X.K g)
section
variable {X : Cx} {O : List Nat} {a b c e : Expr} {es : List Expr} {fa fb fc f : Rho → Option PyData} {pos p2 : Pos} {ff : Rho → Option (List PyData)} {st : Stmt} {rest : List Stmt} {g h : Rho → Option Out} {gc : Rho → Option Bool}
theorem poss_nil : POSs X O [] sNil := PSs.imp pss_nil fun D σ H ⟨ρ, o, G, hs, e, k⟩ => by cases e; exact k σ H G (.refl G) hs
theorem poss_cons (h1 : POS X O st g) (h2 : POSs X O rest h) : POSs X O (st :: rest) (sSeq g h) :=
  PSs.imp (pss_cons h1 h2) fun D σ H ⟨ρ, o, G, hs, e, k⟩ => by
    obtain ⟨o1, e1, e2⟩ := bind_some e
    refine ⟨ρ, o1, G, hs, e1, ?_⟩
    cases o1 with
    | nx ρ' => exact fun σ' H' G' s' hs' => ⟨ρ', o, G', hs', e2, k.later s'⟩
    | rt d => cases e2; exact k
    | bk ρ' => cases e2; exact k
    | ct ρ' => cases e2; exact k
theorem poss_one (h1 : POS X O st g) : POSs X O [st] g := PSs.imp (pss_one h1) fun D σ H h => h
theorem pos_ret (h : PD X e f) : POS X O (.Return (some e) pos) (sRet f) :=
  PS.imp (ps_ret h) fun D σ H ⟨ρ, o, G, hs, e, k⟩ => by
    obtain ⟨d, e1, rfl⟩ := Option.map_eq_some_iff.mp e
    exact ⟨ρ, d, hs.full, e1, fun v H' s' i => k v H' (hs.sub.trans s') i⟩
theorem pos_retN : POS X O (.Return none pos) (fun _ => some (.rt .none)) := PS.imp ps_retN fun D σ H ⟨ρ, o, G, hs, e, k⟩ => by cases e; exact k .non H hs.sub (IsD.none_iff.mpr rfl)
theorem pos_if {sa sb : List Stmt} (hc : PDT X c gc) (ha : POSs X O sa g) (hb : POSs X O sb h) : POS X O (.If c sa sb pos) (sIf gc g h) :=
  PS.imp (ps_if hc ha hb) fun D σ H ⟨ρ, o, G, hs, e, k⟩ => by
    obtain ⟨y, e1, e2⟩ := bind_some e
    refine ⟨ρ, y, hs.full, e1, fun H1 s1 => ?_⟩
    obtain ⟨G1, sG, hs1⟩ := hs.grow s1
    cases y with
    | true => rw [if_pos rfl]; exact ⟨ρ, o, G1, hs1, e2, k.later sG⟩
    | false => rw [if_neg Bool.false_ne_true]; exact ⟨ρ, o, G1, hs1, e2, k.later sG⟩
theorem pos_pass : POS X O (.Pass pos) sNil := PS.imp ps_pass fun D σ H ⟨ρ, o, G, hs, e, k⟩ => by cases e; exact k σ H G (.refl G) hs
theorem pos_break : POS X O (.Break pos) (fun ρ => some (.bk ρ)) := PS.imp ps_break fun D σ H ⟨ρ, o, G, hs, e, k⟩ => by cases e; exact k σ H G (.refl G) hs
theorem pos_continue : POS X O (.Continue pos) (fun ρ => some (.ct ρ)) := PS.imp ps_continue fun D σ H ⟨ρ, o, G, hs, e, k⟩ => by cases e; exact k σ H G (.refl G) hs
/-- an expression that looks at no own name, its own objects put aside -/
def fE (O : List Nat) (f : Rho → Option PyData) : Rho → Option PyData := fun ρ => f (eraseO O ρ)
def tF (O : List Nat) (K : PySem.W.Frag) (f : Rho → Option PyData) (ρ : Rho) : TE := fun σ H Q => ∃ d G, HasO O K σ ρ H G ∧ f (eraseO O ρ) = some d ∧ ∀ v H' G', Same G G' → HasO O K σ ρ H' G' → IsD K G' d v → Q v H'
theorem pe_framed (he : PD X e f) (ρ : Rho) : PE X e (tF O X.K f ρ) :=
  PE.imp (PE.frame he) fun σ H Q ⟨d, G, hs, e1, k⟩ => by
    obtain ⟨B, eH, fm, own⟩ := hs.ex
    refine ⟨G, B, eH, fm, eraseO O ρ, d, hs.rest, e1, fun v G' sG i => ⟨sG, fun fm' => ?_⟩⟩
    exact k v _ G' sG (HasO.framed hs.len own hs.non sG fm') i
/-- x = e, x no own name -/
def sSetO (O : List Nat) (f : Rho → Option PyData) (i : Nat) : Rho → Option Out := fun ρ => (f (eraseO O ρ)).map fun d => .nx (ρ.set i (some d))
theorem PE.all {t : Rho → TE} (h : ∀ ρ, PE X e (t ρ)) : PE X e (fun σ H Q => ∃ ρ, t ρ σ H Q) := fun pins s σ H Q I ⟨ρ, q⟩ => h ρ pins s σ H Q I q
theorem pos_set (i : Nat) {x : Str} {pos' : Pos} (hN : X.N.Nodup) (he : PD X e f) (hO : i ∉ O := by decide) (hi : X.N[i]? = some x := by rfl) (hx : Loc X.env.scope x := by first | exact Or.inl rfl | exact Or.inr rfl) (hs : swapsWith e (some (.Name x pos')) pos.line X.env = pure false := by rfl)
    (hf : X.fn x = true ∨ X.env.scope.names.lookup x = some .local := by first | exact .inl rfl | exact .inr rfl | assumption) : POS X O (.Assign [.Name x pos'] e pos) (sSetO O f i) :=
  PS.imp (ps_set hN hi hx (PE.all fun ρ => pe_framed (O := O) he ρ) hs hf) fun D σ H ⟨ρ, o, G, hs, e, k⟩ => by
    obtain ⟨d, e1, rfl⟩ := Option.map_eq_some_iff.mp e
    exact ⟨ρ, d, G, hs, e1, fun v H' G' sG hs' i' => k _ H' G' sG (hs'.set hO i')⟩
/-- x = [..], x an own name -/
def sNewL (O : List Nat) (ff : Rho → Option (List PyData)) (i : Nat) : Rho → Option Out := fun ρ => (ff (eraseO O ρ)).bind fun ds => if ds.length ≤ sizeLine ∧ i < ρ.length then some (.nx (ρ.set i (some (.list ds)))) else none
theorem PA.frame (h : PA X es t) : PA X es (fun σ H Q => ∃ G B, H = joinB G B ∧ Frm G B ∧ t σ G fun vs G' => Same G G' ∧ (Frm G' B → Q vs (joinB G' B))) := by
  intro pos pins s σ H Q I ⟨G, B, eH, f, ht⟩
  subst eH
  obtain ⟨PB, I1, _, _, back⟩ := hideB B I f
  refine thn (h pos _ s σ G _ I1 ht) fun us s' ⟨xs, G', J, r, sG, q⟩ => ?_
  obtain ⟨f', J'⟩ := back G' s' σ sG J
  exact ⟨xs, joinB G' B, J', r, q f'⟩
def tFA (O : List Nat) (K : PySem.W.Frag) (ff : Rho → Option (List PyData)) (ρ : Rho) : TA := fun σ H Q => ∃ ds G, HasO O K σ ρ H G ∧ ff (eraseO O ρ) = some ds ∧ ∀ vs H' G', Same G G' → HasO O K σ ρ H' G' → IsDs K G' ds vs → Q vs H'
theorem pa_framed (he : PDA X es ff) (ρ : Rho) : PA X es (tFA O X.K ff ρ) :=
  PA.imp (PA.frame he) fun σ H Q ⟨ds, G, hs, e1, k⟩ => by
    obtain ⟨B, eH, fm, own⟩ := hs.ex
    refine ⟨G, B, eH, fm, eraseO O ρ, ds, hs.rest, e1, fun vs G' sG i => ⟨sG, fun fm' => ?_⟩⟩
    exact k vs _ G' sG (HasO.framed hs.len own hs.non sG fm') i
theorem PA.all {t : Rho → TA} (h : ∀ ρ, PA X es (t ρ)) : PA X es (fun σ H Q => ∃ ρ, t ρ σ H Q) := fun pos pins s σ H Q I ⟨ρ, q⟩ => h ρ pos pins s σ H Q I q
theorem pos_newL (i : Nat) {x : Str} {pos' : Pos} (hN : X.N.Nodup) (ndO : O.Nodup) (he : PDA X es ff) (hO : i ∈ O := by decide) (hi : X.N[i]? = some x := by rfl) (hx : Loc X.env.scope x := by first | exact Or.inl rfl | exact Or.inr rfl) (hs : swapsWith (.List es p2) (some (.Name x pos')) pos.line X.env = pure false := by rfl)
    (hf : X.fn x = true ∨ X.env.scope.names.lookup x = some .local := by first | exact .inl rfl | exact .inr rfl | assumption) : POS X O (.Assign [.Name x pos'] (.List es p2) pos) (sNewL O ff i) :=
  PS.imp (ps_set hN hi hx (pe_lst (PA.all fun ρ => pa_framed (O := O) he ρ)) hs hf) fun D σ H ⟨ρ, o, G, hs, e, k⟩ => by
    obtain ⟨ds, e1, e2⟩ := bind_some e
    by_cases hz : ds.length ≤ sizeLine ∧ i < ρ.length
    · rw [if_pos hz] at e2
      cases e2
      refine ⟨ρ, ds, G, hs, e1, fun vs H' G' sG hs' i' => ⟨by rw [← i'.length]; exact hz.1, fun p hp => ?_⟩⟩
      obtain ⟨G2, s2, h2⟩ := hs'.new ndO (d' := .list ds) (o' := .lst vs) hO hz.2 hp (.inl ⟨ds, vs, rfl, rfl, i'⟩)
      exact k _ _ G2 (sG.trans s2) h2
    · rw [if_neg hz] at e2; cases e2
/-- x = {}, x an own name -/
def sNewD (i : Nat) : Rho → Option Out := fun ρ => if i < ρ.length then some (.nx (ρ.set i (some (.dict [])))) else none
theorem pos_newD (i : Nat) {x : Str} {pos' : Pos} (hN : X.N.Nodup) (ndO : O.Nodup) (hO : i ∈ O := by decide) (hi : X.N[i]? = some x := by rfl) (hx : Loc X.env.scope x := by first | exact Or.inl rfl | exact Or.inr rfl) (hs : swapsWith (.Dict [] [] p2) (some (.Name x pos')) pos.line X.env = pure false := by rfl)
    (hf : X.fn x = true ∨ X.env.scope.names.lookup x = some .local := by first | exact .inl rfl | exact .inr rfl | assumption) : POS X O (.Assign [.Name x pos'] (.Dict [] [] p2) pos) (sNewD i) :=
  PS.imp (ps_set hN hi hx pe_dnewD hs hf) fun D σ H ⟨ρ, o, G, hs, e, k⟩ => by
    unfold sNewD at e
    by_cases hz : i < ρ.length
    · rw [if_pos hz] at e
      cases e
      intro p hp
      obtain ⟨G2, s2, h2⟩ := hs.new ndO (d' := .dict []) (o' := .dD []) hO hz hp (.inr ⟨[], [], rfl, rfl, IsKV.nil_iff.mpr rfl⟩)
      exact k _ _ G2 s2 h2
    · rw [if_neg hz] at e; cases e
/-- x.append(e), x an own name -/
def sAppend (O : List Nat) (i : Nat) (f : Rho → Option PyData) : Rho → Option Out := fun ρ => (ρ[i]?).join.bind fun l => (f (eraseO O ρ)).bind fun d => match l with
  | .list ds => if ds.length < sizeLine then some (.nx (ρ.set i (some (.list (ds ++ [d]))))) else none
  | _ => none
theorem pos_append (i : Nat) {x : Str} {ep : Pos} {apos cpos : Pos} (ndO : O.Nodup) (he : PD X e f) (hO : i ∈ O := by decide) (hN : X.N[i]? = some x := by rfl) (hv : Vis X.env.scope x := by first | exact Or.inl rfl | exact Or.inr (Or.inl rfl) | exact Or.inr (Or.inr rfl)) (hd : (x == ("__debug__" : Str)) = false := by decide)
    (hcd : (x == ("__classdict__" : Str)) = false := by decide) (hst : starEach [e] X.env = (false, eval e X.env) :: starEach [] X.env := by rfl)
    (hbase : attributeBase (.Name x ep) "append" X.env (eval (.Name x ep) X.env) = eval (.Name x ep) X.env := by rfl)
    (hfew : ((backTo cpos (starEach [e] X.env)).all (fun x => !x.1) && (backToKw cpos (keywordEach [] X.env)).all (fun x => x.1.isSome) && decide (([e] : List Expr).length + ([] : List Keyword).length + (if ([] : List Keyword).isEmpty then 0 else 1) < 30)) = true := by rfl)
    (hline : (apos.endLine == cpos.line) = true := by rfl) (hplain : (backTo cpos (starEach [] X.env)).any (·.1) = false := by rfl)
    (hs : swapsWith (.Call (.Attribute (.Name x ep) "append" apos) [e] [] cpos) none pos.line X.env = pure false := by rfl) :
    POS X O (.Expr (.Call (.Attribute (.Name x ep) "append" apos) [e] [] cpos) pos) (sAppend O i f) :=
  PS.imp (ps_expr (pe_bm PySem.F.plainAttrs_list PySem.F.slot_list_append PySem.F.type_list_append mt_append (pe_var hN hv hd hcd) (pa_cons (PE.all fun ρ => pe_framed (O := O) he ρ) pa_nil hst) hbase hfew hline hst hplain) hs) fun D σ H ⟨ρ, o, G, hs, e, k⟩ => by
    obtain ⟨l, e1, ea⟩ := bind_some e
    obtain ⟨d, e2, eb⟩ := bind_some ea
    have e1' := join_some e1
    clear ea
    cases l <;> try (simp at eb; done)
    rename_i ds
    dsimp only at eb
    by_cases hz : ds.length < sizeLine
    · rw [if_pos hz] at eb
      cases eb
      obtain ⟨p, ob, hσ, hp, oo⟩ := hs.own hO e1'
      rcases oo with ⟨ds', vs, e3, e4, i4⟩ | ⟨_, _, e3, _⟩
      · cases e3
        subst e4
        refine ⟨.ref p, hσ, .inl ⟨rfl, vs, SqL.of hp⟩, ρ, d, G, hs, e2, fun v H' G' sG hs' i' => ?_⟩
        obtain ⟨p', ob', hσ', hp', oo'⟩ := hs'.own hO e1'
        rw [hσ] at hσ'; cases hσ'
        rcases oo' with ⟨ds', vs', e3', e4', i4'⟩ | ⟨_, _, e3', _⟩
        · cases e3'
          subst e4'
          refine ⟨p, vs', v, rfl, rfl, hp', by rw [← i4'.length]; exact hz, ?_⟩
          exact k _ _ G' sG (hs'.put ndO hO e1' hσ (.inl ⟨_, _, rfl, rfl, i4'.append (IsDs.cons i' IsDs.nil)⟩))
        · cases e3'
      · cases e3
    · rw [if_neg hz] at eb; cases eb
/-- x[k] = e, x an own dict -/
noncomputable def sDPut (O : List Nat) (i : Nat) (fk fv : Rho → Option PyData) : Rho → Option Out := fun ρ => (ρ[i]?).join.bind fun l => (fv (eraseO O ρ)).bind fun d => (fk (eraseO O ρ)).bind fun kd => match l with
  | .dict kvs => if kvs.length < sizeLine ∧ isKey kd = true then some (.nx (ρ.set i (some (.dict (putD kvs kd d))))) else none
  | _ => none
theorem pos_dput (hu : X.A.units + 64 < cLine) (i : Nat) {x : Str} {ep tpos : Pos} (ndO : O.Nodup) (hk : PD X a fa) (he : PD X e f) (hO : i ∈ O := by decide) (hN : X.N[i]? = some x := by rfl) (hv : Vis X.env.scope x := by first | exact Or.inl rfl | exact Or.inr (Or.inl rfl) | exact Or.inr (Or.inr rfl)) (hd : (x == ("__debug__" : Str)) = false := by decide)
    (hcd : (x == ("__classdict__" : Str)) = false := by decide)
    (ha : ∀ v, assign (.Subscript (.Name x ep) a tpos) X.env v = (do
      let ov ← holding [v] (eval (.Name x ep) X.env)
      let iv ← holding [v, ov] (eval a X.env)
      standAt tpos
      holding [v, ov, iv] (setItem ov iv v)
      release [v, ov, iv] []) := by intro _; rfl)
    (hs : swapsWithSole [.Subscript (.Name x ep) a tpos] e pos.line X.env = pure false := by rfl) (hw : swappedStores [.Subscript (.Name x ep) a tpos] e X.env = pure none := by rfl)
    (h1 : (assignEach [.Subscript (.Name x ep) a tpos] X.env).map (·.2) = [assign (.Subscript (.Name x ep) a tpos) X.env] := by rfl) :
    POS X O (.Assign [.Subscript (.Name x ep) a tpos] e pos) (sDPut O i fa f) :=
  PS.imp (ps_asg (PE.all fun ρ => pe_framed (O := O) he ρ) (pg_sub (pe_var hN hv hd hcd) (PE.all fun ρ => pe_framed (O := O) hk ρ) (set_dD hu) ha) hs hw h1) fun D σ H ⟨ρ, o, G, hs, e, k⟩ => by
    obtain ⟨l, e1, ea⟩ := bind_some e
    obtain ⟨d, e2, eb⟩ := bind_some ea
    obtain ⟨kd, e3, ec⟩ := bind_some eb
    have e1' := join_some e1
    clear ea eb
    cases l <;> try (simp at ec; done)
    rename_i kvs
    dsimp only at ec
    by_cases hz : kvs.length < sizeLine ∧ isKey kd = true
    · rw [if_pos hz] at ec
      cases ec
      refine ⟨ρ, d, G, hs, e2, fun v H1 G1 s1 hs1 i1 => ?_⟩
      obtain ⟨p, ob, hσ, hp, oo⟩ := hs1.own hO e1'
      refine ⟨.ref p, hσ, ρ, kd, G1, hs1, e3, fun kv H2 G2 s2 hs2 i2 => ?_⟩
      obtain ⟨p', ob', hσ', hp', oo'⟩ := hs2.own hO e1'
      rw [hσ] at hσ'; cases hσ'
      rcases oo' with ⟨_, _, e3', _⟩ | ⟨kvs', kv', e3', e4', i4'⟩
      · cases e3'
      · cases e3'
        subst e4'
        obtain ⟨q, rfl, hkey⟩ := isKey_ok hz.2 (i2.same hs2.sub)
        refine ⟨p, q, kv', kd, rfl, rfl, hp', hkey, by rw [← i4'.length]; exact hz.1, ?_⟩
        exact k _ _ G2 (s1.trans s2) (hs2.put ndO hO e1' hσ (.inr ⟨_, _, rfl, rfl, i4'.put (i1.same s2)⟩))
    · rw [if_neg hz] at ec; cases ec

/-! for, with own names -/
/-- plain targets: a name, or a tuple of names -/
inductive Tg where
  | one (i : Nat) | many (is : List Nat)
def setAllD : Rho → List Nat → List PyData → Rho
  | ρ, i :: is, d :: ds => setAllD (ρ.set i (some d)) is ds
  | ρ, _, _ => ρ
def bdT : Tg → PyData → Rho → Option Rho
  | .one i, d, ρ => some (ρ.set i (some d))
  | .many is, .tuple ds, ρ => if ds.length = is.length then some (setAllD ρ is ds) else none
  | _, _, _ => none
def setAllV : St → List Nat → List V → St
  | σ, i :: is, v :: vs => setAllV (σ.set i (some v)) is vs
  | σ, _, _ => σ
def gT (K : PySem.W.Frag) : Tg → TG
  | .one i => gName i
  | .many is => fun v σ H Q => ∃ p xs, v = .ref p ∧ SqT K H p xs ∧ xs.length = is.length ∧ Q (setAllV σ is xs) H
def Tg.free (O : List Nat) : Tg → Prop
  | .one i => i ∉ O
  | .many is => ∀ i ∈ is, i ∉ O
theorem HasO.setAll {K : PySem.W.Frag} {H G : Hp} : ∀ {is : List Nat} {σ : St} {ρ : Rho} {ds : List PyData} {vs : List V}, HasO O K σ ρ H G → (∀ i ∈ is, i ∉ O) → IsDs K G ds vs → HasO O K (setAllV σ is vs) (setAllD ρ is ds) H G
  | [], σ, ρ, ds, vs, h, _, _ => by
    cases ds <;> cases vs <;> exact h
  | i :: is, σ, ρ, [], vs, h, _, d => by
    rw [IsDs.nil_iff.mp d]; exact h
  | i :: is, σ, ρ, d :: ds, vs, h, hi, ds' => by
    obtain ⟨v, r, rfl, i1, i2⟩ := IsDs.cons_iff.mp ds'
    exact HasO.setAll (is := is) (σ := σ.set i (some v)) (ρ := ρ.set i (some d)) (h.set (hi i (by simp)) i1) (fun j hj => hi j (List.mem_cons_of_mem _ hj)) i2
theorem HasO.bind {K : PySem.W.Frag} {H G : Hp} {σ : St} {ρ ρ' : Rho} {tg : Tg} {d : PyData} {v : V} {Q : St → Hp → Prop} (h : HasO O K σ ρ H G) (hf : tg.free O) (i : IsD K G d v) (e : bdT tg d ρ = some ρ') (k : ∀ σ', HasO O K σ' ρ' H G → Q σ' H) : gT K tg v σ H Q := by
  cases tg with
  | one j => cases e; exact k _ (h.set hf i)
  | many is =>
    cases d <;> try (simp [bdT] at e; done)
    rename_i ds
    dsimp only [bdT] at e
    by_cases hl : ds.length = is.length
    · rw [if_pos hl] at e
      cases e
      obtain ⟨p, vs, rfl, e2, e3⟩ := i.tuple_of
      refine ⟨p, vs, rfl, ?_, by rw [← e3.length]; exact hl, k _ (h.setAll hf e3)⟩
      rcases e2 with (e2 | ⟨o, e2⟩) | e2
      · exact .inl (.inl (h.sub _ _ e2))
      · exact .inl (.inr ⟨o, h.sub _ _ e2⟩)
      · exact .inr e2
    · rw [if_neg hl] at e; cases e
theorem pgT_one (i : Nat) {x : Str} (hN : X.N.Nodup) (hi : X.N[i]? = some x := by rfl) (hx : Loc X.env.scope x := by first | exact Or.inl rfl | exact Or.inr rfl) (hf : X.fn x = true ∨ X.env.scope.names.lookup x = some .local := by first | exact .inl rfl | exact .inr rfl | assumption) : PG X (.Name x pos) (gT X.K (.one i)) := pg_name hN hi hx hf
theorem pgT_two (i j : Nat) {x y : Str} {px py : Pos} {kt : Nat} (hc : X.calm = true) (hN : X.N.Nodup) (hi : X.N[i]? = some x := by rfl) (hj : X.N[j]? = some y := by rfl) (hx : Loc X.env.scope x := by first | exact Or.inl rfl | exact Or.inr rfl) (hy : Loc X.env.scope y := by first | exact Or.inl rfl | exact Or.inr rfl)
    (hf : X.fn x = true ∨ X.env.scope.names.lookup x = some .local := by first | exact .inl rfl | exact .inr rfl | assumption) (hf2 : X.fn y = true ∨ X.env.scope.names.lookup y = some .local := by first | exact .inl rfl | exact .inr rfl | assumption)
    (hn : (assignEach [.Name x px, .Name y py] X.env).length = 2 := by rfl) (hst : (assignEach [.Name x px, .Name y py] X.env).findIdx? (·.1) = none := by rfl) : PG X (.Tuple [.Name x px, .Name y py] kt pos) (gT X.K (.many [i, j])) :=
  PG.imp (pg_tup hc (pgs_cons (pg_name hN hi hx hf) (pgs_cons (pg_name hN hj hy hf2) pgs_nil)) hn hst) fun v σ H Q ⟨p, xs, e1, e2, e3, q⟩ => by
    refine ⟨p, xs, e1, e2, e3, ?_⟩
    match xs, e3 with
    | [v1, v2], _ => exact ⟨v1, [v2], rfl, v2, [], rfl, rfl, q⟩
/-- x, y = e -/
def sUnpO (O : List Nat) (f : Rho → Option PyData) (tg : Tg) : Rho → Option Out := fun ρ => (f (eraseO O ρ)).bind fun d => (bdT tg d ρ).map .nx
theorem pos_unp {tg : Expr} {t : Tg} (he : PD X e f) (hg : PG X tg (gT X.K t)) (hO : t.free O) (hs : swapsWithSole [tg] e pos.line X.env = pure false := by rfl) (hw : swappedStores [tg] e X.env = pure none := by rfl)
    (h1 : (assignEach [tg] X.env).map (·.2) = [assign tg X.env] := by rfl) : POS X O (.Assign [tg] e pos) (sUnpO O f t) :=
  PS.imp (ps_asg (PE.all fun ρ => pe_framed (O := O) he ρ) hg hs hw h1) fun D σ H ⟨ρ, o, G, hs, e, k⟩ => by
    obtain ⟨d, e1, e2⟩ := bind_some e
    obtain ⟨ρ', e3, rfl⟩ := Option.map_eq_some_iff.mp e2
    exact ⟨ρ, d, G, hs, e1, fun v H' G' sG hs' i' => hs'.bind hO i' e3 fun σ' h' => k _ H' G' sG h'⟩
/-- the iterator gives these out of G, whatever else is laid or changed -/
def WalksO (K : PySem.W.Frag) (J : It) (ds : List PyData) (G : Hp) : Prop :=
  ∀ H', Same G H' → (J.stop ds.length H') ∧ ∀ (i : Nat) (d : PyData), ds[i]? = some d → J.go i H' ∧ ∀ x H2, J.yld i H' x H2 → H2 = H' ∧ IsD K G d x
def tOI (K : PySem.W.Frag) (q : Rho → Option (List PyData)) : TI := fun σ G R => ∃ ρ ds, HasD K G σ ρ ∧ q ρ = some ds ∧ ∀ J G', Same G G' → WalksO K J ds G' → R J G'
def POI (X : Cx) (tg iter : Expr) (q : Rho → Option (List PyData)) : Prop := PI X tg iter (tOI X.K q)
theorem poi_seq {tg : Expr} (h : PD X e f) : POI X tg e (qSeq f) :=
  PI.imp (PI.or (pi_list h) (pi_tup h)) fun σ H R ⟨ρ, ds, hs, e, k⟩ => by
    obtain ⟨d, e1, e2⟩ := bind_some e
    cases d <;> try (simp at e2; done)
    · cases e2
      refine .inl ⟨ρ, _, hs, e1, fun v H1 s1 i1 => ?_⟩
      obtain ⟨p, vs, rfl, e2, e3⟩ := IsD.list_iff.mp i1
      refine ⟨p, rfl, ⟨vs, e2⟩, k _ H1 s1 fun H' s' => ⟨⟨vs, s'.seq e2, by rw [e3.length]; exact Nat.le_refl _⟩, fun i d q => ?_⟩⟩
      obtain ⟨x, e4, e5⟩ := e3.get q
      refine ⟨⟨vs, x, s'.seq e2, e4⟩, fun y H2 ⟨r1, r2⟩ => ?_⟩
      have := r2 vs (s'.seq e2)
      rw [e4] at this; cases this
      exact ⟨r1, e5⟩
    · cases e2
      refine .inr ⟨ρ, _, hs, e1, fun v H1 s1 i1 => ?_⟩
      obtain ⟨p, vs, rfl, e2, e3⟩ := i1.tuple_of
      refine ⟨p, rfl, ⟨vs, e2⟩, k _ H1 s1 fun H' s' => ⟨⟨vs, s'.seqT e2, by rw [e3.length]; exact Nat.le_refl _⟩, fun i d q => ?_⟩⟩
      obtain ⟨x, e4, e5⟩ := e3.get q
      refine ⟨⟨vs, x, s'.seqT e2, e4⟩, fun y H2 ⟨r1, r2⟩ => ?_⟩
      have := r2 vs (s'.seqT e2)
      rw [e4] at this; cases this
      exact ⟨r1, e5⟩
theorem walksO_range {K : PySem.W.Frag} (lo : Int) (n : Nat) (G : Hp) : WalksO K (Itr lo n) (intsD lo n) G := fun H' s' => by
  refine ⟨by show n ≤ (intsD lo n).length; simp [intsD], fun i d q => ?_⟩
  have hi : i < n := by
    have := (List.getElem?_eq_some_iff.mp q).1
    simpa [intsD] using this
  refine ⟨hi, fun x H2 ⟨r1, r2⟩ => ⟨r1, ?_⟩⟩
  have : d = .int (lo + (i : Nat)) := by
    unfold intsD at q
    rw [List.getElem?_map, List.getElem?_range hi] at q
    cases q; rfl
  subst this r2
  exact IsD.int_iff.mpr rfl
theorem poi_range1 {tg : Expr} {p : Pos} (hg : Gl X "range") (hm : X.mg "range" = none) (h : PD X e f) (hs : starEach [e] X.env = [(false, eval e X.env)] := by rfl) : POI X tg (.Call (.Name "range" p) [e] [] pos) (qRange1 f) :=
  PI.imp (pi_range1 hg hm (pa_cons h pa_nil (by rw [hs]; rfl)) hs) fun σ H R ⟨ρ, ds, hs, e, k⟩ => by
    obtain ⟨d, e1, e2⟩ := bind_some e
    cases d <;> try (simp at e2; done)
    rename_i j
    dsimp only at e2
    by_cases hj : -(2 ^ 62) ≤ j ∧ j < 2 ^ 62
    · rw [if_pos hj] at e2
      cases e2
      exact ⟨ρ, _, hs, e1, fun v H1 s1 i1 => ⟨j, by rw [IsD.int_iff.mp i1], hj.1, hj.2, k _ H1 s1 (walksO_range 0 _ H1)⟩⟩
    · rw [if_neg hj] at e2; cases e2
theorem poi_range2 {tg : Expr} {p : Pos} (hg : Gl X "range") (hm : X.mg "range" = none) (h : PD X a fa) (h' : PD X b fb) (hs : starEach [a, b] X.env = [(false, eval a X.env), (false, eval b X.env)] := by rfl) (hs2 : starEach [b] X.env = [(false, eval b X.env)] := by rfl) :
    POI X tg (.Call (.Name "range" p) [a, b] [] pos) (qRange2 fa fb) :=
  PI.imp (pi_range2 hg hm (pa_cons h (pa_cons h' pa_nil (by rw [hs2]; rfl)) (by rw [hs, hs2])) hs hs2) fun σ H R ⟨ρ, ds, hs, e, k⟩ => by
    obtain ⟨d, e1, e2⟩ := bind_some e
    obtain ⟨d', e3, e4⟩ := bind_some e2
    cases d <;> cases d' <;> try (simp at e4; done)
    rename_i i j
    dsimp only at e4
    by_cases hj : (-(2 ^ 62) ≤ i ∧ i < 2 ^ 62 ∧ -(2 ^ 62) ≤ j ∧ j < 2 ^ 62)
    · rw [if_pos hj] at e4
      cases e4
      exact ⟨ρ, _, hs, e1, fun v H1 s1 i1 => ⟨ρ, _, hs.same s1, e3, fun v' H2 s2 i2 => ⟨i, j, by rw [IsD.int_iff.mp i1, IsD.int_iff.mp i2], hj, k _ H2 (s1.trans s2) (walksO_range i _ H2)⟩⟩⟩
    · rw [if_neg hj] at e4; cases e4
def sForO (O : List Nat) (q : Rho → Option (List PyData)) (tg : Tg) (g : Rho → Option Out) : Rho → Option Out := fun ρ => (q (eraseO O ρ)).bind fun ds => forD (bdT tg) g ds ρ
theorem PI.all {tg iter : Expr} {t : Rho → TI} (h : ∀ ρ, PI X tg iter (t ρ)) : PI X tg iter (fun σ H R => ∃ ρ, t ρ σ H R) := fun pins s σ H R I ⟨ρ, q⟩ => h ρ pins s σ H R I q
theorem pos_for {tg iter : Expr} {t : Tg} {body : List Stmt} {q : Rho → Option (List PyData)} (hp : PassesOwn (model X.prog X.w) X.A X.env X.xe) (hc : X.calm = true) (hi : POI X tg iter q) (hg : PG X tg (gT X.K t)) (hO : t.free O) (hb : POSs X O body g)
    (hs : ∀ x, foldedSetIterable iter X.env x = pure x := by intro _; rfl) : POS X O (.For tg iter body [] pos) (sForO O q t g) :=
  PS.imp (ps_for hp hc (PI.frame hi) hg hb hs) fun D σ H ⟨ρ, o, G0, hs, e, k⟩ => by
    obtain ⟨ds, e1, e2⟩ := bind_some e
    obtain ⟨B, eH, fm, own⟩ := hs.ex
    refine ⟨G0, B, eH, fm, eraseO O ρ, ds, hs.rest, e1, fun J G1 s1 w => ⟨s1, fun fm1 => ?_⟩⟩
    have h1 : HasO O X.K σ ρ (joinB G1 B) G1 := HasO.framed hs.len own hs.non s1 fm1
    refine ⟨fun i m σ' H' => m = ds.length - i ∧ i ≤ ds.length ∧ ∃ ρ' G', Same G1 G' ∧ HasO O X.K σ' ρ' H' G' ∧ forD (bdT t) g (ds.drop i) ρ' = some o, ⟨ds.length, by simp, Nat.zero_le _, ρ, G1, .refl _, h1, by simpa using e2⟩, ?_⟩
    rintro i m σ' H' ⟨rfl, hi, ρ', G', sG, hs', e3⟩
    obtain ⟨w1, w2⟩ := w H' (sG.trans hs'.sub)
    by_cases hlt : i < ds.length
    · right
      have hd : ds[i]? = some ds[i] := List.getElem?_eq_getElem hlt
      obtain ⟨w3, w4⟩ := w2 i _ hd
      rw [List.drop_eq_getElem_cons hlt] at e3
      unfold forD at e3
      obtain ⟨o1, e4, e5⟩ := bind_some e3
      obtain ⟨ρ1, e6, e7⟩ := bind_some e4
      refine ⟨w3, fun σ3 H3 => ∃ ρ3 G3, Same G1 G3 ∧ HasO O X.K σ3 ρ3 H3 G3 ∧ forD (bdT t) g (ds.drop (i + 1)) ρ3 = some o, fun σ3 H3 ⟨ρ3, G3, s3, h3, e8⟩ => ⟨ds.length - (i + 1), by omega, rfl, hlt, ρ3, G3, s3, h3, e8⟩, fun x H2 y => ?_⟩
      obtain ⟨r1, i4⟩ := w4 x H2 y
      subst r1
      refine hs'.bind hO (i4.same sG) e6 fun σ5 h5 => ⟨ρ1, o1, G', h5, e7, ?_⟩
      cases o1 with
      | nx ρ3 => exact fun σ6 H6 G6 s6 h6 => ⟨ρ3, G6, sG.trans s6, h6, e5⟩
      | ct ρ3 => exact fun σ6 H6 G6 s6 h6 => ⟨ρ3, G6, sG.trans s6, h6, e5⟩
      | bk ρ3 =>
        cases e5
        exact fun σ6 H6 G6 s6 h6 => k σ6 H6 G6 (s1.trans (sG.trans s6)) h6
      | rt d =>
        cases e5
        exact KD.later k (s1.trans sG)
    · have e8 : i = ds.length := by omega
      subst e8
      rw [List.drop_length] at e3
      cases e3
      exact .inl ⟨w1, k σ' H' G' (s1.trans sG) hs'⟩
def sExprO (O : List Nat) (f : Rho → Option PyData) : Rho → Option Out := fun ρ => (f ρ).map fun _ => .nx ρ
theorem pos_expr (h : PD X e f) (hs : swapsWith e none pos.line X.env = pure false := by rfl) : POS X O (.Expr e pos) (sExprO O f) :=
  PS.imp (ps_expr h hs) fun D σ H ⟨ρ, o, G, hs, e, k⟩ => by
    obtain ⟨d, e1, rfl⟩ := Option.map_eq_some_iff.mp e
    refine ⟨ρ, d, hs.full, e1, fun v H1 s1 _ => ?_⟩
    obtain ⟨G1, sG, hs1⟩ := hs.grow s1
    exact k σ H1 G1 sG hs1
end
/-- a def with own names, a function of its data all the same -/
theorem fn_own {P : Program} {w : World} {K : PySem.W.Frag} {mg : Str → Option Value} {base : Heap} {x qual : Str} {st : Stmt} {fa : Addr} {fd : FuncData} {N ps : List Str} {k n : Nat} {O : List Nat} {g : Rho → Option Out} (F : Fun K x qual st fa fd) (S : FnScope N ps (defScope st)) (hn : n = ps.length) (hO : ∀ i ∈ O, n ≤ i)
    (hbody : ∀ (cdv : Value) (A : Around) (outer : List Env) (s : Shared) (H : Hp) (E : XK), Room k (A.deeper (envOfC qual (defScope st) s.heap.objs.size fa cdv)) →
      POSs (cxOf CX0 P w K mg base N qual (defScope st) fa cdv A outer s H E).nox O (defBody st) g) : FnOk P w K mg base CX0 (k + 1) fa fd ps (spD K n (runD N g)) := by
  refine F.ok S (fun vs H Q E ⟨ds, d, i, l, _⟩ => by rw [← i.length, l, hn]) fun cdv A outer s H vs Q E hr ⟨ds, d, i, l, e, k⟩ => ⟨_, hbody cdv A outer s H E hr, ?_⟩
  obtain ⟨o, e1, e2⟩ := bind_some e
  have hd := hasD_start (N := N) i
  have none_at : ∀ i ∈ O, ((startD N ds)[i]?).join = none := fun j hj => by
    have : ¬ j < ds.length := by have := hO j hj; omega
    unfold startD
    rw [List.getElem?_append_right (by simpa using this), List.getElem?_replicate]
    split <;> rfl
  have own : ∀ O' : List Nat, (∀ i ∈ O', i ∈ O) → OwnL K (start N vs) (startD N ds) H O' [] := by
    intro O'
    induction O' with
    | nil => intro _; rfl
    | cons j O' ih => exact fun h => .inl ⟨none_at j (h j (by simp)), ih fun i hi => h i (List.mem_cons_of_mem _ hi)⟩
  refine ⟨startD N ds, o, H, ⟨hd.1, ⟨[], rfl, ⟨List.nodup_nil, (fun x hx => by cases hx), fun x hx => by cases hx⟩, own O fun _ h => h⟩, fun i d q _ => hd.2 i d q⟩, e1, ?_⟩
  cases o with
  | rt d' => cases e2; exact k
  | nx ρ' => cases e2; exact fun σ H' G' s' h' => k .non H' (s'.trans h'.sub) (IsD.none_iff.mpr rfl)
  | bk _ => cases e2
  | ct _ => cases e2
end L2

end
section
set_option Elab.async false
set_option linter.all false
set_option maxRecDepth 100000
set_option maxHeartbeats 1000000
namespace L2
open PySem PySem.Spec PyProof.Rows
section
variable {X : Cx} {a b c e : Expr} {rest es : List Expr} {fa fb fc f : Rho → Option PyData} {pos p2 : Pos}
/-! ### not, and, or as values (of bools), -e, is -/
def asB (d : PyData) : Option Bool := match d with | .bool b => some b | _ => none
def dNotV (f : Rho → Option PyData) : Rho → Option PyData := fun ρ => (f ρ).bind fun d => (asB d).map fun b => .bool (!b)
def dAndV (f g : Rho → Option PyData) : Rho → Option PyData := fun ρ => (f ρ).bind fun d => (asB d).bind fun b => if b then g ρ else some (.bool false)
def dOrV (f g : Rho → Option PyData) : Rho → Option PyData := fun ρ => (f ρ).bind fun d => (asB d).bind fun b => if b then some (.bool true) else g ρ
theorem asB_some {d : PyData} {b : Bool} (h : asB d = some b) : d = .bool b := by
  cases d <;> first | (cases h; rfl) | cases h
theorem pd_notV (h : PD X a f) : PD X (.UnaryOp .Not a pos) (dNotV f) :=
  PE.imp (pe_not h) fun σ H Q ⟨ρ, d, hs, e, k⟩ => by
    obtain ⟨x, e1, e2⟩ := bind_some e
    obtain ⟨y, e3, rfl⟩ := Option.map_eq_some_iff.mp e2
    cases asB_some e3
    exact ⟨ρ, _, hs, e1, fun v H1 s1 i1 => ⟨y, IsD.bool_iff.mp i1, k _ H1 s1 (IsD.bool_iff.mpr rfl)⟩⟩
theorem pd_one1 {op : BoolOp} (h : PD X a f) : PD X (.BoolOp op [a] pos) f := pe_one h
theorem pd_andV (ha : PD X a fa) (hb : PD X (.BoolOp .And (b :: rest) pos) fb) : PD X (.BoolOp .And (a :: b :: rest) pos) (dAndV fa fb) :=
  PE.imp (pe_and ha hb) fun σ H Q ⟨ρ, d, hs, e, k⟩ => by
    obtain ⟨x, e1, e2⟩ := bind_some e
    obtain ⟨y, e3, e4⟩ := bind_some e2
    cases asB_some e3
    refine ⟨ρ, _, hs, e1, fun v H1 s1 i1 => ⟨y, IsD.bool_iff.mp i1, ?_⟩⟩
    cases y with
    | true => rw [if_pos rfl] at e4 ⊢; exact ⟨ρ, d, hs.same s1, e4, k.later s1⟩
    | false => rw [if_neg Bool.false_ne_true] at e4 ⊢; cases e4; exact k _ H1 s1 (IsD.bool_iff.mpr rfl)
theorem pd_orV (ha : PD X a fa) (hb : PD X (.BoolOp .Or (b :: rest) pos) fb) : PD X (.BoolOp .Or (a :: b :: rest) pos) (dOrV fa fb) :=
  PE.imp (pe_or ha hb) fun σ H Q ⟨ρ, d, hs, e, k⟩ => by
    obtain ⟨x, e1, e2⟩ := bind_some e
    obtain ⟨y, e3, e4⟩ := bind_some e2
    cases asB_some e3
    refine ⟨ρ, _, hs, e1, fun v H1 s1 i1 => ⟨y, IsD.bool_iff.mp i1, ?_⟩⟩
    cases y with
    | true => rw [if_pos rfl] at e4 ⊢; cases e4; exact k _ H1 s1 (IsD.bool_iff.mpr rfl)
    | false => rw [if_neg Bool.false_ne_true] at e4 ⊢; exact ⟨ρ, d, hs.same s1, e4, k.later s1⟩
def dIs (x y : PyData) : Option PyData := match x, y with | .bool a, .bool b => some (.bool (a == b)) | _, _ => none
def dIsNot (x y : PyData) : Option PyData := match x, y with | .bool a, .bool b => some (.bool (a != b)) | _, _ => none
theorem od_is : OpD X (compareOp .Is) dIs := by
  intro pins s σ H x y v u Q I rx ry ⟨d, d', c, i1, i2, e, k⟩
  cases d <;> cases d' <;> try (simp [dIs] at e; done)
  cases e
  rw [IsD.bool_iff.mp i1] at rx
  rw [IsD.bool_iff.mp i2] at ry
  cases rx; cases ry
  exact is_bool ⟨.bl _, H, I, rfl, k.here (IsD.bool_iff.mpr rfl)⟩
theorem od_isnot : OpD X (compareOp .IsNot) dIsNot := by
  intro pins s σ H x y v u Q I rx ry ⟨d, d', c, i1, i2, e, k⟩
  cases d <;> cases d' <;> try (simp [dIsNot] at e; done)
  cases e
  rw [IsD.bool_iff.mp i1] at rx
  rw [IsD.bool_iff.mp i2] at ry
  cases rx; cases ry
  exact isnot_bool ⟨.bl _, H, I, rfl, k.here (IsD.bool_iff.mpr rfl)⟩
/-! ### any, all of a list of bools -/
def boolsOf : List PyData → Option (List Bool)
  | [] => some []
  | .bool b :: r => (boolsOf r).map (b :: ·)
  | _ :: _ => none
theorem boolsOf_some : ∀ {ds : List PyData} {bs : List Bool}, boolsOf ds = some bs → ds = bs.map .bool
  | [], bs, h => by cases h; rfl
  | d :: r, bs, h => by
    cases d <;> try (simp [boolsOf] at h; done)
    obtain ⟨cs, e, rfl⟩ := Option.map_eq_some_iff.mp h
    rw [boolsOf_some e]; rfl
theorem boolsOf_map (bs : List Bool) : boolsOf (bs.map .bool) = some bs := by
  induction bs with
  | nil => rfl
  | cons b r ih => simp [boolsOf, ih]
theorem range_all' (bs : List Bool) : ((List.range bs.length).all fun i => (bs[i]?).getD true) = bs.all id := by
  rw [Bool.eq_iff_iff, List.all_eq_true, List.all_eq_true]
  refine ⟨fun h b hb => ?_, fun h i hi => ?_⟩
  · obtain ⟨i, hi, e⟩ := List.getElem_of_mem hb
    have := h i (List.mem_range.mpr hi)
    simpa [List.getElem?_eq_getElem hi, e] using this
  · have hi' := List.mem_range.mp hi
    simp only [List.getElem?_eq_getElem hi', Option.getD_some]
    exact h _ (List.getElem_mem hi')
theorem range_any' (bs : List Bool) : ((List.range bs.length).any fun i => (bs[i]?).getD false) = bs.any id := by
  rw [Bool.eq_iff_iff, List.any_eq_true, List.any_eq_true]
  constructor
  · rintro ⟨i, hi, e⟩
    have hi' := List.mem_range.mp hi
    simp only [List.getElem?_eq_getElem hi', Option.getD_some] at e
    exact ⟨_, List.getElem_mem hi', e⟩
  · rintro ⟨b, hb, e⟩
    obtain ⟨i, hi, rfl⟩ := List.getElem_of_mem hb
    exact ⟨i, List.mem_range.mpr hi, by simp only [List.getElem?_eq_getElem hi, Option.getD_some]; exact e⟩
def dAny : List PyData → Option PyData | [.list ds] => (boolsOf ds).map fun bs => .bool (bs.any id) | _ => none
def dAll : List PyData → Option PyData | [.list ds] => (boolsOf ds).map fun bs => .bool (bs.all id) | _ => none
theorem bools_vals {K : PySem.W.Frag} {H : Hp} {bs : List Bool} {vs : List V} {its : List Value} (i : IsDs K H (bs.map .bool) vs) (r : Vals vs its) {j : Nat} {v : Value} (e : its[j]? = some v) : ∃ b, bs[j]? = some b ∧ v = .bool b := by
  have hj : j < its.length := (List.getElem?_eq_some_iff.mp e).1
  have l1 := r.length
  have l2 := i.length
  have hb : j < bs.length := by simpa [l1, l2] using (by rw [List.length_map] at l2; omega : j < bs.length)
  have q : (bs.map PyData.bool)[j]? = some (.bool bs[j]) := by rw [List.getElem?_map, List.getElem?_eq_getElem hb]; rfl
  obtain ⟨x, e1, e2⟩ := i.get q
  obtain ⟨u, e3, e4⟩ := r.get e1
  rw [e] at e3; cases e3
  rw [IsD.bool_iff.mp e2] at e4
  exact ⟨_, List.getElem?_eq_getElem hb, e4⟩
theorem cd_any (hc : X.calm = true) : CallD X (.builtin "any") dAny := by
  intro pins s σ H xs us Q I r ⟨ds, c, i, e, k⟩
  match ds, e with
  | [.list ys], e =>
    obtain ⟨bs, e1, rfl⟩ := Option.map_eq_some_iff.mp e
    cases boolsOf_some e1
    obtain ⟨v, rfl, h1⟩ := isDs_one i
    obtain ⟨p, vs, rfl, e2, e3⟩ := IsD.list_iff.mp h1
    obtain ⟨u, rfl, ru⟩ := vals1 r
    cases ru
    obtain ⟨its, r', pl, hz⟩ := I.list e2
    have hl := pl.isList
    have hlt : p < s.heap.objs.size := by obtain ⟨_, e, _⟩ := hl; exact Heap.lt_size e
    refine call_any_walk (wpAny_pyIter_list hl ?_)
    refine ⟨s.heap.objs.size, [s.heap.objs.size, p], [s.heap.objs.size], its.toArray.size, _, _, fun i => (bs[i]?).getD false, rfl, Walks.list (A := X.A.in1) (I.ok.hd hc) _ p (Nat.ne_of_lt hlt) its.toArray,
      ⟨⟨_, Heap.get?_push_size _ rfl, rfl, rfl⟩, hl.push _⟩, fun i v s' Q' E' hP hQ => ?_, fun h' tk hk => ?_⟩
    · obtain ⟨b, e, rfl⟩ := bools_vals e3 r' (by simpa using hP)
      simp only [e, Option.getD_some] at hQ
      exact wpAny_truthy_bool hQ
    · have e : ((List.range its.toArray.size).any fun i => (bs[i]?).getD false) = bs.any id := by
        have l1 := r'.length
        have l2 := e3.length
        rw [List.length_map] at l2
        rw [List.size_toArray, show its.length = bs.length by omega]; exact range_any' bs
      rw [e]
      refine ⟨.bl _, H, I.kept fun b x e => ?_, rfl, k.here (IsD.bool_iff.mpr rfl)⟩
      exact hk b x (fun hm => by rw [List.mem_singleton.mp hm] at e; exact Nat.lt_irrefl _ (Heap.lt_size e)) (Heap.get?_push_of_some _ e)
theorem cd_all (hc : X.calm = true) : CallD X (.builtin "all") dAll := by
  intro pins s σ H xs us Q I r ⟨ds, c, i, e, k⟩
  match ds, e with
  | [.list ys], e =>
    obtain ⟨bs, e1, rfl⟩ := Option.map_eq_some_iff.mp e
    cases boolsOf_some e1
    obtain ⟨v, rfl, h1⟩ := isDs_one i
    obtain ⟨p, vs, rfl, e2, e3⟩ := IsD.list_iff.mp h1
    obtain ⟨u, rfl, ru⟩ := vals1 r
    cases ru
    obtain ⟨its, r', pl, hz⟩ := I.list e2
    have hl := pl.isList
    have hlt : p < s.heap.objs.size := by obtain ⟨_, e, _⟩ := hl; exact Heap.lt_size e
    refine call_all_walk (wpAny_pyIter_list hl ?_)
    refine ⟨s.heap.objs.size, [s.heap.objs.size, p], [s.heap.objs.size], its.toArray.size, _, _, fun i => (bs[i]?).getD true, rfl, Walks.list (A := X.A.in1) (I.ok.hd hc) _ p (Nat.ne_of_lt hlt) its.toArray,
      ⟨⟨_, Heap.get?_push_size _ rfl, rfl, rfl⟩, hl.push _⟩, fun i v s' Q' E' hP hQ => ?_, fun h' tk hk => ?_⟩
    · obtain ⟨b, e, rfl⟩ := bools_vals e3 r' (by simpa using hP)
      simp only [e, Option.getD_some] at hQ
      exact wpAny_truthy_bool hQ
    · have e : ((List.range its.toArray.size).all fun i => (bs[i]?).getD true) = bs.all id := by
        have l1 := r'.length
        have l2 := e3.length
        rw [List.length_map] at l2
        rw [List.size_toArray, show its.length = bs.length by omega]; exact range_all' bs
      rw [e]
      refine ⟨.bl _, H, I.kept fun b x e => ?_, rfl, k.here (IsD.bool_iff.mpr rfl)⟩
      exact hk b x (fun hm => by rw [List.mem_singleton.mp hm] at e; exact Nat.lt_irrefl _ (Heap.lt_size e)) (Heap.get?_push_of_some _ e)
/-! ### the comprehension, its side conditions found by computing -/
def freeOk (X : Cx) (scope : Scope) : Bool := scope.names.all fun p => p.2 != .free || (X.env.kindOf p.1 == some .cell || X.env.kindOf p.1 == some .free)
theorem pd_compI {elt iter : Expr} {x : Str} {px pos : Pos} {ifs : List Expr} {scope : Scope} (caps : List (Nat × Str)) {q : Rho → Option (List PyData)} {g : Rho → Option Bool} {f : Rho → Option PyData}
    (hi : PDI X (.Name x px) iter q)
    (ht : ∀ C s H fp, PDTs (cxIn X scope C (x :: caps.map (·.2)) s H fp) ifs g)
    (he : ∀ C s H fp, PD (cxIn X scope C (x :: caps.map (·.2)) s H fp) elt f)
    (hc : X.calm = true := by rfl) (S : ScopeIn scope x := by exact ⟨rfl, by decide +kernel, by decide +kernel, rfl, True.intro⟩) (hfr : freeOk X scope = true := by rfl) (hcap : CapsOk X scope caps := by repeat' (first | exact True.intro | refine ⟨⟨rfl, .inl rfl, rfl⟩, ?_⟩ | refine ⟨⟨rfl, .inr rfl, rfl⟩, ?_⟩)) (hnd : (x :: caps.map (·.2)).Nodup := by decide +kernel)
    (hs : ∀ x, foldedSetIterable iter X.env x = pure x := by intro _; rfl) : PD X (.ListComp elt [⟨.Name x px, iter, ifs, 0⟩] scope pos) (dComp q caps g f) := by
  intro pins s σ H Q I hQ
  refine pd_comp hc S (fun p hp e => I.ok.has p.1 ?_) hcap hnd hi ht he hs pins s σ H Q I hQ
  have := List.all_eq_true.mp hfr p hp
  simp only [Bool.or_eq_true, bne_iff_ne, ne_eq, beq_iff_eq] at this
  rcases this with h | h
  · exact absurd e h
  · exact h
theorem freeOk_has {pins : List (Addr × Obj)} {s : Shared} {σ : St} {H : Hp} {scope : Scope} (I : Inv X pins σ H s) (hfr : freeOk X scope = true) : ∀ p ∈ scope.names, p.2 = .free → ∃ c, X.env.cells.lookup p.1 = some c := fun p hp e => I.ok.has p.1 (by
  have := List.all_eq_true.mp hfr p hp
  simp only [Bool.or_eq_true, bne_iff_ne, ne_eq, beq_iff_eq] at this
  rcases this with h | h
  · exact absurd e h
  · exact h)
/-- y = [..], y a plain local -/
theorem pds_comp (i : Nat) {y : Str} {py spos : Pos} {elt iter : Expr} {x : Str} {px pos : Pos} {ifs : List Expr} {scope : Scope} (caps : List (Nat × Str)) {q : Rho → Option (List PyData)} {g : Rho → Option Bool} {f : Rho → Option PyData} (hN : X.N.Nodup)
    (hi : PDI X (.Name x px) iter q)
    (ht : ∀ C s H fp, PDTs (cxIn X scope C (x :: caps.map (·.2)) s H fp) ifs g)
    (he : ∀ C s H fp, PD (cxIn X scope C (x :: caps.map (·.2)) s H fp) elt f)
    (hc : X.calm = true := by rfl) (S : ScopeIn scope x := by exact ⟨rfl, by decide +kernel, by decide +kernel, rfl, True.intro⟩) (hfr : freeOk X scope = true := by rfl) (hcap : CapsOk X scope caps := by repeat' (first | exact True.intro | refine ⟨⟨rfl, .inl rfl, rfl⟩, ?_⟩ | refine ⟨⟨rfl, .inr rfl, rfl⟩, ?_⟩)) (hnd : (x :: caps.map (·.2)).Nodup := by decide +kernel)
    (hiy : X.N[i]? = some y := by rfl) (hy : X.env.scope.names.lookup y = some .local := by rfl) (hsw : swapsWith (.ListComp elt [⟨.Name x px, iter, ifs, 0⟩] scope pos) (some (.Name y py)) spos.line X.env = pure true := by rfl)
    (hs : ∀ x, foldedSetIterable iter X.env x = pure x := by intro _; rfl) : PDS X (.Assign [.Name y py] (.ListComp elt [⟨.Name x px, iter, ifs, 0⟩] scope pos) spos) (sAsg (dComp q caps g f) (bName i)) := by
  intro pins s σ H D I hQ
  refine PS.imp (ps_comp (pc_comp hc S (freeOk_has I hfr) hcap hnd hi ht he) S (freeOk_has I hfr) hN hiy hy hsw hs) (fun D σ H ⟨ρ, o, hs, e, k⟩ => ?_) pins s σ H D I hQ
  obtain ⟨d, e1, e2⟩ := bind_some e
  obtain ⟨ρ', e3, rfl⟩ := Option.map_eq_some_iff.mp e2
  cases e3
  exact ⟨ρ, d, hs, e1, fun v H1 s1 i1 => k _ H1 s1 ((hs.same s1).set i1)⟩
instance {O : List Nat} : (t : Tg) → Decidable (t.free O)
  | .one i => inferInstanceAs (Decidable (i ∉ O))
  | .many is => inferInstanceAs (Decidable (∀ i ∈ is, i ∉ O))
end
end L2

end
section
set_option Elab.async false
set_option linter.all false
set_option maxRecDepth 100000
set_option maxHeartbeats 1000000
namespace L2
open PySem PySem.Spec PyProof.Rows

/-! ### sorting, under a comparison that is known at one state only (keys may lie in the heap) -/
section
variable {prog : Program} {w : World} {A : Around} {E : Value → Shared → Prop} {s : Shared} {kd : SortKind} {κ : PyProof.Rows.KeyKind} {z : Array Keyed}
/-- at this state two keys compare as told -/
def LtHere (prog : Program) (w : World) (A : Around) (s : Shared) (kd : SortKind) (κ : PyProof.Rows.KeyKind) : Prop :=
  ∀ (F : Value → Shared → Prop) (u v : Value) (a b : κ.α) (P : Bool → Shared → Prop), κ.keyOf u = some a → κ.keyOf v = some b → P (κ.blt a b) s → wpAny (model prog w) A (keyLt' kd u v) P F s
structure Lies (kd : SortKind) (z : Array Keyed) (st : SortSt) : Prop where
  pm : (arrOf st).Perm z
  kn : kindOf st = kd
  fl : failedOf st = none
  pd : pendingOf st = #[]
theorem Lies.len {st : SortSt} (l : Lies kd z st) : (arrOf st).size = z.size := l.pm.size_eq
theorem Lies.upd {st : SortSt} {ys : Array Keyed} (l : Lies kd z st) (p : ys.Perm (arrOf st)) : Lies kd z (setArr st ys) := ⟨p.trans l.pm, l.kn, l.fl, l.pd⟩
abbrev ky (κ : PyProof.Rows.KeyKind) (st : SortSt) (i : Nat) : κ.α := KK κ (arrOf st) i
theorem Lies.look {st : SortSt} (l : Lies kd z st) (hk : KeysOf κ z) {i : Nat} (hi : i < z.size) : ∃ u, (arrOf st)[i]? = some u ∧ κ.keyOf u.1 = some (ky κ st i) := by
  have h1 : i < (arrOf st).size := l.len ▸ hi
  obtain ⟨a, e⟩ := hk (arrOf st)[i] ((Array.perm_iff_toList_perm.mp l.pm).mem_iff.mp (by simp))
  have e1 : (arrOf st)[i]? = some (arrOf st)[i] := getElem?_pos _ i h1
  exact ⟨_, e1, by show _ = some (KK κ _ _); unfold KK; rw [e1]; simp [e]⟩
theorem srt_lt {st : SortSt} {i j : Nat} {P : Option Bool → SortSt → Prop} (hl : LtHere prog w A s kd κ) (hk : KeysOf κ z) (l : Lies kd z st) (hi : i < z.size) (hj : j < z.size)
    (h : P (some (κ.blt (ky κ st i) (ky κ st j))) st) : wpS (model prog w) A E s (ltAt' i j) P st := by
  obtain ⟨u, eu, ku⟩ := l.look hk hi
  obtain ⟨v, ev, kv⟩ := l.look hk hj
  rw [ltAt'_eq]
  refine wpS_bind (wpS_get ?_)
  show wpS _ _ _ _ (elem' (arrOf st) i >>= fun x => elem' (arrOf st) j >>= fun y => lt' x y) P st
  simp only [elem'_eq, eu, ev]
  refine wpS_bind (wpS_pure (wpS_bind (wpS_pure ?_)))
  rw [lt'_eq]
  refine wpS_bind (wpS_get (wpS_bind (wpS_lift (wpAny_attempt ?_))))
  rw [l.kn]
  exact hl _ _ _ _ _ _ ku kv ⟨rfl, wpS_pure h⟩
/-- rising up to m -/
abbrev Up (κ : PyProof.Rows.KeyKind) (st : SortSt) (m : Nat) : Prop := SortedToK κ (arrOf st) m
/-- falling up to m -/
abbrev Dn (κ : PyProof.Rows.KeyKind) (st : SortSt) (m : Nat) : Prop := NonIncK κ (arrOf st) m
theorem up_le {st : SortSt} {m : Nat} (h : m ≤ 1) : Up κ st m := fun i j h1 h2 => by
  obtain rfl : i = j := by omega
  exact KeyOrd.kle_refl _
theorem up_succ {st : SortSt} {m : Nat} (h : Up κ st m) (h1 : 1 ≤ m) (hm : κ.kle (ky κ st (m - 1)) (ky κ st m)) : Up κ st (m + 1) := fun i j hij hj => by
  rcases Nat.lt_or_ge j m with q | q
  · exact h i j hij q
  · obtain rfl : j = m := by omega
    rcases Nat.lt_or_ge i j with q2 | q2
    · exact KeyOrd.kle_trans (h i (j - 1) (by omega) (by omega)) hm
    · obtain rfl : i = j := by omega
      exact KeyOrd.kle_refl _
theorem dn_succ {f : Nat → κ.α} {m : Nat} (h : ∀ i j, i ≤ j → j < m → κ.kle (f j) (f i)) (h1 : 1 ≤ m) (hm : κ.kle (f m) (f (m - 1))) : ∀ i j, i ≤ j → j < m + 1 → κ.kle (f j) (f i) := fun i j hij hj => by
  rcases Nat.lt_or_ge j m with q | q
  · exact h i j hij q
  · obtain rfl : j = m := by omega
    rcases Nat.lt_or_ge i j with q2 | q2
    · exact KeyOrd.kle_trans hm (h i (j - 1) (by omega) (by omega))
    · obtain rfl : i = j := by omega
      exact KeyOrd.kle_refl _
theorem srt_asc {st : SortSt} {a n : Nat} {P : AscSt → SortSt → Prop} (hl : LtHere prog w A s kd κ) (hk : KeysOf κ z) (l : Lies kd z st) (hn : n ≤ z.size) (h1 : 1 ≤ a) (h2 : a ≤ n) (hu : Up κ st a)
    (h : ∀ m, a ≤ m → m ≤ n → Up κ st m → m = n ∨ κ.klt (ky κ st m) (ky κ st (m - 1)) → P (none, m) st) : wpS (model prog w) A E s (ascLoop a n) P st := by
  unfold ascLoop
  refine wpS_forRange (fun m c t => t = st ∧ c = (none, m) ∧ Up κ st m) (fun m c t g1 g2 => ?_) (fun c t => ?_) ⟨rfl, rfl, hu⟩
  · rintro ⟨rfl, rfl, g3⟩
    refine wpS_bind (srt_lt hl hk l (by omega) (by omega) ?_)
    by_cases q : κ.klt (ky κ t m) (ky κ t (m - 1))
    · rw [show κ.blt (ky κ t m) (ky κ t (m - 1)) = true from q]
      exact wpS_pure (h m g1 (by omega) g3 (.inr q))
    · rw [show κ.blt (ky κ t m) (ky κ t (m - 1)) = false from Bool.eq_false_iff.mpr q]
      exact wpS_pure ⟨rfl, rfl, up_succ g3 (by omega) (KeyOrd.kle_of_not_klt q)⟩
  · rintro ⟨rfl, rfl, g3⟩
    have e : max a n = n := by omega
    rw [e] at g3 ⊢
    exact h n h2 (Nat.le_refl _) g3 (.inl rfl)
theorem srt_tail {st : SortSt} {m n : Nat} {P : Option Nat → SortSt → Prop} (hl : LtHere prog w A s kd κ) (hk : KeysOf κ z) (l : Lies kd z st) (hn : n ≤ z.size) (h1 : 1 ≤ m) (h2 : m ≤ n) (hd : Dn κ st m)
    (h : ∀ k t, Lies kd z t → 1 ≤ k → k ≤ n → Up κ t k → P (some k) t) : wpS (model prog w) A E s (tail3 m n) P st := by
  have hz : m ≤ (arrOf st).size := by rw [l.len]; omega
  have l' := l.upd (mirror_perm (arrOf st) 0 m ((m - 0) / 2))
  refine wpS_bind (wpS_reverse (wpS_bind (srt_asc hl hk l' hn h1 h2 (fun i j hij hj => ?_) fun k g1 g2 g3 _ => wpS_pure (h k _ l' (by omega) g2 g3))))
  show κ.kle (KK κ (mirror (arrOf st) 0 m _) i) (KK κ (mirror (arrOf st) 0 m _) j)
  rw [KK_mirror hz i, KK_mirror hz j, if_pos ⟨Nat.zero_le _, by omega⟩, if_pos ⟨Nat.zero_le _, hj⟩]
  exact hd _ _ (by omega) (by omega)
/-- the last q + 1 of the first m are alike -/
def Flat (κ : PyProof.Rows.KeyKind) (st : SortSt) (m q : Nat) : Prop := q + 1 ≤ m ∧ ∀ i, m - (q + 1) ≤ i → i < m → ky κ st i = ky κ st (m - 1)
theorem flat0 {st : SortSt} {m : Nat} (h : 1 ≤ m) : Flat κ st m 0 := ⟨by omega, fun i h1 h2 => by rw [show i = m - 1 by omega]⟩
theorem srt_desc {st : SortSt} {m n : Nat} {P : DescSt → SortSt → Prop} (hl : LtHere prog w A s kd κ) (hk : KeysOf κ z) (l : Lies kd z st) (hn : n ≤ z.size) (h1 : 1 ≤ m) (h2 : m ≤ n) (hd : Dn κ st m)
    (h : ∀ k q t, Lies kd z t → m ≤ k → k ≤ n → Dn κ t k → Flat κ t k q → P (none, k, q) t) : wpS (model prog w) A E s (descLoop m n) P st := by
  unfold descLoop
  refine wpS_forRange (fun k c t => ∃ q, c = (none, k, q) ∧ Lies kd z t ∧ Dn κ t k ∧ Flat κ t k q) (fun k c t g1 g2 => ?_) (fun c t => ?_) ⟨0, rfl, l, hd, flat0 h1⟩
  · rintro ⟨q, rfl, lt, dt, ft⟩
    have hz : k ≤ (arrOf t).size := by rw [lt.len]; omega
    dsimp only
    refine wpS_bind (srt_lt hl hk lt (by omega) (by omega) ?_)
    by_cases q1 : κ.klt (ky κ t k) (ky κ t (k - 1))
    · rw [show κ.blt (ky κ t k) (ky κ t (k - 1)) = true from q1]
      have dn := dn_succ (f := ky κ t) dt (by omega) (KeyOrd.kle_of_klt q1)
      dsimp only
      rw [if_pos rfl]
      by_cases q2 : q > 0
      · rw [if_pos q2]
        refine wpS_bind (wpS_reverse (wpS_pure ⟨0, rfl, lt.upd (mirror_perm _ _ _ _), fun i j hij hj => ?_, flat0 (by omega)⟩))
        show κ.kle (KK κ (mirror (arrOf t) _ _ _) j) (KK κ (mirror (arrOf t) _ _ _) i)
        rw [KK_mirror_equal hz ft.2, KK_mirror_equal hz ft.2]
        exact dn i j hij hj
      · rw [if_neg q2]
        exact wpS_pure ⟨0, rfl, lt, dn, flat0 (by omega)⟩
    · rw [show κ.blt (ky κ t k) (ky κ t (k - 1)) = false from Bool.eq_false_iff.mpr q1]
      dsimp only
      rw [if_neg Bool.false_ne_true]
      refine wpS_bind (srt_lt hl hk lt (by omega) (by omega) ?_)
      by_cases q2 : κ.klt (ky κ t (k - 1)) (ky κ t k)
      · rw [show κ.blt (ky κ t (k - 1)) (ky κ t k) = true from q2]
        exact wpS_pure (h k q t lt g1 (by omega) dt ft)
      · rw [show κ.blt (ky κ t (k - 1)) (ky κ t k) = false from Bool.eq_false_iff.mpr q2]
        have same : ky κ t k = ky κ t (k - 1) := KeyOrd.kle_antisymm (KeyOrd.kle_of_not_klt q2) (KeyOrd.kle_of_not_klt q1)
        refine wpS_pure ⟨q + 1, rfl, lt, dn_succ (f := ky κ t) dt (by omega) (KeyOrd.kle_of_not_klt q2), by have := ft.1; omega, fun i g3 g4 => ?_⟩
        rw [show k + 1 - 1 = k by omega, same]
        rcases Nat.lt_or_ge i k with q3 | q3
        · exact ft.2 i (by omega) q3
        · rw [show i = k by omega]; exact same
  · rintro ⟨q, rfl, lt, dt, ft⟩
    have e : max m n = n := by omega
    rw [e] at dt ft ⊢
    exact h n q t lt h2 (Nat.le_refl _) dt ft
theorem srt_descPart {st : SortSt} {m n : Nat} {P : Option Nat → SortSt → Prop} (hl : LtHere prog w A s kd κ) (hk : KeysOf κ z) (l : Lies kd z st) (hn : n ≤ z.size) (h2 : m + 1 ≤ n) (hd : Dn κ st (m + 1))
    (h : ∀ k t, Lies kd z t → 1 ≤ k → k ≤ n → Up κ t k → P (some k) t) : wpS (model prog w) A E s (descPart m n) P st := by
  unfold descPart
  refine wpS_bind (wpS_lift (wpAny_rule ⟨rfl, wpS_bind (srt_desc hl hk l hn (by omega) h2 hd fun k q t lt g1 g2 dt ft => ?_)⟩))
  have hz : k ≤ (arrOf t).size := by rw [lt.len]; omega
  dsimp only
  by_cases q1 : q > 0
  · rw [if_pos q1]
    refine wpS_bind (wpS_reverse (srt_tail hl hk (lt.upd (mirror_perm _ _ _ _)) hn (by omega) g2 (fun i j hij hj => ?_) h))
    show κ.kle (KK κ (mirror (arrOf t) _ _ _) j) (KK κ (mirror (arrOf t) _ _ _) i)
    rw [KK_mirror_equal hz ft.2, KK_mirror_equal hz ft.2]
    exact dt i j hij hj
  · rw [if_neg q1]
    exact srt_tail hl hk lt hn (by omega) g2 dt h
theorem srt_run {st : SortSt} {n : Nat} {P : Option Nat → SortSt → Prop} (hl : LtHere prog w A s kd κ) (hk : KeysOf κ z) (l : Lies kd z st) (hn : n ≤ z.size) (h1 : 1 ≤ n)
    (h : ∀ k t, Lies kd z t → 1 ≤ k → k ≤ n → Up κ t k → P (some k) t) : wpS (model prog w) A E s (countRun' 0 n) P st := by
  rw [countRun0_eq]
  refine wpS_bind (srt_asc hl hk l hn (Nat.le_refl 1) h1 (up_le (Nat.le_refl 1)) fun m g1 g2 u o => ?_)
  dsimp only
  by_cases q : m = n
  · rw [if_pos (beq_iff_eq.mpr q)]
    exact wpS_pure (h m st l g1 g2 u)
  · rw [if_neg (fun q2 => q (beq_iff_eq.mp q2))]
    have fall := o.resolve_left q
    by_cases q2 : m > 1
    · rw [if_pos q2]
      refine wpS_bind (srt_lt hl hk l (by omega) (by omega) ?_)
      by_cases q3 : κ.klt (ky κ st 0) (ky κ st (m - 1))
      · rw [show κ.blt (ky κ st 0) (ky κ st (m - 1)) = true from q3]
        exact wpS_pure (h m st l g1 g2 u)
      · rw [show κ.blt (ky κ st 0) (ky κ st (m - 1)) = false from Bool.eq_false_iff.mpr q3]
        have hz : m ≤ (arrOf st).size := by rw [l.len]; omega
        have alike : ∀ i, 0 ≤ i → i < m → ky κ st i = ky κ st (m - 1) := fun i _ hi =>
          KeyOrd.kle_antisymm (u i (m - 1) (by omega) (by omega)) (KeyOrd.kle_trans (KeyOrd.kle_of_not_klt q3) (u 0 i (by omega) hi))
        have dn : ∀ i j, i ≤ j → j < m + 1 → κ.kle (ky κ st j) (ky κ st i) := dn_succ (f := ky κ st) (fun i j hij hj => by rw [alike i (Nat.zero_le _) (by omega), alike j (Nat.zero_le _) hj]; exact KeyOrd.kle_refl _) g1 (KeyOrd.kle_of_klt fall)
        dsimp only
        rw [if_neg Bool.false_ne_true]
        refine wpS_bind (wpS_reverse (srt_descPart hl hk (l.upd (mirror_perm _ _ _ _)) hn (by omega) (fun i j hij hj => ?_) h))
        show κ.kle (KK κ (mirror (arrOf st) _ _ _) j) (KK κ (mirror (arrOf st) _ _ _) i)
        rw [KK_mirror_equal hz alike, KK_mirror_equal hz alike]
        exact dn i j hij hj
    · rw [if_neg q2]
      obtain rfl : m = 1 := by omega
      exact srt_descPart hl hk l hn (by omega) (dn_succ (f := ky κ st) (fun i j hij hj => by rw [show i = j by omega]; exact KeyOrd.kle_refl _) (Nat.le_refl 1) (KeyOrd.kle_of_klt fall)) h
theorem srt_bin {st : SortSt} {n m : Nat} {P : Bool → SortSt → Prop} (hl : LtHere prog w A s kd κ) (hk : KeysOf κ z) (l : Lies kd z st) (hn : n ≤ z.size) (hm : m ≤ n) (hu : Up κ st m)
    (h : ∀ t, Lies kd z t → Up κ t n → P true t) : wpS (model prog w) A E s (binarySort' 0 n m) P st := by
  rw [binarySort'_eq]
  simp only [Nat.zero_add]
  refine wpS_bind (wpS_mono (wpS_forRange (fun k c t => c = (none, ()) ∧ Lies kd z t ∧ Up κ t (min k n)) (Q := fun c t => c = (none, ()) ∧ Lies kd z t ∧ Up κ t n) (fun k c t g1 g2 => ?_) (fun c t => ?_) ⟨rfl, l, ?_⟩) fun c t => ?_)
  · rintro ⟨rfl, lt, ut⟩
    rw [show min k n = k by omega] at ut
    have hkz : k < z.size := by omega
    -- the place: all ahead of lo are not above, all from hi on are above
    refine wpS_bind (wpS_mono (wpS_forRange (fun x c t' => t' = t ∧ ∃ lo hi, c = (none, lo, hi) ∧ lo ≤ hi ∧ hi ≤ k ∧ hi - lo ≤ k - x ∧ (∀ i, i < lo → κ.kle (ky κ t i) (ky κ t k)) ∧ ∀ i, hi ≤ i → i < k → κ.klt (ky κ t k) (ky κ t i))
      (Q := fun c t' => t' = t ∧ ∃ lo hi, c = (none, lo, hi) ∧ lo ≤ k ∧ (∀ i, i < lo → κ.kle (ky κ t i) (ky κ t k)) ∧ ∀ i, lo ≤ i → i < k → κ.klt (ky κ t k) (ky κ t i)) (fun x c t' _ g3 => ?_) (fun c t' => ?_) ⟨rfl, 0, k, rfl, Nat.zero_le _, Nat.le_refl _, by omega, fun i hi => absurd hi (Nat.not_lt_zero _), fun i h1 h2 => absurd h2 (Nat.not_lt.mpr h1)⟩) fun c t' => ?_)
    · rintro ⟨rfl, lo, hi, rfl, a1, a2, a3, a4, a5⟩
      dsimp only
      by_cases q : lo ≥ hi
      · obtain rfl : lo = hi := Nat.le_antisymm a1 q
        rw [if_pos q]
        exact wpS_pure ⟨rfl, lo, lo, rfl, a2, a4, a5⟩
      · rw [if_neg q]
        refine wpS_bind (srt_lt hl hk lt hkz (by omega) ?_)
        by_cases q1 : κ.klt (ky κ t' k) (ky κ t' ((lo + hi) / 2))
        · rw [show κ.blt (ky κ t' k) (ky κ t' ((lo + hi) / 2)) = true from q1]
          exact wpS_pure ⟨rfl, lo, (lo + hi) / 2, rfl, by omega, by omega, by omega, a4, fun i b1 b2 => KeyOrd.klt_of_klt_of_kle q1 (ut _ i b1 b2)⟩
        · rw [show κ.blt (ky κ t' k) (ky κ t' ((lo + hi) / 2)) = false from Bool.eq_false_iff.mpr q1]
          exact wpS_pure ⟨rfl, (lo + hi) / 2 + 1, hi, rfl, by omega, a2, by omega, fun i b1 => KeyOrd.kle_trans (ut i ((lo + hi) / 2) (by omega) (by omega)) (KeyOrd.kle_of_not_klt q1), a5⟩
    · rintro ⟨rfl, lo, hi, rfl, a1, a2, a3, a4, a5⟩
      obtain rfl : lo = hi := by omega
      exact ⟨rfl, lo, lo, rfl, a2, a4, a5⟩
    · rintro ⟨rfl, lo, hi, rfl, a2, a4, a5⟩
      show wpS _ _ _ _ (moveDown' k lo >>= fun _ => pure (ForInStep.yield (none, ()))) _ _
      rw [moveDown'_eq]
      have hz : k < (arrOf t').size := by rw [lt.len]; exact hkz
      refine wpS_bind (wpS_modify (wpS_pure ⟨rfl, lt.upd (bubble_perm _ _ _), fun i j hij hj => ?_⟩))
      have hj' : j < k + 1 := by omega
      have e := fun x => KK_bubble (κ := κ) (xs := arrOf t') hz (show k - lo ≤ k by omega) x
      have e0 : k - (k - lo) = lo := by omega
      show κ.kle (KK κ (bubble (arrOf t') k (k - lo)) i) (KK κ (bubble (arrOf t') k (k - lo)) j)
      rw [e i, e j, e0]
      by_cases i1 : i = lo
      · rw [if_pos i1]
        by_cases j1 : j = lo
        · rw [if_pos j1]; exact KeyOrd.kle_refl _
        · rw [if_neg j1, if_pos (by omega)]
          exact KeyOrd.kle_of_klt (a5 _ (by omega) (by omega))
      · rw [if_neg i1]
        by_cases j1 : j = lo
        · rw [if_pos j1, if_neg (by omega)]
          exact a4 i (by omega)
        · rw [if_neg j1]
          by_cases i2 : lo < i ∧ i ≤ k
          · rw [if_pos i2, if_pos (by omega)]
            exact ut _ _ (by omega) (by omega)
          · rw [if_neg i2]
            by_cases j2 : lo < j ∧ j ≤ k
            · rw [if_pos j2]; exact ut _ _ (by omega) (by omega)
            · rw [if_neg j2]; exact ut _ _ (by omega) (by omega)
  · rintro ⟨rfl, lt, ut⟩
    refine ⟨rfl, lt, ?_⟩
    rwa [show min (max (max m 1) n) n = n by omega] at ut
  · rcases Nat.eq_zero_or_pos m with q | q
    · exact up_le (by omega)
    · intro i j hij hj
      exact hu i j hij (by omega)
  · rintro ⟨rfl, lt, ut⟩
    exact wpS_pure (h t lt ut)
/-- sorted, fewer than 64 -/
theorem srt_all {st : SortSt} {P : Unit → SortSt → Prop} (hl : LtHere prog w A s kd κ) (hk : KeysOf κ z) (l : Lies kd z st) (h2 : 2 ≤ z.size) (h64 : z.size < 64)
    (h : ∀ t, (arrOf t).Perm z → failedOf t = none → Up κ t z.size → P () t) : wpS (model prog w) A E s sortRuns' P st := by
  have mr : minRun' z.size z.size 0 = z.size := by
    cases e : z.size with
    | zero => omega
    | succ f => rw [minRun'_succ, if_pos (e ▸ h64)]
  rw [sortRuns'_eq]
  refine wpS_bind (wpS_get ?_)
  dsimp only
  simp only [l.len, mr]
  let Dn' : SortSt → Prop := fun t => (arrOf t).Perm z ∧ failedOf t = none ∧ pendingOf t = #[(0, z.size, 0)] ∧ Up κ t z.size
  refine wpS_bind (wpS_mono (wpS_forRange (fun x c t => (x = 0 ∧ c = (none, 0) ∧ Lies kd z t) ∨ (0 < x ∧ c = (none, z.size) ∧ Dn' t)) (Q := fun c t => c = (none, z.size) ∧ Dn' t) (fun x c t _ g => ?_) (fun c t => ?_) (.inl ⟨rfl, rfl, l⟩)) fun c t => ?_)
  · rintro (⟨rfl, rfl, lt⟩ | ⟨g2, rfl, d⟩)
    · dsimp only
      rw [if_neg (by omega)]
      simp only [Nat.sub_zero, Nat.min_self, Nat.zero_add]
      refine wpS_bind (srt_run hl hk lt (Nat.le_refl _) (by omega) fun k t1 l1 a1 a2 u1 => ?_)
      have push : ∀ t2 : SortSt, Lies kd z t2 → Up κ t2 z.size → Dn' (setPending t2 ((pendingOf t2).push (0, z.size, 0))) := fun t2 l2 u2 => ⟨l2.pm, l2.fl, by show (pendingOf t2).push _ = _; rw [l2.pd]; rfl, u2⟩
      dsimp only
      by_cases q : k < z.size
      · rw [if_pos q]
        refine wpS_bind (wpS_lift (wpAny_rule ⟨rfl, wpS_bind (srt_bin hl hk l1 (Nat.le_refl _) a2 u1 fun t2 l2 u2 => ?_)⟩))
        rw [if_neg (by simp)]
        refine wpS_bind (wpS_get ?_)
        rw [show (pendingOf t2).back? = none by rw [l2.pd]; rfl]
        exact wpS_bind (wpS_modify (wpS_pure (.inr ⟨Nat.succ_pos _, rfl, push t2 l2 u2⟩)))
      · obtain rfl : k = z.size := by omega
        rw [if_neg q]
        refine wpS_bind (wpS_get ?_)
        rw [show (pendingOf t1).back? = none by rw [l1.pd]; rfl]
        exact wpS_bind (wpS_modify (wpS_pure (.inr ⟨Nat.succ_pos _, rfl, push t1 l1 u1⟩)))
    · dsimp only
      rw [if_pos (Nat.le_refl _)]
      exact wpS_pure ⟨rfl, d⟩
  · rintro (⟨g1, _⟩ | ⟨_, g2, d⟩)
    · omega
    · exact ⟨g2, d⟩
  · rintro ⟨rfl, d⟩
    dsimp only
    refine wpS_bind (wpS_mono (wpS_forRange (fun _ c t' => t' = t ∧ c = (none, ())) (Q := fun c t' => t' = t ∧ c = (none, ())) (fun x c t' _ _ => ?_) (fun _ _ q => q) ⟨rfl, rfl⟩) fun c t' => ?_)
    · rintro ⟨rfl, rfl⟩
      refine wpS_bind (wpS_get ?_)
      rw [if_pos (by rw [d.2.2.1]; exact Nat.le_refl _)]
      exact wpS_pure ⟨rfl, rfl⟩
    · rintro ⟨rfl, rfl⟩
      exact wpS_pure (h _ d.1 d.2.1 d.2.2.2)
/-- the heap while a list is sorted: the list emptied, its items in a tuple of their own -/
def midHeap (h : Heap) (a : Addr) (vs : List Value) : Heap := ((h.update a (Obj.mapSeq fun _ => #[])).push (seqObj "tuple" vs.toArray 0)).push (seqObj "list" #[] 0)
theorem srt_list {a : Addr} {vs : List Value} {n : Nat} {P : Fin → Shared → Prop} (ho : s.heap.get? a = some (seqObj "list" vs.toArray n)) (h64 : vs.length < 64) (hk : KeysOf κ (pairsOf vs))
    (hkd : 2 ≤ vs.length → ∀ R : SortKind → Shared → Prop, R kd { s with heap := midHeap s.heap a vs } → wpAny (model prog w) A (keyKind' vs.toArray) R E { s with heap := midHeap s.heap a vs })
    (hl : LtHere prog w A { s with heap := midHeap s.heap a vs } kd κ)
    (h : ∀ t : Array Keyed, t.Perm (pairsOf vs) → SortedToK κ t vs.length → P (.done (.ret .none)) { s with heap := sortedHeap s.heap a vs (t.map (·.2)) }) : wpAny (model prog w) A (Builtin.«list.sort» ⟨[.ref a], []⟩) P E s := by
  have ha := Heap.lt_size ho
  have pz := pairsOf_size vs
  obtain ⟨c, hc⟩ : ∃ c, (s.heap.update a (Obj.mapSeq fun _ => #[])).get? a = some (seqObj "list" #[] c) := ⟨_, get?_update_seq ho fun _ => #[]⟩
  have hm : (midHeap s.heap a vs).get? a = some (seqObj "list" #[] c) := by
    unfold midHeap
    have n1 : a ≠ (s.heap.update a (Obj.mapSeq fun _ => #[])).objs.size := by rw [Heap.size_update]; exact Nat.ne_of_lt ha
    have n2 : a ≠ ((s.heap.update a (Obj.mapSeq fun _ => #[])).push (seqObj "tuple" vs.toArray 0)).objs.size := by rw [size_push', Heap.size_update]; exact Nat.ne_of_lt (Nat.lt_succ_of_lt ha)
    rw [Heap.get?_push_ne _ _ _ n2, Heap.get?_push_ne _ _ _ n1]
    exact hc
  have fits : ∀ t : Array Keyed, t.Perm (pairsOf vs) → (t.map (·.2)).size ≤ sizeLine + 1 := fun t q => by
    have := q.size_eq
    rw [Array.size_map, this, pz, sizeLine_eq]; omega
  rw [list_sort_plain]
  refine wpAny_bind (listItems_at ho rfl (wpAny_bind (listUpdate_at ho rfl (wpAny_bind (seqEpoch_at hc rfl (wpAny_bind (wpAny_newTuple (wpAny_bind (wpAny_newList (wpAny_holding ?_)))))) ))))
  show wpAny (model prog w) A _ P E { s with heap := midHeap s.heap a vs }
  dsimp only
  by_cases q : vs.length < 2
  · have q' : vs.toArray.size < 2 := by simpa using q
    rw [if_pos q', if_pos q']
    refine wpAny_bind (wpAny_pure ?_)
    rw [StateT.run_pure]
    refine wpAny_bind (wpAny_pure (wpAny_bind (seqEpoch_at hm rfl (wpAny_bind (listUpdate_at hm rfl ?_ (hsz2 := fits _ (Array.Perm.refl _)))))))
    simp only [bne_self_eq_false, Bool.false_eq_true, if_false]
    exact wpAny_pure (h _ (Array.Perm.refl _) fun i j hij hj => by rw [show i = j by omega]; exact KeyOrd.kle_refl _)
  · have q' : ¬ vs.toArray.size < 2 := by simpa using q
    rw [if_neg q', if_neg q']
    refine wpAny_bind (hkd (by omega) _ ?_)
    refine wpAny_bind (wpAny_mono (srt_all (z := pairsOf vs) (st := SortSt.mk' kd (vs.toArray.zip vs.toArray) #[] 7 none) (P := fun _ t => (arrOf t).Perm (pairsOf vs) ∧ failedOf t = none ∧ Up κ t (pairsOf vs).size)
      hl hk ⟨Array.Perm.refl _, rfl, rfl, rfl⟩ (by omega) (by omega) fun t a1 a2 a3 => ⟨a1, a2, a3⟩) (fun r s' => ?_) fun _ _ e => e)
    obtain ⟨⟨⟩, t⟩ := r
    rintro ⟨rfl, p1, p2, p3⟩
    dsimp only at p1 p2 p3 ⊢
    refine wpAny_bind (seqEpoch_at hm rfl (wpAny_bind (listUpdate_at hm rfl ?_ (hsz2 := fits _ p1))))
    rw [p2]
    simp only [bne_self_eq_false, Bool.false_eq_true, if_false]
    exact wpAny_pure (h _ p1 (pz ▸ p3))
/-- the heap at which sorted(l) compares -/
def srtHeap (h : Heap) (vs : List Value) : Heap := midHeap (((h.push (seqObj "list" #[] 0)).update h.objs.size (Obj.mapSeq (· ++ vs.toArray))).push (seqObj "list" vs.toArray 0)) (h.objs.size + 1) vs
theorem srt_sorted {l : Addr} {vs : List Value} {Q : Value → Shared → Prop} (hlist : s.heap.IsList l vs.toArray) (h64 : vs.length < 64) (hk : KeysOf κ (pairsOf vs))
    (hkd : 2 ≤ vs.length → ∀ (A' : Around) (E' : Value → Shared → Prop) (R : SortKind → Shared → Prop), R kd { s with heap := srtHeap s.heap vs } → wpAny (model prog w) A' (keyKind' vs.toArray) R E' { s with heap := srtHeap s.heap vs })
    (hl : ∀ A' : Around, A'.units ≤ A.units + 2 → LtHere prog w A' { s with heap := srtHeap s.heap vs } kd κ)
    (h : ∀ t : Array Keyed, t.Perm (pairsOf vs) → SortedToK κ t vs.length → Q (.ref (s.heap.objs.size + 1)) { s with heap := sortedAll s.heap vs (t.map (·.2)) }) : wpAny (model prog w) A (call (.builtin "sorted") [.ref l]) Q E s := by
  have hsz : ((s.heap.push (seqObj "list" #[] 0)).update s.heap.objs.size (Obj.mapSeq (· ++ vs.toArray))).objs.size = s.heap.objs.size + 1 := by rw [Heap.size_update, size_push']
  have hoL : (((s.heap.push (seqObj "list" #[] 0)).update s.heap.objs.size (Obj.mapSeq (· ++ vs.toArray))).push (seqObj "list" vs.toArray 0)).get? (s.heap.objs.size + 1) = some (seqObj "list" vs.toArray 0) := hsz ▸ Heap.get?_push_size _ rfl
  refine Calls.call_function_entry kind_sorted plain_sorted entry_sorted (args_sorted1 _) ?_
  unfold Builtin.«sorted»
  refine wpAny_bind (m := checkCount "sorted" 1 1 _) (wpAny_pure (wpAny_bind (collect_list hlist (wpAny_bind (wpAny_newList ?_)))))
  show wpAny _ _ _ _ _ { s with heap := ((s.heap.push (seqObj "list" #[] 0)).update s.heap.objs.size (Obj.mapSeq (· ++ vs.toArray))).push (seqObj "list" vs.toArray 0) }
  rw [hsz]
  refine wpAny_bind (wpAny_holding (wpAny_call_entry slot_list_sort ⟨_, hoL, rfl⟩ entry_list_sort (srt_list hoL h64 hk (fun q R r => hkd q _ _ R r) (hl _ ?_) fun t p u => ⟨_, rfl, ?_⟩) (args_list_sort _)))
  · exact Nat.le_refl _
  · exact wpAny_pure ⟨_, rfl, h t p u⟩
end
end L2

end
section
set_option Elab.async false
set_option linter.all false
set_option maxRecDepth 100000
set_option maxHeartbeats 1000000
namespace L2
open PySem PySem.Spec PyProof.Rows

/-! ### the order of data: ints, texts, tuples of such -/
def rankD : PyData → Nat
  | .int _ => 0
  | .str _ => 1
  | .tuple _ => 2
  | _ => 3
mutual
noncomputable def ltD : PyData → PyData → Bool
  | .int a, .int b => decide (a < b)
  | .str a, .str b => decide (a.cps.toList < b.cps.toList)
  | .tuple xs, .tuple ys => ltDs xs ys
  | a, b => decide (rankD a < rankD b)
noncomputable def ltDs : List PyData → List PyData → Bool
  | [], [] => false
  | [], _ :: _ => true
  | _ :: _, [] => false
  | x :: xs, y :: ys => if x = y then ltDs xs ys else ltD x y
end
mutual
/-- Python can tell: of one kind, and so where they first differ -/
noncomputable def canD : PyData → PyData → Bool
  | .int _, .int _ => true
  | .str _, .str _ => true
  | .tuple xs, .tuple ys => canDs xs ys
  | _, _ => false
noncomputable def canDs : List PyData → List PyData → Bool
  | x :: xs, y :: ys => if x = y then canDs xs ys else canD x y
  | _, _ => true
end
theorem ltD_int (a b : Int) : ltD (.int a) (.int b) = decide (a < b) := by rw [ltD]
theorem ltD_str (a b : Str) : ltD (.str a) (.str b) = decide (a.cps.toList < b.cps.toList) := by rw [ltD]
theorem ltD_tuple (xs ys : List PyData) : ltD (.tuple xs) (.tuple ys) = ltDs xs ys := by rw [ltD]
theorem ltDs_cons (x y : PyData) (xs ys : List PyData) : ltDs (x :: xs) (y :: ys) = if x = y then ltDs xs ys else ltD x y := by rw [ltDs]
/-- of two kinds: by the kind -/
theorem ltD_rank {a b : PyData} (ha : TK.hkD a = true) (hb : TK.hkD b = true) (h : rankD a ≠ rankD b) : ltD a b = decide (rankD a < rankD b) := by
  cases a <;> simp [TK.hkD] at ha <;> cases b <;> simp [TK.hkD] at hb <;> first | (exfalso; exact h rfl) | (rw [ltD] <;> simp)
mutual
theorem ltD_irrefl : ∀ {a : PyData}, TK.hkD a = true → ltD a a = false
  | .int a, _ => by rw [ltD_int]; exact decide_eq_false (Int.lt_irrefl a)
  | .str a, _ => by rw [ltD_str]; exact decide_eq_false (List.lt_irrefl _)
  | .tuple xs, h => by rw [ltD_tuple]; exact ltDs_irrefl (by simpa [TK.hkD] using h)
  | .none, h => by simp [TK.hkD] at h
  | .bool _, h => by simp [TK.hkD] at h
  | .list _, h => by simp [TK.hkD] at h
  | .dict _, h => by simp [TK.hkD] at h
theorem ltDs_irrefl : ∀ {xs : List PyData}, TK.hkDs xs = true → ltDs xs xs = false
  | [], _ => by rw [ltDs]
  | x :: xs, h => by
    rw [ltDs_cons, if_pos rfl]
    exact ltDs_irrefl (by simp [TK.hkDs] at h; exact h.2)
end
mutual
theorem ltD_total : ∀ {a b : PyData}, TK.hkD a = true → TK.hkD b = true → ltD a b = false → ltD b a = false → a = b
  | .int a, .int b, _, _, h1, h2 => by
    rw [ltD_int] at h1 h2
    have := of_decide_eq_false h1; have := of_decide_eq_false h2
    rw [show a = b by omega]
  | .str a, .str b, _, _, h1, h2 => by
    rw [ltD_str] at h1 h2
    have e : a.cps.toList = b.cps.toList := List.le_antisymm (List.not_lt.mp (of_decide_eq_false h2)) (List.not_lt.mp (of_decide_eq_false h1))
    have e2 : a.cps = b.cps := Array.toList_inj.mp e
    cases a; cases b
    cases e2; rfl
  | .tuple xs, .tuple ys, ha, hb, h1, h2 => by
    rw [ltD_tuple] at h1 h2
    rw [ltDs_total (by simpa [TK.hkD] using ha) (by simpa [TK.hkD] using hb) h1 h2]
  | .int _, .str _, ha, hb, h1, h2 => by rw [ltD_rank ha hb (by simp [rankD])] at h1; simp [rankD] at h1
  | .int _, .tuple _, ha, hb, h1, h2 => by rw [ltD_rank ha hb (by simp [rankD])] at h1; simp [rankD] at h1
  | .str _, .tuple _, ha, hb, h1, h2 => by rw [ltD_rank ha hb (by simp [rankD])] at h1; simp [rankD] at h1
  | .str _, .int _, ha, hb, h1, h2 => by rw [ltD_rank hb ha (by simp [rankD])] at h2; simp [rankD] at h2
  | .tuple _, .int _, ha, hb, h1, h2 => by rw [ltD_rank hb ha (by simp [rankD])] at h2; simp [rankD] at h2
  | .tuple _, .str _, ha, hb, h1, h2 => by rw [ltD_rank hb ha (by simp [rankD])] at h2; simp [rankD] at h2
  | .none, _, h, _, _, _ => by simp [TK.hkD] at h
  | .bool _, _, h, _, _, _ => by simp [TK.hkD] at h
  | .list _, _, h, _, _, _ => by simp [TK.hkD] at h
  | .dict _, _, h, _, _, _ => by simp [TK.hkD] at h
  | .int _, .none, _, h, _, _ => by simp [TK.hkD] at h
  | .int _, .bool _, _, h, _, _ => by simp [TK.hkD] at h
  | .int _, .list _, _, h, _, _ => by simp [TK.hkD] at h
  | .int _, .dict _, _, h, _, _ => by simp [TK.hkD] at h
  | .str _, .none, _, h, _, _ => by simp [TK.hkD] at h
  | .str _, .bool _, _, h, _, _ => by simp [TK.hkD] at h
  | .str _, .list _, _, h, _, _ => by simp [TK.hkD] at h
  | .str _, .dict _, _, h, _, _ => by simp [TK.hkD] at h
  | .tuple _, .none, _, h, _, _ => by simp [TK.hkD] at h
  | .tuple _, .bool _, _, h, _, _ => by simp [TK.hkD] at h
  | .tuple _, .list _, _, h, _, _ => by simp [TK.hkD] at h
  | .tuple _, .dict _, _, h, _, _ => by simp [TK.hkD] at h
theorem ltDs_total : ∀ {a b : List PyData}, TK.hkDs a = true → TK.hkDs b = true → ltDs a b = false → ltDs b a = false → a = b
  | [], [], _, _, _, _ => rfl
  | [], _ :: _, _, _, h1, _ => by rw [ltDs] at h1; cases h1
  | _ :: _, [], _, _, _, h2 => by rw [ltDs] at h2; cases h2
  | x :: xs, y :: ys, ha, hb, h1, h2 => by
    simp only [TK.hkDs, Bool.and_eq_true] at ha hb
    rw [ltDs_cons] at h1 h2
    by_cases q : x = y
    · subst q
      rw [if_pos rfl] at h1 h2
      rw [ltDs_total ha.2 hb.2 h1 h2]
    · rw [if_neg q] at h1
      rw [if_neg (Ne.symm q)] at h2
      exact absurd (ltD_total ha.1 hb.1 h1 h2) q
end
theorem ltD_asymm_of {a b : PyData} (ha : TK.hkD a = true) (tr : ltD a b = true → ltD b a = true → ltD a a = true) (h : ltD a b = true) : ltD b a = false := by
  cases q : ltD b a with
  | false => rfl
  | true => have := tr h q; rw [ltD_irrefl ha] at this; cases this
theorem rank_of {a b : PyData} (ha : TK.hkD a = true) (hb : TK.hkD b = true) (h : ltD a b = true) : rankD a ≤ rankD b := by
  by_cases q : rankD a = rankD b
  · omega
  · rw [ltD_rank ha hb q] at h
    have := of_decide_eq_true h
    omega
theorem ltD_trans_flat {a b c : PyData} (h0 : rankD a < 2) (ha : TK.hkD a = true) (hb : TK.hkD b = true) (hc : TK.hkD c = true) (h1 : ltD a b = true) (h2 : ltD b c = true) : ltD a c = true := by
  have r1 := rank_of ha hb h1
  have r2 := rank_of hb hc h2
  by_cases q : rankD a = rankD c
  · cases a <;> simp [TK.hkD] at ha <;> cases c <;> simp [TK.hkD] at hc <;> simp only [rankD] at q r1 r2 h0 <;> try omega
    · cases b <;> simp [TK.hkD] at hb <;> simp only [rankD] at r1 r2 <;> try omega
      rw [ltD_int] at *
      exact decide_eq_true (Int.lt_trans (of_decide_eq_true h1) (of_decide_eq_true h2))
    · cases b <;> simp [TK.hkD] at hb <;> simp only [rankD] at r1 r2 <;> try omega
      rw [ltD_str] at *
      exact decide_eq_true (List.lt_trans (of_decide_eq_true h1) (of_decide_eq_true h2))
  · rw [ltD_rank ha hc q]
    exact decide_eq_true (by omega)
mutual
theorem ltD_trans : ∀ {a b c : PyData}, TK.hkD a = true → TK.hkD b = true → TK.hkD c = true → ltD a b = true → ltD b c = true → ltD a c = true
  | .tuple xs, .tuple ys, .tuple zs, ha, hb, hc, h1, h2 => by
    rw [ltD_tuple] at *
    exact ltDs_trans (by simpa [TK.hkD] using ha) (by simpa [TK.hkD] using hb) (by simpa [TK.hkD] using hc) h1 h2
  | .int _, _, _, ha, hb, hc, h1, h2 => ltD_trans_flat (by simp [rankD]) ha hb hc h1 h2
  | .str _, _, _, ha, hb, hc, h1, h2 => ltD_trans_flat (by simp [rankD]) ha hb hc h1 h2
  | .none, _, _, h, _, _, _, _ => by simp [TK.hkD] at h
  | .bool _, _, _, h, _, _, _, _ => by simp [TK.hkD] at h
  | .list _, _, _, h, _, _, _, _ => by simp [TK.hkD] at h
  | .dict _, _, _, h, _, _, _, _ => by simp [TK.hkD] at h
  | .tuple _, .int _, _, ha, hb, _, h1, _ => by have := rank_of ha hb h1; simp [rankD] at this
  | .tuple _, .str _, _, ha, hb, _, h1, _ => by have := rank_of ha hb h1; simp [rankD] at this
  | .tuple _, .none, _, _, h, _, _, _ => by simp [TK.hkD] at h
  | .tuple _, .bool _, _, _, h, _, _, _ => by simp [TK.hkD] at h
  | .tuple _, .list _, _, _, h, _, _, _ => by simp [TK.hkD] at h
  | .tuple _, .dict _, _, _, h, _, _, _ => by simp [TK.hkD] at h
  | .tuple _, .tuple _, .int _, _, hb, hc, _, h2 => by have := rank_of hb hc h2; simp [rankD] at this
  | .tuple _, .tuple _, .str _, _, hb, hc, _, h2 => by have := rank_of hb hc h2; simp [rankD] at this
  | .tuple _, .tuple _, .none, _, _, h, _, _ => by simp [TK.hkD] at h
  | .tuple _, .tuple _, .bool _, _, _, h, _, _ => by simp [TK.hkD] at h
  | .tuple _, .tuple _, .list _, _, _, h, _, _ => by simp [TK.hkD] at h
  | .tuple _, .tuple _, .dict _, _, _, h, _, _ => by simp [TK.hkD] at h
theorem ltDs_trans : ∀ {a b c : List PyData}, TK.hkDs a = true → TK.hkDs b = true → TK.hkDs c = true → ltDs a b = true → ltDs b c = true → ltDs a c = true
  | [], [], _, _, _, _, h1, _ => by rw [ltDs] at h1; cases h1
  | _ :: _, [], _, _, _, _, h1, _ => by rw [ltDs] at h1; cases h1
  | [], _ :: _, [], _, _, _, _, h2 => by rw [ltDs] at h2; cases h2
  | [], _ :: _, _ :: _, _, _, _, _, _ => by rw [ltDs]
  | _ :: _, _ :: _, [], _, _, _, _, h2 => by rw [ltDs] at h2; cases h2
  | x :: xs, y :: ys, z :: zs, ha, hb, hc, h1, h2 => by
    simp only [TK.hkDs, Bool.and_eq_true] at ha hb hc
    rw [ltDs_cons] at h1 h2 ⊢
    by_cases q1 : x = y
    · subst q1
      rw [if_pos rfl] at h1
      by_cases q2 : x = z
      · subst q2
        rw [if_pos rfl] at h2 ⊢
        exact ltDs_trans ha.2 hb.2 hc.2 h1 h2
      · rw [if_neg q2] at h2 ⊢; exact h2
    · rw [if_neg q1] at h1
      by_cases q2 : y = z
      · subst q2
        rw [if_neg q1]; exact h1
      · rw [if_neg q2] at h2
        have t := ltD_trans ha.1 hb.1 hc.1 h1 h2
        by_cases q3 : x = z
        · subst q3; rw [ltD_irrefl ha.1] at t; cases t
        · rw [if_neg q3]; exact t
end
/-- the order, on what can be a key -/
noncomputable def ordD : KeyOrd where
  α := { d : PyData // TK.hkD d = true }
  blt a b := ltD a.1 b.1
  irrefl a := ltD_irrefl a.2
  trans a b c h1 h2 := ltD_trans a.2 b.2 c.2 h1 h2
  negTrans a b c h := by
    cases q1 : ltD a.1 b.1 with
    | true => exact .inl rfl
    | false =>
      refine .inr ?_
      cases q2 : ltD b.1 a.1 with
      | true => exact ltD_trans b.2 a.2 c.2 q2 h
      | false => rw [← ltD_total a.2 b.2 q1 q2]; exact h
  total a b h1 h2 := Subtype.ext (ltD_total a.2 b.2 h1 h2)
/-! ### Python's < on such data -/
theorem canDs_cons (x y : PyData) (xs ys : List PyData) : canDs (x :: xs) (y :: ys) = if x = y then canDs xs ys else canD x y := by rw [canDs]
def LtReads (n : Nat) : Prop := ∀ (prog : Program) (w : World) (A : Around) (E : Value → Shared → Prop) (s : Shared) (d d' : PyData) (v v' : Value) (as as' : List Addr) (Q : Value → Shared → Prop), TK.hkD d = true → TK.hkD d' = true → d.canLay0 = true → d'.canLay0 = true → d.depth ≤ n → d'.depth ≤ n → canD d d' = true →
  A.units + n < cLine → Reads s.heap v d as → Reads s.heap v' d' as' → Q (.bool (ltD d d')) s → wpAny (model prog w) A (richCompare .Lt v v') Q E s
section
open PySem.SeqAt
open PySem.AutoSeq1 (wpAny_loadPart')
open PySem.MeetsSeq PySem.MeetsSeq2 PySem.MeetsSeq3
theorem tup_lt {n : Nat} (ih : LtReads n) (l b : Addr) (items items2 : Array Value) (c c2 : Nat) (dd dd2 : Option Addr) (sl sl2 : Array (Option Value)) (ds es : List PyData) (as as2 : List Addr) (h1 : TK.hkDs ds = true) (h2 : TK.hkDs es = true) (k1 : PyData.canLayAll0 ds = true) (k2 : PyData.canLayAll0 es = true) (d1 : PyData.depthAll ds ≤ n) (d2 : PyData.depthAll es ≤ n) (hcan : canDs ds es = true) :
    Meets (Builtin.«tuple.__lt__» ⟨[.ref l, .ref b], []⟩)
      (fun A R s => s.heap.get? l = some { cls := .type "tuple", dict := dd, data := .seq items c, slots := sl } ∧ s.heap.get? b = some { cls := .type "tuple", dict := dd2, data := .seq items2 c2, slots := sl2 } ∧
        ReadsAll s.heap items.toList ds as ∧ ReadsAll s.heap items2.toList es as2 ∧ A.units + 1 + n < cLine ∧ R (.ok (.ret (.bool (ltDs ds es)))) s) :=
  .of_wp fun prog w A R s h => by
    obtain ⟨hp, g, d, tk, os⟩ := s; obtain ⟨hl, hb, ra, rb, hu, h⟩ := h
    have f2 := AutoSeq1.sub_tuple_tuple
    have z1 : items.size = ds.length := by have := SeqAt.ReadsAll.length _ _ _ ra; simpa using this
    have z2 : items2.size = es.length := by have := SeqAt.ReadsAll.length _ _ _ rb; simpa using this
    wp_walk using wpAny_loadPart' hl, wpAny_loadPart' hb, wpAny_forIn_list _ (fun rest t s' => t.1 = none ∧ s' = ⟨hp, g, d, tk, os⟩ ∧ ∃ (vs ws : List Value) (xs ys : List PyData) (bs bs2 : List Addr), rest = vs.zip ws ∧ ReadsAll hp vs xs bs ∧ ReadsAll hp ws ys bs2 ∧
      TK.hkDs xs = true ∧ TK.hkDs ys = true ∧ PyData.canLayAll0 xs = true ∧ PyData.canLayAll0 ys = true ∧ PyData.depthAll xs ≤ n ∧ PyData.depthAll ys ≤ n ∧ canDs xs ys = true ∧ xs.length + items2.size = ys.length + items.size ∧ R (.ok (.ret (.bool (ltDs xs ys)))) ⟨hp, g, d, tk, os⟩) _
    case turn =>
      rintro ⟨y, x⟩ rest t s' ⟨ht, rfl, vs, ws, xs, ys, bs, bs2, hz, rv, rw', a1, a2, a3, a4, a5, a6, a7, a8, hR⟩
      cases rv with
      | nil => rw [List.zip_nil_left] at hz; cases hz
      | @cons v vs d0 xs as0 bs0 r1 r1' =>
        cases rw' with
        | nil => rw [List.zip_nil_right] at hz; cases hz
        | @cons v2 ws d02 ys as02 bs02 r2 r2' =>
          rw [List.zip_cons_cons] at hz
          injection hz with hyx hrest
          injection hyx with hy hx
          subst hy hx
          simp only [TK.hkDs, PyData.canLayAll0, Bool.and_eq_true] at a1 a2 a3 a4
          simp only [PyData.depthAll] at a5 a6
          simp only [List.length_cons] at a8
          rw [ltDs_cons] at hR
          rw [canDs_cons] at a7
          have e5 : d0.depth ≤ n := by omega
          have e6 : d02.depth ≤ n := by omega
          have hu' : A.in1.units + min d0.depth d02.depth < cLine := by
            have : min d0.depth d02.depth ≤ d0.depth := Nat.min_le_left _ _
            show A.units + 1 + _ < cLine
            omega
          refine wpAny_bind (SeqAt.eqAt_reads d0 d02 A.in1 ⟨hp, g, d, tk, os⟩ _ _ _ _ r1 r2 a3.1 a4.1 hu' prog w _ _ ?_)
          rw [TK.eqv_decide a1.1 a2.1]
          by_cases q : d0 = d02
          · rw [if_pos q] at hR a7
            rw [decide_eq_true q]
            wp_walk
            exact ⟨rfl, rfl, _, _, _, _, _, _, hrest, r1', r2', a1.2, a2.2, a3.2, a4.2, by omega, by omega, a7, by omega, hR⟩
          · rw [if_neg q] at hR a7
            rw [decide_eq_false q]
            have hri := fun (E : Value → Shared → Prop) (Q : Value → Shared → Prop) (hq : Q (.bool (ltD d0 d02)) ⟨hp, g, d, tk, os⟩) => ih prog w A.in1 E ⟨hp, g, d, tk, os⟩ d0 d02 _ _ _ _ Q a1.1 a2.1 a3.1 a4.1 e5 e6 a7 hu r1 r2 hq
            wp_walk using hri
            exact ⟨_, rfl, by simpa using hR⟩
    case fin =>
      rintro ⟨b1, b2⟩ s' ⟨ht, rfl, vs, ws, xs, ys, bs, bs2, hz, rv, rw', a1, a2, a3, a4, a5, a6, a7, a8, hR⟩
      simp only at ht
      subst ht
      have hv : ltDs xs ys = decide (items.size < items2.size) := by
        cases rv with
        | nil =>
          cases rw' with
          | nil =>
            simp only [List.length_nil] at a8
            rw [ltDs]
            exact (decide_eq_false (by omega)).symm
          | cons _ _ =>
            simp only [List.length_nil, List.length_cons] at a8
            rw [ltDs]
            exact (decide_eq_true (by omega)).symm
        | cons _ _ =>
          cases rw' with
          | nil =>
            simp only [List.length_nil, List.length_cons] at a8
            rw [ltDs]
            exact (decide_eq_false (by omega)).symm
          | cons _ _ =>
            rw [List.zip_cons_cons] at hz
            cases hz
      rw [hv] at hR
      wp_walk
      exact ⟨_, rfl, by simpa [Builtin.Tuple.tupleCompareSizes] using hR⟩
    case h =>
      exact ⟨rfl, rfl, items.toList, items2.toList, ds, es, as, as2, rfl, ra, rb, h1, h2, k1, k2, d1, d2, hcan, by omega, h⟩
theorem lt_reads : ∀ n : Nat, LtReads n := by
  intro n
  induction n with
  | zero =>
    intro prog w A E s d d' v v' as as' Q h1 h2 k1 k2 d1 d2 hc hu r1 r2 q
    cases d <;> (try (simp only [TK.hkD] at h1; cases h1; done)) <;> cases d' <;> (try (simp only [TK.hkD] at h2; cases h2; done)) <;> (try (rw [canD] at hc <;> first | (cases hc; done) | simp; done))
    · cases r1; cases r2
      rw [ltD_int] at q
      exact PyProof.Rows.lt_int q
    · cases r1; cases r2
      rw [ltD_str] at q
      exact P.lt_str q
    · simp [PyData.depth] at d1
  | succ n ih =>
    intro prog w A E s d d' v v' as as' Q h1 h2 k1 k2 d1 d2 hc hu r1 r2 q
    cases d <;> (try (simp only [TK.hkD] at h1; cases h1; done)) <;> cases d' <;> (try (simp only [TK.hkD] at h2; cases h2; done)) <;> (try (rw [canD] at hc <;> first | (cases hc; done) | simp; done))
    · cases r1; cases r2
      rw [ltD_int] at q
      exact PyProof.Rows.lt_int q
    · cases r1; cases r2
      rw [ltD_str] at q
      exact P.lt_str q
    · rename_i xs ys
      simp only [TK.hkD] at h1 h2
      simp only [PyData.canLay0] at k1 k2
      simp only [PyData.depth] at d1 d2
      have hc' : canDs xs ys = true := by rw [canD] at hc; exact hc
      cases r1 with
      | @tuple a o vs n1 _ _ ho hcl hd ra =>
      cases r2 with
      | @tuple b o2 ws n2 _ _ ho2 hcl2 hd2 rb =>
      obtain ⟨cls, dd, data, sl⟩ := o
      obtain ⟨cls2, dd2, data2, sl2⟩ := o2
      simp only at hcl hd hcl2 hd2
      subst hcl hd hcl2 hd2
      rw [ltD_tuple] at q
      exact richCompare_meets_room (op := .Lt) ⟨_, ho, rfl⟩ ⟨_, ho2, rfl⟩ PySem.F.slot_tuple_lt PySem.F.entry_tuple_lt (PySem.F.args_tuple_lt_2 _ _) (tup_lt ih a b vs ws n1 n2 dd dd2 sl sl2 xs ys _ _ h1 h2 k1 k2 (by omega) (by omega) hc')
        ⟨ho, ho2, ra, rb, by omega, show Value.bool (ltDs xs ys) ≠ Value.notImplemented ∧ Q (.bool (ltDs xs ys)) s from ⟨(fun x => nomatch x), q⟩⟩ (by omega)
/-! ### the sort's own comparison of tuples whose first item is a text -/
theorem keyLt'_tuples (x y : Value) : keyLt' (tuples' true) x y = (do
    let xs ← Builtin.List.listItems x; let ys ← Builtin.List.listItems y
    for ((p, q), i) in (xs.toList.zip ys.toList).zipIdx do
      if !(← eqBool p q) then return ← oneLt' (true && i == 0) p q
    return xs.size < ys.size) := rfl
theorem oneLt'_false (x y : Value) : oneLt' false x y = (do truthOfDropped (← richCompare .Lt x y)) := rfl
end
end L2

end
section
set_option Elab.async false
set_option linter.all false
set_option maxRecDepth 100000
set_option maxHeartbeats 1000000
namespace L2
open PySem PySem.Spec PyProof.Rows
section
theorem keyLt_reads {prog : Program} {w : World} {A : Around} {E : Value → Shared → Prop} {s : Shared} {n : Nat} {xs ys : List PyData} {v v' : Value} {as as' : List Addr} {P : Bool → Shared → Prop} (h1 : TK.hkDs xs = true) (h2 : TK.hkDs ys = true) (k1 : PyData.canLayAll0 xs = true) (k2 : PyData.canLayAll0 ys = true)
    (d1 : PyData.depthAll xs ≤ n) (d2 : PyData.depthAll ys ≤ n) (hc : canDs xs ys = true) (t1 : ∃ a r, xs = .str a :: r) (t2 : ∃ a r, ys = .str a :: r) (hu : A.units + n < cLine) (r1 : Reads s.heap v (.tuple xs) as) (r2 : Reads s.heap v' (.tuple ys) as') (q : P (ltDs xs ys) s) :
    wpAny (model prog w) A (keyLt' (tuples' true) v v') P E s := by
  cases r1 with
  | @tuple a o vs n1 _ _ ho hcl hd ra =>
  cases r2 with
  | @tuple b o2 ws n2 _ _ ho2 hcl2 hd2 rb =>
  have z1 : vs.size = xs.length := by have := SeqAt.ReadsAll.length _ _ _ ra; simpa using this
  have z2 : ws.size = ys.length := by have := SeqAt.ReadsAll.length _ _ _ rb; simpa using this
  rw [keyLt'_tuples]
  refine wpAny_bind (listItems_at ho hd (wpAny_bind (listItems_at ho2 hd2 (wpAny_bind ?_))))
  refine wpAny_forIn_list _ (fun rest t s' => t.1 = none ∧ s' = s ∧ ∃ (vs' ws' : List Value) (xs' ys' : List PyData) (bs bs2 : List Addr) (k : Nat), rest = (vs'.zip ws').zipIdx k ∧ ReadsAll s.heap vs' xs' bs ∧ ReadsAll s.heap ws' ys' bs2 ∧
      TK.hkDs xs' = true ∧ TK.hkDs ys' = true ∧ PyData.canLayAll0 xs' = true ∧ PyData.canLayAll0 ys' = true ∧ PyData.depthAll xs' ≤ n ∧ PyData.depthAll ys' ≤ n ∧ canDs xs' ys' = true ∧ (k = 0 → (∃ a r, xs' = .str a :: r) ∧ ∃ a r, ys' = .str a :: r) ∧ xs'.length + ws.size = ys'.length + vs.size ∧ P (ltDs xs' ys') s) _ ?turn ?fin _ _
      ⟨rfl, rfl, vs.toList, ws.toList, xs, ys, _, _, 0, rfl, ra, rb, h1, h2, k1, k2, d1, d2, hc, fun _ => ⟨t1, t2⟩, by omega, q⟩
  case turn =>
    rintro ⟨⟨p, p'⟩, i⟩ rest t s' ⟨ht, rfl, vs', ws', xs', ys', bs, bs2, k, hz, rv, rw', a1, a2, a3, a4, a5, a6, a7, a9, a8, hR⟩
    cases rv with
    | nil => rw [List.zip_nil_left] at hz; cases hz
    | @cons v0 vs' d0 xs' as0 bs0 g1 g1' =>
      cases rw' with
      | nil => rw [List.zip_nil_right] at hz; cases hz
      | @cons v2 ws' d02 ys' as02 bs02 g2 g2' =>
        rw [List.zip_cons_cons, List.zipIdx_cons] at hz
        injection hz with hyx hrest
        injection hyx with hy hi
        injection hy with hy hx
        subst hy hx hi
        simp only [TK.hkDs, PyData.canLayAll0, Bool.and_eq_true] at a1 a2 a3 a4
        simp only [PyData.depthAll] at a5 a6
        simp only [List.length_cons] at a8
        rw [ltDs_cons] at hR
        rw [canDs_cons] at a7
        have e5 : d0.depth ≤ n := by omega
        have e6 : d02.depth ≤ n := by omega
        have hu' : A.units + min d0.depth d02.depth < cLine := by
          have : min d0.depth d02.depth ≤ d0.depth := Nat.min_le_left _ _
          omega
        refine wpAny_bind (SeqAt.eqAt_reads d0 d02 A s' _ _ _ _ g1 g2 a3.1 a4.1 hu' prog w _ _ ?_)
        rw [TK.eqv_decide a1.1 a2.1]
        by_cases qd : d0 = d02
        · rw [if_pos qd] at hR a7
          rw [decide_eq_true qd]
          exact wpAny_pure ⟨rfl, rfl, _, _, _, _, _, _, _, hrest, g1', g2', a1.2, a2.2, a3.2, a4.2, by omega, by omega, a7, fun z => absurd z (Nat.succ_ne_zero _), by omega, hR⟩
        · rw [if_neg qd] at hR a7
          rw [decide_eq_false qd]
          refine wpAny_bind ?_
          cases i with
          | zero =>
            obtain ⟨⟨a', r', e1⟩, b', r'', e2⟩ := a9 rfl
            cases e1; cases e2
            cases g1; cases g2
            rw [ltD_str] at hR
            exact oneLt_str (wpAny_pure (wpAny_pure hR))
          | succ i =>
            have e : (true && (i + 1 == 0)) = false := rfl
            rw [e, oneLt'_false]
            refine wpAny_bind (lt_reads n prog w A _ s' d0 d02 _ _ _ _ _ a1.1 a2.1 a3.1 a4.1 e5 e6 a7 hu g1 g2 ?_)
            exact wpAny_truthy_bool (wpAny_pure (wpAny_pure hR))
  case fin =>
    rintro ⟨b1, b2⟩ s' ⟨ht, rfl, vs', ws', xs', ys', bs, bs2, k, hz, rv, rw', a1, a2, a3, a4, a5, a6, a7, a9, a8, hR⟩
    simp only at ht
    subst ht
    have hv : ltDs xs' ys' = decide (vs.size < ws.size) := by
      cases rv with
      | nil =>
        cases rw' with
        | nil =>
          simp only [List.length_nil] at a8
          rw [ltDs]
          exact (decide_eq_false (by omega)).symm
        | cons _ _ =>
          simp only [List.length_nil, List.length_cons] at a8
          rw [ltDs]
          exact (decide_eq_true (by omega)).symm
      | cons _ _ =>
        cases rw' with
        | nil =>
          simp only [List.length_nil, List.length_cons] at a8
          rw [ltDs]
          exact (decide_eq_false (by omega)).symm
        | cons _ _ =>
          rw [List.zip_cons_cons, List.zipIdx_cons] at hz
          cases hz
    rw [hv] at hR
    exact wpAny_pure hR
theorem firstOfTuple'_eq (v : Value) : firstOfTuple' v = (do
    if (← typeOf v) != .type "tuple" then return none
    return (← Builtin.List.listItems v)[0]?) := rfl
theorem first_ok {prog : Program} {w : World} {A : Around} {E : Value → Shared → Prop} {s : Shared} {v : Value} {x : Str} {r : List PyData} {as : List Addr} {P : Option Value → Shared → Prop} (rd : Reads s.heap v (.tuple (.str x :: r)) as) (h : ∀ t, P (some (.str x t)) s) : wpAny (model prog w) A (firstOfTuple' v) P E s := by
  cases rd with
  | @tuple a o vs n1 _ _ ho hcl hd ra =>
  generalize e : vs.toList = l at ra
  cases ra with
  | @cons v0 vs' _ _ _ _ g g' =>
    cases g with
    | str _ t =>
    rw [firstOfTuple'_eq]
    refine wpAny_bind (wpAny_typeOf (T := "tuple") ⟨o, ho, hcl⟩ ?_)
    have e1 : (Value.type "tuple" != Value.type "tuple") = false := by rfl
    rw [if_neg (by rw [e1]; exact Bool.false_ne_true)]
    refine wpAny_bind (listItems_at ho hd (wpAny_pure ?_))
    have e2 : vs[0]? = some (.str x t) := by rw [← Array.getElem?_toList, e]; rfl
    rw [e2]
    exact h t
/-- a tuple that begins with a text -/
def headS : PyData → Bool
  | .tuple (.str _ :: _) => true
  | _ => false
theorem headS_some {d : PyData} (h : headS d = true) : ∃ x r, d = .tuple (.str x :: r) := by
  unfold headS at h
  split at h
  · exact ⟨_, _, rfl⟩
  · cases h
theorem firsts_ok {prog : Program} {w : World} {A : Around} {E : Value → Shared → Prop} {s : Shared} : ∀ {vs : List Value} {ds : List PyData} {as : List Addr} {P : List (Option Value) → Shared → Prop}, ReadsAll s.heap vs ds as → ds.all headS = true → (∀ xs : List (Str × Tok), xs.length = ds.length → P (xs.map fun p => some (.str p.1 p.2)) s) → wpAny (model prog w) A (vs.mapM firstOfTuple') P E s
  | _, [], _, P, .nil, _, h => by rw [List.mapM_nil]; exact wpAny_pure (h [] rfl)
  | _, d :: ds, _, P, .cons r1 r2, hh, h => by
    simp only [List.all_cons, Bool.and_eq_true] at hh
    obtain ⟨x, r, rfl⟩ := headS_some hh.1
    rw [List.mapM_cons]
    refine wpAny_bind (first_ok r1 fun t => wpAny_bind (firsts_ok r2 hh.2 fun xs hl => wpAny_pure ?_))
    exact h ((x, t) :: xs) (by simp [hl])
theorem types_strs : ∀ xs : List (Str × Tok), (xs.map fun p => Value.str p.1 p.2).mapM typeOf = (pure (xs.map fun _ => Value.type "str") : Sem (List Value))
  | [] => by simp
  | x :: xs => by
    rw [List.map_cons, List.mapM_cons, types_strs xs]
    show (pure (Value.type "str") >>= fun b => pure _ >>= fun bs => pure (b :: bs)) = _
    simp
theorem kind_ok {prog : Program} {w : World} {A : Around} {E : Value → Shared → Prop} {s : Shared} {vs : List Value} {ds : List PyData} {as : List Addr} {P : SortKind → Shared → Prop} (r : ReadsAll s.heap vs ds as) (hh : ds.all headS = true) (h2 : 1 ≤ ds.length) (h : P (tuples' true) s) : wpAny (model prog w) A (keyKind' vs.toArray) P E s := by
  rw [keyKind'_eq, List.mapM_toArray]
  refine wpAny_bind ?_
  rw [map_eq_pure_bind]
  refine wpAny_bind (firsts_ok r hh fun xs hl => wpAny_pure ?_)
  have e1 : ((xs.map fun p => some (Value.str p.1 p.2)).toArray.all fun x => x.isSome) = true := by simp
  rw [if_pos e1]
  refine wpAny_bind (wpAny_rule (wpAny_bind ?_))
  have e2 : ((xs.map fun p => some (Value.str p.1 p.2)).toArray.filterMap id) = (xs.map fun p => Value.str p.1 p.2).toArray := by
    rw [List.filterMap_toArray]
    congr 1
    rw [List.filterMap_map]
    simp [Function.comp_def]
  rw [e2, oneTypeOnly'_eq, List.mapM_toArray, types_strs]
  simp only [map_pure, pure_bind]
  cases xs with
  | nil => simp at hl; omega
  | cons x xs =>
    have e3 : ((List.map (fun _ => Value.type "str") (x :: xs)).toArray)[0]? = some (Value.type "str") := by simp
    rw [e3]
    have e4 : ((List.map (fun _ => Value.type "str") (x :: xs)).toArray.all fun t => t == Value.type "str") = true := by
      simp only [List.all_toArray, List.all_map, List.all_eq_true]
      intro _ _
      rfl
    simp only [e4, if_true]
    exact wpAny_pure (wpAny_pure h)
end
end L2

end
section
set_option Elab.async false
set_option linter.all false
set_option maxRecDepth 100000
set_option maxHeartbeats 1000000
namespace L2
open PySem PySem.Spec PyProof.Rows

/-! ### sorted(xs) of tuples that begin with a text -/
theorem perm_map_inv {α β : Type} {f : α → β} {l l' : List β} (h : l.Perm l') : ∀ {m : List α}, m.map f = l' → ∃ m' : List α, m'.Perm m ∧ m'.map f = l := by
  induction h with
  | nil => intro m e; exact ⟨[], by cases m <;> simp_all, rfl⟩
  | @cons x l1 l2 p ih =>
    intro m e
    cases m with
    | nil => cases e
    | cons a m =>
      rw [List.map_cons] at e
      injection e with e1 e2
      obtain ⟨m', p', e'⟩ := ih e2
      exact ⟨a :: m', p'.cons a, by rw [List.map_cons, e', e1]⟩
  | swap x y l =>
    intro m e
    match m, e with
    | a :: b :: m, e =>
      simp only [List.map_cons] at e
      injection e with e1 e2
      injection e2 with e2 e3
      exact ⟨b :: a :: m, .swap a b m, by simp [e1, e2, e3]⟩
  | trans _ _ ih1 ih2 =>
    intro m e
    obtain ⟨m1, p1, e1⟩ := ih2 e
    obtain ⟨m2, p2, e2⟩ := ih1 e1
    exact ⟨m2, p2.trans p1, e2⟩
noncomputable def sortOk (ds : List PyData) : Bool := decide (ds.length < 64) && ds.all headS && ds.all TK.hkD && ds.all PyData.canLay0 && ds.all (fun d => decide (d.depth ≤ 8)) && ds.all fun a => ds.all fun b => canD a b
def IsSort (l ds : List PyData) : Prop := l.Perm ds ∧ l.Pairwise fun a b => ltD b a = false
open Classical in
noncomputable def sortD (ds : List PyData) : List PyData := if h : ∃ l, IsSort l ds then Classical.choose h else ds
theorem sort_unique {ds : List PyData} (hk : ∀ d ∈ ds, TK.hkD d = true) : ∀ {l l' : List PyData}, IsSort l ds → IsSort l' ds → l = l' := fun {l l'} h h' => by
  refine List.Perm.eq_of_pairwise (le := fun a b => ltD b a = false) ?_ h.2 h'.2 (h.1.trans h'.1.symm)
  intro a b ha hb h1 h2
  exact ltD_total (hk a (h.1.mem_iff.mp ha)) (hk b (h'.1.mem_iff.mp hb)) h2 h1
theorem sortD_eq {ds l : List PyData} (hk : ∀ d ∈ ds, TK.hkD d = true) (h : IsSort l ds) : sortD ds = l := by
  unfold sortD
  have e : ∃ l, IsSort l ds := ⟨l, h⟩
  rw [dif_pos e]
  exact sort_unique hk (Classical.choose_spec e) h
noncomputable def dSorted : List PyData → Option PyData
  | [.list ds] => if sortOk ds = true then some (.list (sortD ds)) else none
  | _ => none
open Classical in
/-- the keys, as the heap h has them -/
noncomputable def kindH (h : Heap) (ds : List PyData) : PyProof.Rows.KeyKind where
  toKeyOrd := ordD
  keyOf u := if e : ∃ d : { d : PyData // TK.hkD d = true }, d.1 ∈ ds ∧ ∃ as, Reads h u d.1 as then some (Classical.choose e) else none
  dflt := ⟨.int 0, rfl⟩
theorem keyOf_some {h : Heap} {ds : List PyData} {u : Value} {a : { d : PyData // TK.hkD d = true }} (e : (kindH h ds).keyOf u = some a) : a.1 ∈ ds ∧ ∃ as, Reads h u a.1 as := by
  unfold kindH at e
  dsimp only at e
  split at e
  · rename_i q
    cases e
    exact Classical.choose_spec q
  · cases e
theorem keyOf_eq {h : Heap} {ds : List PyData} {u : Value} {d : PyData} {as : List Addr} (hl : ∀ d ∈ ds, d.canLay0 = true) (hk : TK.hkD d = true) (hd : d ∈ ds) (r : Reads h u d as) : (kindH h ds).keyOf u = some ⟨d, hk⟩ := by
  have e : ∃ d : { d : PyData // TK.hkD d = true }, d.1 ∈ ds ∧ ∃ as, Reads h u d.1 as := ⟨⟨d, hk⟩, hd, as, r⟩
  unfold kindH
  dsimp only
  rw [dif_pos e]
  obtain ⟨h1, bs, r'⟩ := Classical.choose_spec e
  congr 1
  exact Subtype.ext (SeqAt.Reads.unique _ _ _ _ _ (hl _ h1) r' r)
theorem midHeap_old {h : Heap} {a b : Addr} {vs : List Value} (hb : b ≠ a) (hlt : b < h.objs.size) : (midHeap h a vs).get? b = h.get? b := by
  unfold midHeap
  have n1 : b ≠ (h.update a (Obj.mapSeq fun _ => #[])).objs.size := by rw [Heap.size_update]; exact Nat.ne_of_lt hlt
  have n2 : b ≠ ((h.update a (Obj.mapSeq fun _ => #[])).push (seqObj "tuple" vs.toArray 0)).objs.size := by rw [size_push', Heap.size_update]; exact Nat.ne_of_lt (Nat.lt_succ_of_lt hlt)
  rw [Heap.get?_push_ne _ _ _ n2, Heap.get?_push_ne _ _ _ n1]
  exact Heap.get?_update_other _ _ (Ne.symm hb)
theorem srtHeap_old {h : Heap} {vs : List Value} {b : Addr} {o : Obj} (hb : h.get? b = some o) : (srtHeap h vs).get? b = some o := by
  have hlt := Heap.lt_size hb
  unfold srtHeap
  have hs : ((h.push (seqObj "list" #[] 0)).update h.objs.size (Obj.mapSeq (· ++ vs.toArray))).objs.size = h.objs.size + 1 := by rw [Heap.size_update, size_push']
  rw [midHeap_old (Nat.ne_of_lt (Nat.lt_succ_of_lt hlt)) (by rw [size_push', hs]; exact Nat.lt_succ_of_lt (Nat.lt_succ_of_lt hlt))]
  rw [Heap.get?_push_ne _ _ _ (by rw [hs]; exact Nat.ne_of_lt (Nat.lt_succ_of_lt hlt)), Heap.get?_update_other _ _ (Ne.symm (Nat.ne_of_lt hlt))]
  exact Heap.get?_push_of_some _ hb
theorem zip3 {K : PySem.W.Frag} {H : Hp} {h : Heap} : ∀ {ds : List PyData} {vs : List V} {its : List Value} {as : List Addr}, IsDs K H ds vs → Vals vs its → ReadsAll h its ds as →
    ∃ m : List (V × Value × PyData), m.map (·.1) = vs ∧ m.map (·.2.1) = its ∧ m.map (·.2.2) = ds ∧ ∀ x ∈ m, RelV x.1 x.2.1 ∧ IsD K H x.2.2 x.1 ∧ x.2.2 ∈ ds ∧ ∃ as, Reads h x.2.1 x.2.2 as
  | [], _, _, _, i, r, rd => by rw [IsDs.nil_iff.mp i] at r ⊢; cases r; exact ⟨[], rfl, rfl, rfl, by simp⟩
  | d :: ds, _, _, _, i, r, rd => by
    obtain ⟨v, rr, rfl, i1, i2⟩ := IsDs.cons_iff.mp i
    cases r with
    | cons r1 r2 =>
      cases rd with
      | cons g1 g2 =>
        obtain ⟨m, e1, e2, e3, e4⟩ := zip3 i2 r2 g2
        refine ⟨(v, _, d) :: m, by rw [List.map_cons, e1], by rw [List.map_cons, e2], by rw [List.map_cons, e3], fun x hx => ?_⟩
        rcases List.mem_cons.mp hx with rfl | hx
        · exact ⟨r1, i1, by simp, _, g1⟩
        · obtain ⟨a1, a2, a3, a4⟩ := e4 x hx
          exact ⟨a1, a2, List.mem_cons_of_mem _ a3, a4⟩
theorem unzip3 {K : PySem.W.Frag} {H : Hp} : ∀ {m : List (V × Value × PyData)}, (∀ x ∈ m, RelV x.1 x.2.1 ∧ IsD K H x.2.2 x.1) → Vals (m.map (·.1)) (m.map (·.2.1)) ∧ IsDs K H (m.map (·.2.2)) (m.map (·.1))
  | [], _ => ⟨.nil, IsDs.nil⟩
  | x :: m, h => by
    obtain ⟨a, b⟩ := unzip3 (m := m) fun y hy => h y (List.mem_cons_of_mem _ hy)
    obtain ⟨c, d⟩ := h x (by simp)
    exact ⟨.cons c a, IsDs.cons d b⟩
theorem hkDs_all : ∀ {l : List PyData}, (∀ d ∈ l, TK.hkD d = true) → TK.hkDs l = true
  | [], _ => rfl
  | d :: l, h => by rw [TK.hkDs, h d (by simp), hkDs_all fun x hx => h x (by simp [hx])]; rfl
theorem lt_here {prog : Program} {w : World} {A : Around} {s : Shared} {ds : List PyData} (hh : ds.all headS = true) (hl : ∀ d ∈ ds, d.canLay0 = true) (hd : ∀ d ∈ ds, d.depth ≤ 8) (hc : ∀ a ∈ ds, ∀ b ∈ ds, canD a b = true) (hu : A.units + 8 < cLine) : LtHere prog w A s (tuples' true) (kindH s.heap ds) := by
  intro F u v a b P ea eb q
  obtain ⟨ma, as, ra⟩ := keyOf_some ea
  obtain ⟨mb, bs, rb⟩ := keyOf_some eb
  obtain ⟨da, ka⟩ := a
  obtain ⟨db, kb⟩ := b
  dsimp only at ma mb ra rb
  obtain ⟨x, xs, rfl⟩ := headS_some (List.all_eq_true.mp hh _ ma)
  obtain ⟨y, ys, rfl⟩ := headS_some (List.all_eq_true.mp hh _ mb)
  have l1 := hl _ ma
  have l2 := hl _ mb
  have d1 := hd _ ma
  have d2 := hd _ mb
  have c := hc _ ma _ mb
  rw [canD] at c
  simp only [TK.hkD] at ka kb
  simp only [PyData.canLay0] at l1 l2
  simp only [PyData.depth] at d1 d2
  have q' : P (ltD (.tuple (.str x :: xs)) (.tuple (.str y :: ys))) s := q
  rw [ltD_tuple] at q'
  exact keyLt_reads (n := 8) ka kb l1 l2 (by omega) (by omega) c ⟨_, _, rfl⟩ ⟨_, _, rfl⟩ hu ra rb q'
section
variable {X : Cx}
theorem cd_sorted (hu : X.A.units + 64 < cLine) : CallD X (.builtin "sorted") dSorted := by
  intro pins s σ H xs us Q I r ⟨ds, c, i, e, k⟩
  match ds, e with
  | [.list ys], e =>
    dsimp only [dSorted] at e
    by_cases hso : sortOk ys = true
    · rw [if_pos hso] at e
      cases e
      unfold sortOk at hso
      simp only [Bool.and_eq_true, decide_eq_true_eq] at hso
      obtain ⟨⟨⟨⟨⟨h64, hh⟩, hk⟩, hl⟩, hd⟩, hc⟩ := hso
      have hk' : ∀ d ∈ ys, TK.hkD d = true := List.all_eq_true.mp hk
      have hl' : ∀ d ∈ ys, d.canLay0 = true := List.all_eq_true.mp hl
      have hd' : ∀ d ∈ ys, d.depth ≤ 8 := fun d hm => of_decide_eq_true (List.all_eq_true.mp hd d hm)
      have hc' : ∀ a ∈ ys, ∀ b ∈ ys, canD a b = true := fun a ha => List.all_eq_true.mp (List.all_eq_true.mp hc a ha)
      have hla : ∀ {l : List PyData}, (∀ d ∈ l, d.canLay0 = true) → PyData.canLayAll0 l = true := fun {l} h => by
        induction l with
        | nil => rfl
        | cons d l ih => rw [PyData.canLayAll0, h d (by simp), ih fun x hx => h x (by simp [hx])]; rfl
      obtain ⟨v, rfl, h1⟩ := isDs_one i
      obtain ⟨p, vs, rfl, e2, e3⟩ := IsD.list_iff.mp h1
      obtain ⟨u, rfl, ru⟩ := vals1 r
      cases ru
      obtain ⟨its, r', pl, hz⟩ := I.list e2
      have n1 := r'.length
      have n2 := e3.length
      obtain ⟨as, rd⟩ := I.readsDs (hla hl') e3 r'
      have keep : ∀ {b o}, s.heap.get? b = some o → (srtHeap s.heap its).get? b = some o := fun h => srtHeap_old h
      have hks : TK.hkDs ys = true := hkDs_all hk'
      have rd' : ReadsAll (srtHeap s.heap its) its ys as := TK.reads_keeps (fun b o xs n e _ => keep e) hks rd
      obtain ⟨m, m1, m2, m3, m4⟩ := zip3 (h := srtHeap s.heap its) e3 r' rd'
      have keyM : ∀ x ∈ m, ∃ hx : TK.hkD x.2.2 = true, (kindH (srtHeap s.heap its) ys).keyOf x.2.1 = some ⟨x.2.2, hx⟩ := fun x hx => by
        obtain ⟨_, _, a3, as', a4⟩ := m4 x hx
        exact ⟨hk' _ a3, keyOf_eq hl' (hk' _ a3) a3 a4⟩
      have pz : (pairsOf its).toList = m.map fun x => (x.2.1, x.2.1) := by
        rw [pairsOf_toList, ← m2]
        clear m1 m2 m3 m4 keyM
        induction m with
        | nil => rfl
        | cons x m ih => simp only [List.map_cons, List.zip_cons_cons]; rw [ih]
      refine srt_sorted (κ := kindH (srtHeap s.heap its) ys) (kd := tuples' true) pl.isList (by omega) (fun q hq => ?_) (fun q A' E' R hR => kind_ok rd' hh (by omega) hR) (fun A' hA => lt_here hh hl' hd' hc' (by omega)) fun t pt st => ?_
      · rw [pz] at hq
        obtain ⟨x, hx, rfl⟩ := List.mem_map.mp hq
        obtain ⟨_, e⟩ := keyM x hx
        exact ⟨_, e⟩
      · have ptl := Array.perm_iff_toList_perm.mp pt
        rw [pz] at ptl
        obtain ⟨m', pm, em⟩ := perm_map_inv ptl rfl
        have mem' : ∀ x ∈ m', x ∈ m := fun x hx => pm.mem_iff.mp hx
        obtain ⟨u1, u2⟩ := unzip3 (K := X.K) (H := H) (m := m') fun x hx => ⟨(m4 x (mem' x hx)).1, (m4 x (mem' x hx)).2.1⟩
        have out : (t.map (·.2)) = (m'.map (·.2.1)).toArray := by
          apply Array.toList_inj.mp
          rw [Array.toList_map, ← em, List.map_map]
          rfl
        have lm : m'.length = m.length := pm.length_eq
        have ltm : t.size = m'.length := by rw [← Array.length_toList, ← em, List.length_map]
        have lm2 : m.length = its.length := by rw [← m2, List.length_map]
        have srt : IsSort (m'.map (·.2.2)) ys := by
          refine ⟨by rw [← m3]; exact pm.map _, ?_⟩
          rw [List.pairwise_iff_getElem]
          intro a b ha hb hab
          rw [List.length_map] at ha hb
          have key : ∀ (j : Nat) (hj : j < m'.length), ∃ hx : TK.hkD m'[j].2.2 = true, KK (kindH (srtHeap s.heap its) ys) t j = ⟨m'[j].2.2, hx⟩ := fun j hj => by
            obtain ⟨hx, e⟩ := keyM m'[j] (mem' _ (List.getElem_mem hj))
            refine ⟨hx, ?_⟩
            have ej : t[j]? = some (m'[j].2.1, m'[j].2.1) := by
              rw [← Array.getElem?_toList, ← em, List.getElem?_map, List.getElem?_eq_getElem hj]; rfl
            unfold KK
            rw [ej]
            dsimp only
            rw [e]; rfl
          have hle := st a b (Nat.le_of_lt hab) (by omega)
          obtain ⟨x1, k1⟩ := key a ha
          obtain ⟨x2, k2⟩ := key b hb
          rw [k1, k2] at hle
          simp only [List.getElem_map]
          exact hle
        rw [sortD_eq hk' srt] at k
        obtain ⟨c', hat⟩ := sortedAll_at s.heap its (t.map (·.2))
        have fr : H (s.heap.objs.size + 1) = none := I.hok.fresh (Nat.le_succ _)
        refine ⟨.ref (s.heap.objs.size + 1), _, I.laid (t' := s.toks) (fun b o e => sortedAll_old e) (Nat.le_succ _) (show ObjOk X.prog X.w _ _ _ (.lst (m'.map (·.1))) from ⟨?_, m'.map (·.2.1), c', u1, ?_⟩), rfl, ?_⟩
        · rw [List.length_map, lm, lm2, ← n1]; exact hz
        · rw [hat, out]
        · exact k _ _ (same_upd fr) (isD_newL fr u2)
    · rw [if_neg hso] at e; cases e
end
end L2

end
section
set_option Elab.async false
set_option linter.all false
set_option maxRecDepth 100000
set_option maxHeartbeats 1000000
namespace L2
open PySem PySem.Spec PyProof.Rows
section
variable {X : Cx} {e a : Expr} {f : Rho → Option PyData} {pos p2 : Pos}
def dNeg (f : Rho → Option PyData) : Rho → Option PyData := fun ρ => (f ρ).bind fun d => match d with | .int i => some (.int (-i)) | _ => none
theorem pd_neg (h : PD X a f) : PD X (.UnaryOp .USub a pos) (dNeg f) :=
  PE.imp (pe_un un_neg h) fun σ H Q ⟨ρ, d, hs, e, k⟩ => by
    obtain ⟨x, e1, e2⟩ := bind_some e
    cases x <;> try (simp at e2; done)
    cases e2
    exact ⟨ρ, _, hs, e1, fun v H1 s1 i1 => ⟨_, IsD.int_iff.mp i1, k _ H1 s1 (IsD.int_iff.mpr rfl)⟩⟩
/-- xs[::-1] of a list -/
def dRev (f : Rho → Option PyData) : Rho → Option PyData := fun ρ => (f ρ).bind fun d => match d with | .list xs => some (.list xs.reverse) | _ => none
theorem IsDs.reverse {K : PySem.W.Frag} {H : Hp} : ∀ {ds : List PyData} {vs : List V}, IsDs K H ds vs → IsDs K H ds.reverse vs.reverse
  | [], _, h => by rw [IsDs.nil_iff.mp h]; exact IsDs.nil
  | d :: ds, _, h => by
    obtain ⟨v, r, rfl, h1, h2⟩ := IsDs.cons_iff.mp h
    rw [List.reverse_cons, List.reverse_cons]
    exact (IsDs.reverse h2).append (IsDs.cons h1 IsDs.nil)
theorem vals_reverse : ∀ {vs : List V} {us : List Value}, Vals vs us → Vals vs.reverse us.reverse
  | _, _, .nil => .nil
  | _, _, .cons r t => by
    rw [List.reverse_cons, List.reverse_cons]
    exact (vals_reverse t).append (.cons r .nil)
theorem pd_rev {st : Expr} (he : PD X e f) (hst : PD X st (dC (.int (-1)))) : PD X (.Subscript e (.Slice none none (some st) p2) pos) (dRev f) := by
  intro pins s σ H Q I ⟨ρ, d, hs, e1, k⟩
  obtain ⟨x, ex, e2⟩ := bind_some e1
  cases x <;> try (simp at e2; done)
  rename_i ys
  cases e2
  refine Subscript_ (thn (he pins s σ H (fun v H1 => Same H H1 ∧ IsD X.K H1 (.list ys) v) I ⟨ρ, _, hs, ex, fun v H1 s1 i1 => ⟨s1, i1⟩⟩) fun v s1 ⟨x, H1, I1, r1, sm1, i1⟩ => ?_)
  obtain ⟨p, vs, rfl, q1, q2⟩ := IsD.list_iff.mp i1
  cases r1
  refine wpAny_Slice ?_
  rw [evalPart_none]
  refine wpAny_pure (wpAny_pure ?_)
  show wpAny _ _ (eval st X.env) _ _ _
  refine thn (hst pins s1 σ H1 (fun v H2 => Same H1 H2 ∧ v = .int (-1)) I1 ⟨ρ, _, hs.same sm1, rfl, fun v H2 s2 i2 => ⟨s2, IsD.int_iff.mp i2⟩⟩) fun u s2 ⟨y, H2, I2, r2, sm2, ey⟩ => ?_
  subst ey
  obtain ⟨t, rfl⟩ := r2
  have q1' := sm2.seq q1
  have I3 : Inv X pins σ H2 { s2 with heap := s2.heap.push { cls := .type "slice", data := .fields #[.none, .none, .int (-1) t] } } := I2.kept (t' := s2.toks) fun b ob q => Heap.get?_push_of_some _ q
  obtain ⟨its, r, pl, hz⟩ := I3.list q1'
  have hlen := r.length
  have hg : wpAny (model X.prog X.w) X.A (getItem (.ref p) (.ref s2.heap.objs.size)) (EP X pins σ Q) X.xe { s2 with heap := s2.heap.push { cls := .type "slice", data := .fields #[.none, .none, .int (-1) t] } } := by
    refine wpAny_getItem_list_slice pl.isList (Heap.IsSliceOf.new ..) .none .none (.int (-1) t) (by simp) ?_ (by rw [List.size_toArray] <;> omega)
    rw [PySem.W.krv_pick]
    have fr := I3.hok.fresh (Nat.le_refl _)
    refine ⟨.ref _, _, I3.laid (t' := s2.toks) (o := .lst vs.reverse) (fun b ob q => Heap.get?_push_of_some _ q) (Nat.le_refl _) ?_, rfl, k _ _ (sm1.trans (sm2.trans (same_upd fr))) (isD_newL fr (q2.same sm2).reverse)⟩
    exact ⟨by rw [List.length_reverse]; exact hz, its.reverse, 0, vals_reverse r, Heap.get?_push_size _ rfl⟩
  show wpAny (model X.prog X.w) X.A (subscriptTail e (.Slice none none (some st) p2) (.ref p) (.ref s2.heap.objs.size)) (EP X pins σ Q) X.xe { s2 with heap := s2.heap.push { cls := .type "slice", data := .fields #[.none, .none, .int (-1) t] } }
  exact tail_any (ops := [.ref p, .ref s2.heap.objs.size]) pl.isList.typeIs slot_list_getitem.lookup hg (by with_unfolding_all rfl)
end
/-! ### sortD, for the mathematics -/
theorem sort_exists {ds : List PyData} (hk : ∀ d ∈ ds, TK.hkD d = true) : IsSort (sortD ds) ds := by
  let le : ordD.α → ordD.α → Bool := fun a b => !ltD b.1 a.1
  have hp : ((ds.attachWith _ hk).mergeSort le).Perm (ds.attachWith _ hk) := List.mergeSort_perm _ _
  have hs : ((ds.attachWith _ hk).mergeSort le).Pairwise fun a b => le a b = true := by
    refine List.pairwise_mergeSort (le := le) (fun a b c h1 h2 => ?_) (fun a b => ?_) _
    · have g1 : ltD b.1 a.1 = false := by simpa [le] using h1
      have g2 : ltD c.1 b.1 = false := by simpa [le] using h2
      have g3 : ltD c.1 a.1 = false := KeyOrd.kle_trans (O := ordD) (a := a) (b := b) (c := c) g1 g2
      simpa [le] using g3
    · cases q : ltD b.1 a.1 with
      | false => simp [le, q]
      | true =>
        have : ordD.kle b a := KeyOrd.kle_of_klt q
        have e : ltD a.1 b.1 = false := this
        simp [le, e]
  have e : (ds.attachWith _ hk).map (·.1) = ds := by simp
  have h : IsSort (((ds.attachWith _ hk).mergeSort le).map (·.1)) ds := by
    refine ⟨?_, ?_⟩
    · have := hp.map (·.1)
      rwa [e] at this
    · rw [List.pairwise_map]
      exact hs.imp fun {a b} q => by simpa [le] using q
  rw [sortD_eq hk h]
  exact h
end L2

end
set_option Elab.async false
set_option linter.all false
set_option maxRecDepth 100000
set_option maxHeartbeats 4000000
namespace K30
open PySem L2
def top (i : Nat) : Stmt := PySem.Challenge.pw_pointsure_k30_facts_cut.main.body.getD i (.Pass ⟨0, 0, 0, 0⟩)
abbrev s_cut_calls : Stmt := top 1
theorem sc_cut_calls : FnScope ["calls", "fineness"] ["calls", "fineness"] (defScope s_cut_calls) := ⟨rfl, rfl, rfl, by decide +kernel, rfl, by decide +kernel, by decide +kernel⟩
noncomputable def g_cut_calls : Rho → Option Out :=
(sRet (dCall dTupleOf (aCons (dSlice (dVar 0) (oSome (dCall dMax (aCons (dC (.int 0)) (aCons (d2 dSub (dCall dLen (aCons (dVar 0) aNil)) (dVar 1)) aNil)))) oNone) aNil)))
noncomputable def f_cut_calls : List PyData → Option PyData := runD ["calls", "fineness"] g_cut_calls
abbrev s_thing_at : Stmt := top 3
theorem sc_thing_at : FnScope ["row", "calls"] ["row", "calls"] (defScope s_thing_at) := ⟨rfl, rfl, rfl, by decide +kernel, rfl, by decide +kernel, by decide +kernel⟩
noncomputable def g_thing_at : Rho → Option Out :=
(sRet (dTup (aCons (dVar 0) (aCons (dCall dTupleOf (aCons (dVar 1) aNil)) aNil))))
noncomputable def f_thing_at : List PyData → Option PyData := runD ["row", "calls"] g_thing_at
abbrev s_reach_fact : Stmt := top 4
theorem sc_reach_fact : FnScope ["body", "calls"] ["body", "calls"] (defScope s_reach_fact) := ⟨rfl, rfl, rfl, by decide +kernel, rfl, by decide +kernel, by decide +kernel⟩
noncomputable def g_reach_fact : Rho → Option Out :=
(sRet (dTup (aCons (dC (.str "reach")) (aCons (dVar 0) (aCons (dCall dTupleOf (aCons (dVar 1) aNil)) aNil)))))
noncomputable def f_reach_fact : List PyData → Option PyData := runD ["body", "calls"] g_reach_fact
abbrev s_goes_fact : Stmt := top 5
theorem sc_goes_fact : FnScope ["row", "calls", "goal", "goal_calls"] ["row", "calls", "goal", "goal_calls"] (defScope s_goes_fact) := ⟨rfl, rfl, rfl, by decide +kernel, rfl, by decide +kernel, by decide +kernel⟩
noncomputable def g_goes_fact : Rho → Option Out :=
(sRet (dTup (aCons (dC (.str "goes")) (aCons (dVar 0) (aCons (dCall dTupleOf (aCons (dVar 1) aNil)) (aCons (dVar 2) (aCons (dCall dTupleOf (aCons (dVar 3) aNil)) aNil)))))))
noncomputable def f_goes_fact : List PyData → Option PyData := runD ["row", "calls", "goal", "goal_calls"] g_goes_fact
abbrev s_holds_fact : Stmt := top 6
theorem sc_holds_fact : FnScope ["name", "thing"] ["name", "thing"] (defScope s_holds_fact) := ⟨rfl, rfl, rfl, by decide +kernel, rfl, by decide +kernel, by decide +kernel⟩
noncomputable def g_holds_fact : Rho → Option Out :=
(sRet (dTup (aCons (dC (.str "holds")) (aCons (dVar 0) (aCons (dVar 1) aNil)))))
noncomputable def f_holds_fact : List PyData → Option PyData := runD ["name", "thing"] g_holds_fact
abbrev s_sorted_once : Stmt := top 7
theorem sc_sorted_once : FnScope ["facts", "once", "fact"] ["facts"] (defScope s_sorted_once) := ⟨rfl, rfl, rfl, by decide +kernel, rfl, by decide +kernel, by decide +kernel⟩
noncomputable def g_sorted_once_L0 : Rho → Option Out :=
(sIf (fOr (fNot (fT (dVar 1))) (fB (d2 dNe (d2 dIx (dVar 1) (dNeg (dC (.int 1)))) (dVar 2))))
(sAppend [1] 1 (dVar 2))
sNil)
noncomputable def g_sorted_once : Rho → Option Out :=
(sSeq (sNewL [1] aNil 1)
(sSeq (sForO [1] (qSeq (dCall dSorted (aCons (dVar 0) aNil))) (.one 2) g_sorted_once_L0)
(sRet (dVar 1))))
noncomputable def f_sorted_once : List PyData → Option PyData := runD ["facts", "once", "fact"] g_sorted_once
abbrev s_known_of : Stmt := top 9
theorem sc_known_of : FnScope ["ones", "known", "one"] ["ones"] (defScope s_known_of) := ⟨rfl, rfl, rfl, by decide +kernel, rfl, by decide +kernel, by decide +kernel⟩
noncomputable def g_known_of_L0 : Rho → Option Out :=
(sDPut [1] 1 (dVar 2) (dC (.bool true)))
noncomputable def g_known_of : Rho → Option Out :=
(sSeq (sNewD 1)
(sSeq (sForO [1] (qSeq (dVar 0)) (.one 2) g_known_of_L0)
(sRet (dVar 1))))
noncomputable def f_known_of : List PyData → Option PyData := runD ["ones", "known", "one"] g_known_of
abbrev s_cut_name : Stmt := top 12
theorem sc_cut_name : FnScope ["name", "fineness"] ["name", "fineness"] (defScope s_cut_name) := ⟨rfl, rfl, rfl, by decide +kernel, rfl, by decide +kernel, by decide +kernel⟩
noncomputable def g_cut_name : Rho → Option Out :=
(sRet (d2 dAdd (d2 dAdd (dSlice (dVar 0) oNone (oSome (dC (.int 2)))) (dTup (aCons (dFn 2 f_cut_calls (aCons (d2 dIx (dVar 0) (dC (.int 2))) (aCons (dVar 1) aNil))) aNil))) (dSlice (dVar 0) (oSome (dC (.int 3))) oNone)))
noncomputable def f_cut_name : List PyData → Option PyData := runD ["name", "fineness"] g_cut_name
abbrev s_cut_fact : Stmt := top 11
theorem sc_cut_fact : FnScope ["fact", "fineness", "thing"] ["fact", "fineness"] (defScope s_cut_fact) := ⟨rfl, rfl, rfl, by decide +kernel, rfl, by decide +kernel, by decide +kernel⟩
noncomputable def g_cut_fact : Rho → Option Out :=
(sSeq (sIf (fB (d2 dEq (d2 dIx (dVar 0) (dC (.int 0))) (dC (.str "reach"))))
(sRet (dFn 2 f_reach_fact (aCons (d2 dIx (dVar 0) (dC (.int 1))) (aCons (dFn 2 f_cut_calls (aCons (d2 dIx (dVar 0) (dC (.int 2))) (aCons (dVar 1) aNil))) aNil))))
sNil)
(sSeq (sIf (fB (d2 dEq (d2 dIx (dVar 0) (dC (.int 0))) (dC (.str "goes"))))
(sRet (dFn 4 f_goes_fact (aCons (d2 dIx (dVar 0) (dC (.int 1))) (aCons (dFn 2 f_cut_calls (aCons (d2 dIx (dVar 0) (dC (.int 2))) (aCons (dVar 1) aNil))) (aCons (d2 dIx (dVar 0) (dC (.int 3))) (aCons (dFn 2 f_cut_calls (aCons (d2 dIx (dVar 0) (dC (.int 4))) (aCons (dVar 1) aNil))) aNil))))))
sNil)
(sSeq (sAsg (d2 dIx (dVar 0) (dC (.int 2))) (bName 2))
(sRet (dFn 2 f_holds_fact (aCons (dFn 2 f_cut_name (aCons (d2 dIx (dVar 0) (dC (.int 1))) (aCons (dVar 1) aNil))) (aCons (dFn 2 f_thing_at (aCons (d2 dIx (dVar 2) (dC (.int 0))) (aCons (dFn 2 f_cut_calls (aCons (d2 dIx (dVar 2) (dC (.int 1))) (aCons (dVar 1) aNil))) aNil))) aNil)))))))
noncomputable def f_cut_fact : List PyData → Option PyData := runD ["fact", "fineness", "thing"] g_cut_fact
abbrev s_cut_facts : Stmt := top 13
theorem sc_cut_facts : FnScope ["facts", "fineness"] ["facts", "fineness"] (defScope s_cut_facts) := ⟨rfl, rfl, rfl, by decide +kernel, rfl, by decide +kernel, by decide +kernel⟩
noncomputable def g_cut_facts_T0 : Rho → Option Bool := (fun _ => some true)
noncomputable def g_cut_facts_C0 : Rho → Option PyData := (dFn 2 f_cut_fact (aCons (dVar 0) (aCons (dVar 1) aNil)))
noncomputable def g_cut_facts : Rho → Option Out :=
(sRet (dFn 1 f_sorted_once (aCons (dComp (qSeq (dVar 0)) [(1, "fineness")] g_cut_facts_T0 g_cut_facts_C0) aNil)))
noncomputable def f_cut_facts : List PyData → Option PyData := runD ["facts", "fineness"] g_cut_facts
abbrev s_leads : Stmt := top 14
theorem sc_leads : FnScope ["facts", "others", "fineness", "known"] ["facts", "others", "fineness"] (defScope s_leads) := ⟨rfl, rfl, rfl, by decide +kernel, rfl, by decide +kernel, by decide +kernel⟩
noncomputable def g_leads_T0 : Rho → Option Bool := (fun _ => some true)
noncomputable def g_leads_C0 : Rho → Option PyData := (d2 dIn (dFn 2 f_cut_fact (aCons (dVar 0) (aCons (dVar 2) aNil))) (dVar 1))
noncomputable def g_leads : Rho → Option Out :=
(sSeq (sAsg (dFn 1 f_known_of (aCons (dVar 1) aNil)) (bName 3))
(sRet (dCall dAll (aCons (dComp (qSeq (dVar 0)) [(3, "known"), (2, "fineness")] g_leads_T0 g_leads_C0) aNil))))
noncomputable def f_leads : List PyData → Option PyData := runD ["facts", "others", "fineness", "known"] g_leads
abbrev s_law_cell_at : Stmt := top 16
theorem sc_law_cell_at : FnScope ["_law_script", "_law_k"] ["_law_script", "_law_k"] (defScope s_law_cell_at) := ⟨rfl, rfl, rfl, by decide +kernel, rfl, by decide +kernel, by decide +kernel⟩
noncomputable def g_law_cell_at : Rho → Option Out :=
(sSeq (sIf (fB (d2 dLt (dVar 1) (dCall dLen (aCons (dVar 0) aNil))))
(sRet (d2 dIx (dVar 0) (dVar 1)))
sNil)
(sRet (dC (.int 0))))
noncomputable def f_law_cell_at : List PyData → Option PyData := runD ["_law_script", "_law_k"] g_law_cell_at
abbrev s_law_calls : Stmt := top 17
theorem sc_law_calls : FnScope ["_law_cell", "_law_calls_here", "_law_k"] ["_law_cell"] (defScope s_law_calls) := ⟨rfl, rfl, rfl, by decide +kernel, rfl, by decide +kernel, by decide +kernel⟩
noncomputable def g_law_calls_L0 : Rho → Option Out :=
(sSeq (sSetO [1] (d2 dDiv (dVar 0) (dC (.int 5))) 0)
(sAppend [1] 1 (d2 dMod (d2 dAdd (d2 dMul (dVar 0) (dC (.int 48271))) (d2 dMul (dC (.int 7)) (dVar 2))) (d2 dPow (dC (.int 10)) (dC (.int 9))))))
noncomputable def g_law_calls : Rho → Option Out :=
(sSeq (sNewL [1] aNil 1)
(sSeq (sForO [1] (qRange1 (d2 dMod (dVar 0) (dC (.int 5)))) (.one 2) g_law_calls_L0)
(sRet (dCall dTupleOf (aCons (dVar 1) aNil)))))
noncomputable def f_law_calls : List PyData → Option PyData := runD ["_law_cell", "_law_calls_here", "_law_k"] g_law_calls
abbrev s_law_name : Stmt := top 18
theorem sc_law_name : FnScope ["_law_cell", "_law_calls_here", "_law_row"] ["_law_cell"] (defScope s_law_name) := ⟨rfl, rfl, rfl, by decide +kernel, rfl, by decide +kernel, by decide +kernel⟩
noncomputable def g_law_name : Rho → Option Out :=
(sSeq (sAsg (dFn 1 f_law_calls (aCons (d2 dDiv (dVar 0) (dC (.int 6))) aNil)) (bName 1))
(sSeq (sAsg (d2 dMod (d2 dDiv (dVar 0) (dC (.int 30))) (d2 dPow (dC (.int 10)) (dC (.int 9)))) (bName 2))
(sSeq (sIf (fB (d2 dEq (d2 dMod (dVar 0) (dC (.int 6))) (dC (.int 0))))
(sRet (dTup (aCons (dC (.str "local")) (aCons (d2 dIx (dLst (aCons (dC (.str "main")) (aCons (dC (.str "fa")) (aCons (dC (.str "ka.m")) aNil)))) (d2 dMod (d2 dDiv (dVar 0) (dC (.int 6))) (dC (.int 3)))) (aCons (dVar 1) (aCons (d2 dIx (dLst (aCons (dC (.str "x")) (aCons (dC (.str "self")) (aCons (dC (.str "w.f")) aNil)))) (d2 dMod (d2 dDiv (dVar 0) (dC (.int 18))) (dC (.int 3)))) aNil))))))
sNil)
(sSeq (sIf (fB (d2 dEq (d2 dMod (dVar 0) (dC (.int 6))) (dC (.int 1))))
(sRet (dTup (aCons (dC (.str "given")) (aCons (d2 dIx (dLst (aCons (dC (.str "main")) (aCons (dC (.str "fa")) (aCons (dC (.str "ka.m")) aNil)))) (d2 dMod (d2 dDiv (dVar 0) (dC (.int 6))) (dC (.int 3)))) (aCons (dVar 1) aNil)))))
sNil)
(sSeq (sIf (fB (d2 dEq (d2 dMod (dVar 0) (dC (.int 6))) (dC (.int 2))))
(sRet (dTup (aCons (dC (.str "each")) (aCons (dVar 2) (aCons (dVar 1) aNil)))))
sNil)
(sRet (d2 dIx (dLst (aCons (dTup (aCons (dC (.str "field")) (aCons (dVar 2) (aCons (dVar 1) (aCons (dC (.str "f")) aNil))))) (aCons (dTup (aCons (dC (.str "kept")) (aCons (dVar 2) (aCons (dVar 1) (aCons (dC (.str "k")) aNil))))) (aCons (dTup (aCons (dC (.str "local")) (aCons (dC (.str "fb")) (aCons (dVar 1) (aCons (dC (.str "y")) aNil))))) aNil)))) (d2 dMod (dVar 0) (dC (.int 3))))))))))
noncomputable def f_law_name : List PyData → Option PyData := runD ["_law_cell", "_law_calls_here", "_law_row"] g_law_name
abbrev s_law_fact : Stmt := top 19
theorem sc_law_fact : FnScope ["_law_cell"] ["_law_cell"] (defScope s_law_fact) := ⟨rfl, rfl, rfl, by decide +kernel, rfl, by decide +kernel, by decide +kernel⟩
noncomputable def g_law_fact : Rho → Option Out :=
(sSeq (sIf (fB (d2 dEq (d2 dMod (dVar 0) (dC (.int 4))) (dC (.int 0))))
(sRet (dTup (aCons (dC (.str "reach")) (aCons (d2 dIx (dLst (aCons (dC (.str "main")) (aCons (dC (.str "fa")) (aCons (dC (.str "ka.m")) aNil)))) (d2 dMod (d2 dDiv (dVar 0) (dC (.int 4))) (dC (.int 3)))) (aCons (dFn 1 f_law_calls (aCons (d2 dDiv (dVar 0) (dC (.int 12))) aNil)) aNil)))))
sNil)
(sSeq (sIf (fB (d2 dEq (d2 dMod (dVar 0) (dC (.int 4))) (dC (.int 1))))
(sRet (dTup (aCons (dC (.str "goes")) (aCons (d2 dMod (d2 dDiv (dVar 0) (dC (.int 4))) (d2 dPow (dC (.int 10)) (dC (.int 9)))) (aCons (dFn 1 f_law_calls (aCons (d2 dDiv (dVar 0) (dC (.int 5))) aNil)) (aCons (dC (.str "fb")) (aCons (dFn 1 f_law_calls (aCons (d2 dAdd (d2 dDiv (dVar 0) (dC (.int 7))) (dC (.int 1))) aNil)) aNil)))))))
sNil)
(sRet (dTup (aCons (dC (.str "holds")) (aCons (dFn 1 f_law_name (aCons (d2 dDiv (dVar 0) (dC (.int 4))) aNil)) (aCons (dTup (aCons (d2 dMod (d2 dDiv (dVar 0) (dC (.int 9))) (d2 dPow (dC (.int 10)) (dC (.int 9)))) (aCons (dFn 1 f_law_calls (aCons (d2 dAdd (d2 dDiv (dVar 0) (dC (.int 11))) (dC (.int 3))) aNil)) aNil))) aNil)))))))
noncomputable def f_law_fact : List PyData → Option PyData := runD ["_law_cell"] g_law_fact
abbrev s_law_last : Stmt := top 20
theorem sc_law_last : FnScope ["_law_calls_here", "_law_many"] ["_law_calls_here", "_law_many"] (defScope s_law_last) := ⟨rfl, rfl, rfl, by decide +kernel, rfl, by decide +kernel, by decide +kernel⟩
noncomputable def g_law_last : Rho → Option Out :=
(sSeq (sIf (fB (d2 dGe (dVar 1) (dCall dLen (aCons (dVar 0) aNil))))
(sRet (dVar 0))
sNil)
(sRet (dSlice (dVar 0) (oSome (d2 dSub (dCall dLen (aCons (dVar 0) aNil)) (dVar 1))) oNone)))
noncomputable def f_law_last : List PyData → Option PyData := runD ["_law_calls_here", "_law_many"] g_law_last
abbrev s_law_due : Stmt := top 21
theorem sc_law_due : FnScope ["_law_fact_here", "_law_many", "_law_name_here", "_law_short"] ["_law_fact_here", "_law_many"] (defScope s_law_due) := ⟨rfl, rfl, rfl, by decide +kernel, rfl, by decide +kernel, by decide +kernel⟩
noncomputable def g_law_due : Rho → Option Out :=
(sSeq (sIf (fB (d2 dEq (d2 dIx (dVar 0) (dC (.int 0))) (dC (.str "reach"))))
(sRet (dTup (aCons (dC (.str "reach")) (aCons (d2 dIx (dVar 0) (dC (.int 1))) (aCons (dFn 2 f_law_last (aCons (d2 dIx (dVar 0) (dC (.int 2))) (aCons (dVar 1) aNil))) aNil)))))
sNil)
(sSeq (sIf (fB (d2 dEq (d2 dIx (dVar 0) (dC (.int 0))) (dC (.str "goes"))))
(sRet (dTup (aCons (dC (.str "goes")) (aCons (d2 dIx (dVar 0) (dC (.int 1))) (aCons (dFn 2 f_law_last (aCons (d2 dIx (dVar 0) (dC (.int 2))) (aCons (dVar 1) aNil))) (aCons (d2 dIx (dVar 0) (dC (.int 3))) (aCons (dFn 2 f_law_last (aCons (d2 dIx (dVar 0) (dC (.int 4))) (aCons (dVar 1) aNil))) aNil)))))))
sNil)
(sSeq (sAsg (d2 dIx (dVar 0) (dC (.int 1))) (bName 2))
(sSeq (sAsg (dCall dTupleOf (aCons (d2 dAdd (dLst (aCons (d2 dIx (dVar 2) (dC (.int 0))) (aCons (d2 dIx (dVar 2) (dC (.int 1))) (aCons (dFn 2 f_law_last (aCons (d2 dIx (dVar 2) (dC (.int 2))) (aCons (dVar 1) aNil))) aNil)))) (dCall dListOf (aCons (dSlice (dVar 2) (oSome (dC (.int 3))) oNone) aNil))) aNil)) (bName 3))
(sRet (dTup (aCons (dC (.str "holds")) (aCons (dVar 3) (aCons (dTup (aCons (d2 dIx (d2 dIx (dVar 0) (dC (.int 2))) (dC (.int 0))) (aCons (dFn 2 f_law_last (aCons (d2 dIx (d2 dIx (dVar 0) (dC (.int 2))) (dC (.int 1))) (aCons (dVar 1) aNil))) aNil))) aNil)))))))))
noncomputable def f_law_due : List PyData → Option PyData := runD ["_law_fact_here", "_law_many", "_law_name_here", "_law_short"] g_law_due
abbrev s_law_once : Stmt := top 22
theorem sc_law_once : FnScope ["_law_facts", "_law_told", "_law_fact_here"] ["_law_facts"] (defScope s_law_once) := ⟨rfl, rfl, rfl, by decide +kernel, rfl, by decide +kernel, by decide +kernel⟩
noncomputable def g_law_once_L0 : Rho → Option Out :=
(sIf (fOr (fB (d2 dEq (dVar 1) (dLst aNil))) (fB (d2 dNe (d2 dIx (dVar 1) (d2 dSub (dCall dLen (aCons (dVar 1) aNil)) (dC (.int 1)))) (dVar 2))))
(sAppend [1] 1 (dVar 2))
sNil)
noncomputable def g_law_once : Rho → Option Out :=
(sSeq (sNewL [1] aNil 1)
(sSeq (sForO [1] (qSeq (dCall dSorted (aCons (dVar 0) aNil))) (.one 2) g_law_once_L0)
(sRet (dVar 1))))
noncomputable def f_law_once : List PyData → Option PyData := runD ["_law_facts", "_law_told", "_law_fact_here"] g_law_once
abbrev s_law : Stmt := top 23
theorem sc_law : FnScope ["_law_script", "_law_many", "_law_fewer", "_law_facts", "_law_handed", "_law_fact_here", "_law_found", "_law_due_here", "_law_told", "_law_at"] ["_law_script"] (defScope s_law) := ⟨rfl, rfl, rfl, by decide +kernel, rfl, by decide +kernel, by decide +kernel⟩
noncomputable def g_law_T0 : Rho → Option Bool := (fun _ => some true)
noncomputable def g_law_C0 : Rho → Option PyData := (dFn 1 f_law_fact (aCons (dVar 0) aNil))
noncomputable def g_law_L1 : Rho → Option Out :=
(sSeq (sAsg (dFn 2 f_cut_fact (aCons (dVar 5) (aCons (dVar 1) aNil))) (bName 6))
(sSeq (sIf (fOr (fNot (fT (dIsT "tuple" (dVar 6)))) (fB (d2 dNe (dVar 6) (dFn 2 f_law_due (aCons (dVar 5) (aCons (dVar 1) aNil))))))
(sRet (dC (.bool false)))
sNil)
(sIf (fB (d2 dNe (dFn 2 f_cut_fact (aCons (dVar 6) (aCons (dCall dMin (aCons (dVar 1) (aCons (dVar 2) aNil))) aNil))) (dFn 2 f_law_due (aCons (dVar 5) (aCons (dCall dMin (aCons (dVar 1) (aCons (dVar 2) aNil))) aNil)))))
(sRet (dC (.bool false)))
sNil)))
noncomputable def g_law_T2 : Rho → Option Bool := (fun _ => some true)
noncomputable def g_law_C2 : Rho → Option PyData := (dFn 2 f_law_due (aCons (dVar 0) (aCons (dVar 1) aNil)))
noncomputable def g_law_T3 : Rho → Option Bool := (fun _ => some true)
noncomputable def g_law_C3 : Rho → Option PyData := (d2 dIn (dFn 2 f_law_due (aCons (dVar 0) (aCons (dVar 2) aNil))) (dVar 1))
noncomputable def g_law : Rho → Option Out :=
(sSeq (sAsg (d2 dMod (dFn 2 f_law_cell_at (aCons (dVar 0) (aCons (dC (.int 0)) aNil))) (dC (.int 4))) (bName 1))
(sSeq (sAsg (d2 dMod (d2 dDiv (dFn 2 f_law_cell_at (aCons (dVar 0) (aCons (dC (.int 0)) aNil))) (dC (.int 4))) (dC (.int 4))) (bName 2))
(sSeq (sAsg (dComp (qSeq (d2 dAdd (dSlice (dVar 0) (oSome (dC (.int 1))) oNone) (dSlice (dVar 0) oNone (oSome (dC (.int 1)))))) [] g_law_T0 g_law_C0) (bName 3))
(sSeq (sAsg (dCall dListOf (aCons (dVar 3) aNil)) (bName 4))
(sSeq (sFor (qSeq (dVar 3)) (bName 5) g_law_L1)
(sSeq (sAsg (dFn 1 f_law_once (aCons (dComp (qSeq (dVar 3)) [(1, "_law_many")] g_law_T2 g_law_C2) aNil)) (bName 7))
(sSeq (sAsg (dFn 2 f_cut_facts (aCons (dVar 4) (aCons (dVar 1) aNil))) (bName 8))
(sSeq (sIf (fOr (fNot (fT (dIsT "list" (dVar 8)))) (fOr (fB (d2 dNe (dVar 8) (dVar 7))) (fB (d2 dNe (dVar 4) (dVar 3)))))
(sRet (dC (.bool false)))
sNil)
(sSeq (sAsg (d2 dMod (d2 dDiv (dFn 2 f_law_cell_at (aCons (dVar 0) (aCons (dC (.int 0)) aNil))) (dC (.int 16))) (dCall dMax (aCons (dC (.int 1)) (aCons (dCall dLen (aCons (dVar 7) aNil)) aNil)))) (bName 9))
(sSeq (sIf (fOr (fB (d2 dIsNot (dFn 3 f_leads (aCons (dVar 3) (aCons (dVar 7) (aCons (dVar 1) aNil)))) (dC (.bool true)))) (fB (d2 dIsNot (dFn 3 f_leads (aCons (dLst aNil) (aCons (dLst aNil) (aCons (dVar 1) aNil)))) (dC (.bool true)))))
(sRet (dC (.bool false)))
sNil)
(sSeq (sIf (fB (d2 dIsNot (dFn 3 f_leads (aCons (dVar 3) (aCons (d2 dAdd (d2 dAdd (dRev (dVar 7)) (dSlice (dVar 7) oNone (oSome (dC (.int 1))))) (dVar 4)) (aCons (dVar 1) aNil)))) (dC (.bool true))))
(sRet (dC (.bool false)))
sNil)
(sSeq (sIf (fB (d2 dNe (dFn 3 f_leads (aCons (dVar 3) (aCons (dVar 3) (aCons (dVar 1) aNil)))) (dCall dAll (aCons (dComp (qSeq (dVar 3)) [(3, "_law_facts"), (1, "_law_many")] g_law_T3 g_law_C3) aNil))))
(sRet (dC (.bool false)))
sNil)
(sRet (d2 dEq (dFn 3 f_leads (aCons (dVar 3) (aCons (d2 dAdd (dSlice (dVar 7) oNone (oSome (dVar 9))) (dSlice (dVar 7) (oSome (d2 dAdd (dVar 9) (dC (.int 1)))) oNone)) (aCons (dVar 1) aNil)))) (d2 dEq (dVar 7) (dLst aNil))))))))))))))))
noncomputable def f_law : List PyData → Option PyData := runD ["_law_script", "_law_many", "_law_fewer", "_law_facts", "_law_handed", "_law_fact_here", "_law_found", "_law_due_here", "_law_told", "_law_at"] g_law
structure Blt (mg : Str → Option Value) : Prop where
  all : mg "all" = none
  isinstance : mg "isinstance" = none
  len : mg "len" = none
  list : mg "list" = none
  max : mg "max" = none
  min : mg "min" = none
  range : mg "range" = none
  sorted : mg "sorted" = none
  tuple : mg "tuple" = none
section
variable {P : Program} {w : World} {K : PySem.W.Frag} {mg : Str → Option Value} {base : Heap}
theorem fn_cut_calls {a : Addr} {fd : FuncData} (F : Fun K "cut_calls" "cut_calls" s_cut_calls a fd) (B : Blt mg)  : FnOk P w K mg base CX0 1 a fd ["calls", "fineness"] (spD K 2 f_cut_calls) := by
  refine fn_pure (k := 0) F sc_cut_calls rfl (fun cdv A outer s H E hr => ?_)
  have hu := hr.units
  have nd := sc_cut_calls.nd
  exact (pdss_one (pds_ret (pd_callTy cd_tuple rfl B.tuple (by rfl) (pda_cons (pd_slice (pd_var 0) (pdo_some (pd_callB (cd_max rfl) rfl B.max (by rfl) (pda_cons pd_int (pda_cons (pd_op od_sub (pd_callB cd_len rfl B.len (by rfl) (pda_cons (pd_var 0) pda_nil)) (pd_var 1)) pda_nil)))) pdo_none) pda_nil))))
theorem own_cut_calls {a : Addr} {fd : FuncData} (F : Fun K "cut_calls" "cut_calls" s_cut_calls a fd) (B : Blt mg) (m : mg "cut_calls" = some (.ref a))  : Own P w K mg base "cut_calls" 1 2 f_cut_calls :=
  ⟨a, fd, ["calls", "fineness"], fn_cut_calls F B , m, F.kp, F.binds fun _ _ _ _ _ _ us hl => match us, hl with | [_, _], _ => rfl⟩
theorem fn_thing_at {a : Addr} {fd : FuncData} (F : Fun K "thing_at" "thing_at" s_thing_at a fd) (B : Blt mg)  : FnOk P w K mg base CX0 1 a fd ["row", "calls"] (spD K 2 f_thing_at) := by
  refine fn_pure (k := 0) F sc_thing_at rfl (fun cdv A outer s H E hr => ?_)
  have hu := hr.units
  have nd := sc_thing_at.nd
  exact (pdss_one (pds_ret (pd_tup (pda_cons (pd_var 0) (pda_cons (pd_callTy cd_tuple rfl B.tuple (by rfl) (pda_cons (pd_var 1) pda_nil)) pda_nil)))))
theorem own_thing_at {a : Addr} {fd : FuncData} (F : Fun K "thing_at" "thing_at" s_thing_at a fd) (B : Blt mg) (m : mg "thing_at" = some (.ref a))  : Own P w K mg base "thing_at" 1 2 f_thing_at :=
  ⟨a, fd, ["row", "calls"], fn_thing_at F B , m, F.kp, F.binds fun _ _ _ _ _ _ us hl => match us, hl with | [_, _], _ => rfl⟩
theorem fn_reach_fact {a : Addr} {fd : FuncData} (F : Fun K "reach_fact" "reach_fact" s_reach_fact a fd) (B : Blt mg)  : FnOk P w K mg base CX0 1 a fd ["body", "calls"] (spD K 2 f_reach_fact) := by
  refine fn_pure (k := 0) F sc_reach_fact rfl (fun cdv A outer s H E hr => ?_)
  have hu := hr.units
  have nd := sc_reach_fact.nd
  exact (pdss_one (pds_ret (pd_tup (pda_cons pd_str (pda_cons (pd_var 0) (pda_cons (pd_callTy cd_tuple rfl B.tuple (by rfl) (pda_cons (pd_var 1) pda_nil)) pda_nil))))))
theorem own_reach_fact {a : Addr} {fd : FuncData} (F : Fun K "reach_fact" "reach_fact" s_reach_fact a fd) (B : Blt mg) (m : mg "reach_fact" = some (.ref a))  : Own P w K mg base "reach_fact" 1 2 f_reach_fact :=
  ⟨a, fd, ["body", "calls"], fn_reach_fact F B , m, F.kp, F.binds fun _ _ _ _ _ _ us hl => match us, hl with | [_, _], _ => rfl⟩
theorem fn_goes_fact {a : Addr} {fd : FuncData} (F : Fun K "goes_fact" "goes_fact" s_goes_fact a fd) (B : Blt mg)  : FnOk P w K mg base CX0 1 a fd ["row", "calls", "goal", "goal_calls"] (spD K 4 f_goes_fact) := by
  refine fn_pure (k := 0) F sc_goes_fact rfl (fun cdv A outer s H E hr => ?_)
  have hu := hr.units
  have nd := sc_goes_fact.nd
  exact (pdss_one (pds_ret (pd_tup (pda_cons pd_str (pda_cons (pd_var 0) (pda_cons (pd_callTy cd_tuple rfl B.tuple (by rfl) (pda_cons (pd_var 1) pda_nil)) (pda_cons (pd_var 2) (pda_cons (pd_callTy cd_tuple rfl B.tuple (by rfl) (pda_cons (pd_var 3) pda_nil)) pda_nil))))))))
theorem own_goes_fact {a : Addr} {fd : FuncData} (F : Fun K "goes_fact" "goes_fact" s_goes_fact a fd) (B : Blt mg) (m : mg "goes_fact" = some (.ref a))  : Own P w K mg base "goes_fact" 1 4 f_goes_fact :=
  ⟨a, fd, ["row", "calls", "goal", "goal_calls"], fn_goes_fact F B , m, F.kp, F.binds fun _ _ _ _ _ _ us hl => match us, hl with | [_, _, _, _], _ => rfl⟩
theorem fn_holds_fact {a : Addr} {fd : FuncData} (F : Fun K "holds_fact" "holds_fact" s_holds_fact a fd) (B : Blt mg)  : FnOk P w K mg base CX0 1 a fd ["name", "thing"] (spD K 2 f_holds_fact) := by
  refine fn_pure (k := 0) F sc_holds_fact rfl (fun cdv A outer s H E hr => ?_)
  have hu := hr.units
  have nd := sc_holds_fact.nd
  exact (pdss_one (pds_ret (pd_tup (pda_cons pd_str (pda_cons (pd_var 0) (pda_cons (pd_var 1) pda_nil))))))
theorem own_holds_fact {a : Addr} {fd : FuncData} (F : Fun K "holds_fact" "holds_fact" s_holds_fact a fd) (B : Blt mg) (m : mg "holds_fact" = some (.ref a))  : Own P w K mg base "holds_fact" 1 2 f_holds_fact :=
  ⟨a, fd, ["name", "thing"], fn_holds_fact F B , m, F.kp, F.binds fun _ _ _ _ _ _ us hl => match us, hl with | [_, _], _ => rfl⟩
theorem fn_sorted_once {a : Addr} {fd : FuncData} (F : Fun K "sorted_once" "sorted_once" s_sorted_once a fd) (B : Blt mg)  : FnOk P w K mg base CX0 1 a fd ["facts"] (spD K 1 f_sorted_once) := by
  refine fn_own (k := 0) (O := [1]) F sc_sorted_once rfl (by decide) (fun cdv A outer s H E hr => ?_)
  have hu := hr.units
  have nd := sc_sorted_once.nd
  exact (poss_cons (pos_newL 1 nd (by decide) pda_nil)
    (poss_cons (pos_for PassesOwn.never rfl (poi_seq (pd_callB (cd_sorted hu) rfl B.sorted (by rfl) (pda_cons (pd_var 0) pda_nil))) (pgT_one 2 nd) (by decide)
    (poss_one (pos_if (pdt_w (pdw_or (pdt_not (pdt_val (pd_var 1))) (pdw_or1 (pdt_cmp (od_ne hu) (pd_ix ixD (pd_var 1) (pd_neg pd_int) (fun _ _ => rfl)) (pd_var 2) (nomark _)))))
    (poss_one (pos_append 1 (by decide) (pd_var 2)))
    poss_nil)))
    (poss_one (pos_ret (pd_var 1)))))
theorem own_sorted_once {a : Addr} {fd : FuncData} (F : Fun K "sorted_once" "sorted_once" s_sorted_once a fd) (B : Blt mg) (m : mg "sorted_once" = some (.ref a))  : Own P w K mg base "sorted_once" 1 1 f_sorted_once :=
  ⟨a, fd, ["facts"], fn_sorted_once F B , m, F.kp, F.binds fun _ _ _ _ _ _ us hl => match us, hl with | [_], _ => rfl⟩
theorem fn_known_of {a : Addr} {fd : FuncData} (F : Fun K "known_of" "known_of" s_known_of a fd) (B : Blt mg)  : FnOk P w K mg base CX0 1 a fd ["ones"] (spD K 1 f_known_of) := by
  refine fn_own (k := 0) (O := [1]) F sc_known_of rfl (by decide) (fun cdv A outer s H E hr => ?_)
  have hu := hr.units
  have nd := sc_known_of.nd
  exact (poss_cons (pos_newD 1 nd (by decide))
    (poss_cons (pos_for PassesOwn.never rfl (poi_seq (pd_var 0)) (pgT_one 2 nd) (by decide)
    (poss_one (pos_dput hu 1 (by decide) (pd_var 2) pd_bl)))
    (poss_one (pos_ret (pd_var 1)))))
theorem own_known_of {a : Addr} {fd : FuncData} (F : Fun K "known_of" "known_of" s_known_of a fd) (B : Blt mg) (m : mg "known_of" = some (.ref a))  : Own P w K mg base "known_of" 1 1 f_known_of :=
  ⟨a, fd, ["ones"], fn_known_of F B , m, F.kp, F.binds fun _ _ _ _ _ _ us hl => match us, hl with | [_], _ => rfl⟩
theorem fn_cut_name {a : Addr} {fd : FuncData} (F : Fun K "cut_name" "cut_name" s_cut_name a fd) (B : Blt mg) (O_cut_calls : Own P w K mg base "cut_calls" 1 2 f_cut_calls) : FnOk P w K mg base CX0 2 a fd ["name", "fineness"] (spD K 2 f_cut_name) := by
  refine fn_pure (k := 1) F sc_cut_name rfl (fun cdv A outer s H E hr => ?_)
  have hu := hr.units
  have nd := sc_cut_name.nd
  exact (pdss_one (pds_ret (pd_op od_add (pd_op od_add (pd_slice (pd_var 0) pdo_none (pdo_some pd_int)) (pd_tup (pda_cons (pd_own O_cut_calls hr rfl (pda_cons (pd_ix ixD (pd_var 0) pd_int (fun _ _ => rfl)) (pda_cons (pd_var 1) pda_nil))) pda_nil))) (pd_slice (pd_var 0) (pdo_some pd_int) pdo_none))))
theorem own_cut_name {a : Addr} {fd : FuncData} (F : Fun K "cut_name" "cut_name" s_cut_name a fd) (B : Blt mg) (m : mg "cut_name" = some (.ref a)) (O_cut_calls : Own P w K mg base "cut_calls" 1 2 f_cut_calls) : Own P w K mg base "cut_name" 2 2 f_cut_name :=
  ⟨a, fd, ["name", "fineness"], fn_cut_name F B O_cut_calls, m, F.kp, F.binds fun _ _ _ _ _ _ us hl => match us, hl with | [_, _], _ => rfl⟩
theorem fn_cut_fact {a : Addr} {fd : FuncData} (F : Fun K "cut_fact" "cut_fact" s_cut_fact a fd) (B : Blt mg) (O_cut_calls : Own P w K mg base "cut_calls" 1 2 f_cut_calls) (O_cut_name : Own P w K mg base "cut_name" 2 2 f_cut_name) (O_goes_fact : Own P w K mg base "goes_fact" 1 4 f_goes_fact) (O_holds_fact : Own P w K mg base "holds_fact" 1 2 f_holds_fact) (O_reach_fact : Own P w K mg base "reach_fact" 1 2 f_reach_fact) (O_thing_at : Own P w K mg base "thing_at" 1 2 f_thing_at) : FnOk P w K mg base CX0 3 a fd ["fact", "fineness"] (spD K 2 f_cut_fact) := by
  refine fn_pure (k := 2) F sc_cut_fact rfl (fun cdv A outer s H E hr => ?_)
  have hu := hr.units
  have nd := sc_cut_fact.nd
  exact (pdss_cons (pds_if (pdt_cmp (od_eq hu) (pd_ix ixD (pd_var 0) pd_int (fun _ _ => rfl)) pd_str (nomark _))
    (pdss_one (pds_ret (pd_own O_reach_fact hr rfl (pda_cons (pd_ix ixD (pd_var 0) pd_int (fun _ _ => rfl)) (pda_cons (pd_own O_cut_calls hr rfl (pda_cons (pd_ix ixD (pd_var 0) pd_int (fun _ _ => rfl)) (pda_cons (pd_var 1) pda_nil))) pda_nil)))))
    pdss_nil)
    (pdss_cons (pds_if (pdt_cmp (od_eq hu) (pd_ix ixD (pd_var 0) pd_int (fun _ _ => rfl)) pd_str (nomark _))
    (pdss_one (pds_ret (pd_own O_goes_fact hr rfl (pda_cons (pd_ix ixD (pd_var 0) pd_int (fun _ _ => rfl)) (pda_cons (pd_own O_cut_calls hr rfl (pda_cons (pd_ix ixD (pd_var 0) pd_int (fun _ _ => rfl)) (pda_cons (pd_var 1) pda_nil))) (pda_cons (pd_ix ixD (pd_var 0) pd_int (fun _ _ => rfl)) (pda_cons (pd_own O_cut_calls hr rfl (pda_cons (pd_ix ixD (pd_var 0) pd_int (fun _ _ => rfl)) (pda_cons (pd_var 1) pda_nil))) pda_nil)))))))
    pdss_nil)
    (pdss_cons (pds_set 2 nd (pd_ix ixD (pd_var 0) pd_int (fun _ _ => rfl)))
    (pdss_one (pds_ret (pd_own O_holds_fact hr rfl (pda_cons (pd_own O_cut_name hr rfl (pda_cons (pd_ix ixD (pd_var 0) pd_int (fun _ _ => rfl)) (pda_cons (pd_var 1) pda_nil))) (pda_cons (pd_own O_thing_at hr rfl (pda_cons (pd_ix ixD (pd_var 2) pd_int (fun _ _ => rfl)) (pda_cons (pd_own O_cut_calls hr rfl (pda_cons (pd_ix ixD (pd_var 2) pd_int (fun _ _ => rfl)) (pda_cons (pd_var 1) pda_nil))) pda_nil))) pda_nil))))))))
theorem own_cut_fact {a : Addr} {fd : FuncData} (F : Fun K "cut_fact" "cut_fact" s_cut_fact a fd) (B : Blt mg) (m : mg "cut_fact" = some (.ref a)) (O_cut_calls : Own P w K mg base "cut_calls" 1 2 f_cut_calls) (O_cut_name : Own P w K mg base "cut_name" 2 2 f_cut_name) (O_goes_fact : Own P w K mg base "goes_fact" 1 4 f_goes_fact) (O_holds_fact : Own P w K mg base "holds_fact" 1 2 f_holds_fact) (O_reach_fact : Own P w K mg base "reach_fact" 1 2 f_reach_fact) (O_thing_at : Own P w K mg base "thing_at" 1 2 f_thing_at) : Own P w K mg base "cut_fact" 3 2 f_cut_fact :=
  ⟨a, fd, ["fact", "fineness"], fn_cut_fact F B O_cut_calls O_cut_name O_goes_fact O_holds_fact O_reach_fact O_thing_at, m, F.kp, F.binds fun _ _ _ _ _ _ us hl => match us, hl with | [_, _], _ => rfl⟩
theorem fn_cut_facts {a : Addr} {fd : FuncData} (F : Fun K "cut_facts" "cut_facts" s_cut_facts a fd) (B : Blt mg) (O_cut_fact : Own P w K mg base "cut_fact" 3 2 f_cut_fact) (O_sorted_once : Own P w K mg base "sorted_once" 1 1 f_sorted_once) : FnOk P w K mg base CX0 4 a fd ["facts", "fineness"] (spD K 2 f_cut_facts) := by
  refine fn_pure (k := 3) F sc_cut_facts rfl (fun cdv A outer s H E hr => ?_)
  have hu := hr.units
  have nd := sc_cut_facts.nd
  exact (pdss_one (pds_ret (pd_own O_sorted_once hr rfl (pda_cons (pd_compI [(1, "fineness")] (pdi_seq (pd_var 0)) (fun _ _ _ _ => pdts_nil) (fun _ _ _ _ => (pd_own O_cut_fact hr rfl (pda_cons (pd_var 0) (pda_cons (pd_var 1) pda_nil))))) pda_nil))))
theorem own_cut_facts {a : Addr} {fd : FuncData} (F : Fun K "cut_facts" "cut_facts" s_cut_facts a fd) (B : Blt mg) (m : mg "cut_facts" = some (.ref a)) (O_cut_fact : Own P w K mg base "cut_fact" 3 2 f_cut_fact) (O_sorted_once : Own P w K mg base "sorted_once" 1 1 f_sorted_once) : Own P w K mg base "cut_facts" 4 2 f_cut_facts :=
  ⟨a, fd, ["facts", "fineness"], fn_cut_facts F B O_cut_fact O_sorted_once, m, F.kp, F.binds fun _ _ _ _ _ _ us hl => match us, hl with | [_, _], _ => rfl⟩
theorem fn_leads {a : Addr} {fd : FuncData} (F : Fun K "leads" "leads" s_leads a fd) (B : Blt mg) (O_cut_fact : Own P w K mg base "cut_fact" 3 2 f_cut_fact) (O_known_of : Own P w K mg base "known_of" 1 1 f_known_of) : FnOk P w K mg base CX0 4 a fd ["facts", "others", "fineness"] (spD K 3 f_leads) := by
  refine fn_pure (k := 3) F sc_leads rfl (fun cdv A outer s H E hr => ?_)
  have hu := hr.units
  have nd := sc_leads.nd
  exact (pdss_cons (pds_set 3 nd (pd_own O_known_of hr rfl (pda_cons (pd_var 1) pda_nil)))
    (pdss_one (pds_ret (pd_callB (cd_all rfl) rfl B.all (by rfl) (pda_cons (pd_compI [(3, "known"), (2, "fineness")] (pdi_seq (pd_var 0)) (fun _ _ _ _ => pdts_nil) (fun _ _ _ _ => (pd_cmp (od_in hu) (pd_own O_cut_fact hr rfl (pda_cons (pd_var 0) (pda_cons (pd_var 2) pda_nil))) (pd_var 1) (by with_unfolding_all rfl)))) pda_nil)))))
theorem own_leads {a : Addr} {fd : FuncData} (F : Fun K "leads" "leads" s_leads a fd) (B : Blt mg) (m : mg "leads" = some (.ref a)) (O_cut_fact : Own P w K mg base "cut_fact" 3 2 f_cut_fact) (O_known_of : Own P w K mg base "known_of" 1 1 f_known_of) : Own P w K mg base "leads" 4 3 f_leads :=
  ⟨a, fd, ["facts", "others", "fineness"], fn_leads F B O_cut_fact O_known_of, m, F.kp, F.binds fun _ _ _ _ _ _ us hl => match us, hl with | [_, _, _], _ => rfl⟩
theorem fn_law_cell_at {a : Addr} {fd : FuncData} (F : Fun K "_law_cell_at" "_law_cell_at" s_law_cell_at a fd) (B : Blt mg)  : FnOk P w K mg base CX0 1 a fd ["_law_script", "_law_k"] (spD K 2 f_law_cell_at) := by
  refine fn_pure (k := 0) F sc_law_cell_at rfl (fun cdv A outer s H E hr => ?_)
  have hu := hr.units
  have nd := sc_law_cell_at.nd
  exact (pdss_cons (pds_if (pdt_cmp od_lt (pd_var 1) (pd_callB cd_len rfl B.len (by rfl) (pda_cons (pd_var 0) pda_nil)) (nomark _))
    (pdss_one (pds_ret (pd_ix ixD (pd_var 0) (pd_var 1) (fun _ _ => rfl))))
    pdss_nil)
    (pdss_one (pds_ret pd_int)))
theorem own_law_cell_at {a : Addr} {fd : FuncData} (F : Fun K "_law_cell_at" "_law_cell_at" s_law_cell_at a fd) (B : Blt mg) (m : mg "_law_cell_at" = some (.ref a))  : Own P w K mg base "_law_cell_at" 1 2 f_law_cell_at :=
  ⟨a, fd, ["_law_script", "_law_k"], fn_law_cell_at F B , m, F.kp, F.binds fun _ _ _ _ _ _ us hl => match us, hl with | [_, _], _ => rfl⟩
theorem fn_law_calls {a : Addr} {fd : FuncData} (F : Fun K "_law_calls" "_law_calls" s_law_calls a fd) (B : Blt mg)  : FnOk P w K mg base CX0 1 a fd ["_law_cell"] (spD K 1 f_law_calls) := by
  refine fn_own (k := 0) (O := [1]) F sc_law_calls rfl (by decide) (fun cdv A outer s H E hr => ?_)
  have hu := hr.units
  have nd := sc_law_calls.nd
  exact (poss_cons (pos_newL 1 nd (by decide) pda_nil)
    (poss_cons (pos_for PassesOwn.never rfl (poi_range1 rfl B.range (pd_op od_mod (pd_var 0) pd_int)) (pgT_one 2 nd) (by decide)
    (poss_cons (pos_set 0 nd (pd_op od_div (pd_var 0) pd_int))
    (poss_one (pos_append 1 (by decide) (pd_op od_mod (pd_op od_add (pd_op od_mul (pd_var 0) pd_int) (pd_op od_mul pd_int (pd_var 2))) (pd_op od_pow pd_int pd_int))))))
    (poss_one (pos_ret (pd_callTy cd_tuple rfl B.tuple (by rfl) (pda_cons (pd_var 1) pda_nil))))))
theorem own_law_calls {a : Addr} {fd : FuncData} (F : Fun K "_law_calls" "_law_calls" s_law_calls a fd) (B : Blt mg) (m : mg "_law_calls" = some (.ref a))  : Own P w K mg base "_law_calls" 1 1 f_law_calls :=
  ⟨a, fd, ["_law_cell"], fn_law_calls F B , m, F.kp, F.binds fun _ _ _ _ _ _ us hl => match us, hl with | [_], _ => rfl⟩
theorem fn_law_name {a : Addr} {fd : FuncData} (F : Fun K "_law_name" "_law_name" s_law_name a fd) (B : Blt mg) (O_law_calls : Own P w K mg base "_law_calls" 1 1 f_law_calls) : FnOk P w K mg base CX0 2 a fd ["_law_cell"] (spD K 1 f_law_name) := by
  refine fn_pure (k := 1) F sc_law_name rfl (fun cdv A outer s H E hr => ?_)
  have hu := hr.units
  have nd := sc_law_name.nd
  exact (pdss_cons (pds_set 1 nd (pd_own O_law_calls hr rfl (pda_cons (pd_op od_div (pd_var 0) pd_int) pda_nil)))
    (pdss_cons (pds_set 2 nd (pd_op od_mod (pd_op od_div (pd_var 0) pd_int) (pd_op od_pow pd_int pd_int)))
    (pdss_cons (pds_if (pdt_cmp (od_eq hu) (pd_op od_mod (pd_var 0) pd_int) pd_int (nomark _))
    (pdss_one (pds_ret (pd_tup (pda_cons pd_str (pda_cons (pd_ix ixD (pd_lst (pda_cons pd_str (pda_cons pd_str (pda_cons pd_str pda_nil)))) (pd_op od_mod (pd_op od_div (pd_var 0) pd_int) pd_int) (fun _ _ => rfl)) (pda_cons (pd_var 1) (pda_cons (pd_ix ixD (pd_lst (pda_cons pd_str (pda_cons pd_str (pda_cons pd_str pda_nil)))) (pd_op od_mod (pd_op od_div (pd_var 0) pd_int) pd_int) (fun _ _ => rfl)) pda_nil)))))))
    pdss_nil)
    (pdss_cons (pds_if (pdt_cmp (od_eq hu) (pd_op od_mod (pd_var 0) pd_int) pd_int (nomark _))
    (pdss_one (pds_ret (pd_tup (pda_cons pd_str (pda_cons (pd_ix ixD (pd_lst (pda_cons pd_str (pda_cons pd_str (pda_cons pd_str pda_nil)))) (pd_op od_mod (pd_op od_div (pd_var 0) pd_int) pd_int) (fun _ _ => rfl)) (pda_cons (pd_var 1) pda_nil))))))
    pdss_nil)
    (pdss_cons (pds_if (pdt_cmp (od_eq hu) (pd_op od_mod (pd_var 0) pd_int) pd_int (nomark _))
    (pdss_one (pds_ret (pd_tup (pda_cons pd_str (pda_cons (pd_var 2) (pda_cons (pd_var 1) pda_nil))))))
    pdss_nil)
    (pdss_one (pds_ret (pd_ix ixD (pd_lst (pda_cons (pd_tup (pda_cons pd_str (pda_cons (pd_var 2) (pda_cons (pd_var 1) (pda_cons pd_str pda_nil))))) (pda_cons (pd_tup (pda_cons pd_str (pda_cons (pd_var 2) (pda_cons (pd_var 1) (pda_cons pd_str pda_nil))))) (pda_cons (pd_tup (pda_cons pd_str (pda_cons pd_str (pda_cons (pd_var 1) (pda_cons pd_str pda_nil))))) pda_nil)))) (pd_op od_mod (pd_var 0) pd_int) (fun _ _ => rfl)))))))))
theorem own_law_name {a : Addr} {fd : FuncData} (F : Fun K "_law_name" "_law_name" s_law_name a fd) (B : Blt mg) (m : mg "_law_name" = some (.ref a)) (O_law_calls : Own P w K mg base "_law_calls" 1 1 f_law_calls) : Own P w K mg base "_law_name" 2 1 f_law_name :=
  ⟨a, fd, ["_law_cell"], fn_law_name F B O_law_calls, m, F.kp, F.binds fun _ _ _ _ _ _ us hl => match us, hl with | [_], _ => rfl⟩
theorem fn_law_fact {a : Addr} {fd : FuncData} (F : Fun K "_law_fact" "_law_fact" s_law_fact a fd) (B : Blt mg) (O_law_calls : Own P w K mg base "_law_calls" 1 1 f_law_calls) (O_law_name : Own P w K mg base "_law_name" 2 1 f_law_name) : FnOk P w K mg base CX0 3 a fd ["_law_cell"] (spD K 1 f_law_fact) := by
  refine fn_pure (k := 2) F sc_law_fact rfl (fun cdv A outer s H E hr => ?_)
  have hu := hr.units
  have nd := sc_law_fact.nd
  exact (pdss_cons (pds_if (pdt_cmp (od_eq hu) (pd_op od_mod (pd_var 0) pd_int) pd_int (nomark _))
    (pdss_one (pds_ret (pd_tup (pda_cons pd_str (pda_cons (pd_ix ixD (pd_lst (pda_cons pd_str (pda_cons pd_str (pda_cons pd_str pda_nil)))) (pd_op od_mod (pd_op od_div (pd_var 0) pd_int) pd_int) (fun _ _ => rfl)) (pda_cons (pd_own O_law_calls hr rfl (pda_cons (pd_op od_div (pd_var 0) pd_int) pda_nil)) pda_nil))))))
    pdss_nil)
    (pdss_cons (pds_if (pdt_cmp (od_eq hu) (pd_op od_mod (pd_var 0) pd_int) pd_int (nomark _))
    (pdss_one (pds_ret (pd_tup (pda_cons pd_str (pda_cons (pd_op od_mod (pd_op od_div (pd_var 0) pd_int) (pd_op od_pow pd_int pd_int)) (pda_cons (pd_own O_law_calls hr rfl (pda_cons (pd_op od_div (pd_var 0) pd_int) pda_nil)) (pda_cons pd_str (pda_cons (pd_own O_law_calls hr rfl (pda_cons (pd_op od_add (pd_op od_div (pd_var 0) pd_int) pd_int) pda_nil)) pda_nil))))))))
    pdss_nil)
    (pdss_one (pds_ret (pd_tup (pda_cons pd_str (pda_cons (pd_own O_law_name hr rfl (pda_cons (pd_op od_div (pd_var 0) pd_int) pda_nil)) (pda_cons (pd_tup (pda_cons (pd_op od_mod (pd_op od_div (pd_var 0) pd_int) (pd_op od_pow pd_int pd_int)) (pda_cons (pd_own O_law_calls hr rfl (pda_cons (pd_op od_add (pd_op od_div (pd_var 0) pd_int) pd_int) pda_nil)) pda_nil))) pda_nil))))))))
theorem own_law_fact {a : Addr} {fd : FuncData} (F : Fun K "_law_fact" "_law_fact" s_law_fact a fd) (B : Blt mg) (m : mg "_law_fact" = some (.ref a)) (O_law_calls : Own P w K mg base "_law_calls" 1 1 f_law_calls) (O_law_name : Own P w K mg base "_law_name" 2 1 f_law_name) : Own P w K mg base "_law_fact" 3 1 f_law_fact :=
  ⟨a, fd, ["_law_cell"], fn_law_fact F B O_law_calls O_law_name, m, F.kp, F.binds fun _ _ _ _ _ _ us hl => match us, hl with | [_], _ => rfl⟩
theorem fn_law_last {a : Addr} {fd : FuncData} (F : Fun K "_law_last" "_law_last" s_law_last a fd) (B : Blt mg)  : FnOk P w K mg base CX0 1 a fd ["_law_calls_here", "_law_many"] (spD K 2 f_law_last) := by
  refine fn_pure (k := 0) F sc_law_last rfl (fun cdv A outer s H E hr => ?_)
  have hu := hr.units
  have nd := sc_law_last.nd
  exact (pdss_cons (pds_if (pdt_cmp od_ge (pd_var 1) (pd_callB cd_len rfl B.len (by rfl) (pda_cons (pd_var 0) pda_nil)) (nomark _))
    (pdss_one (pds_ret (pd_var 0)))
    pdss_nil)
    (pdss_one (pds_ret (pd_slice (pd_var 0) (pdo_some (pd_op od_sub (pd_callB cd_len rfl B.len (by rfl) (pda_cons (pd_var 0) pda_nil)) (pd_var 1))) pdo_none))))
theorem own_law_last {a : Addr} {fd : FuncData} (F : Fun K "_law_last" "_law_last" s_law_last a fd) (B : Blt mg) (m : mg "_law_last" = some (.ref a))  : Own P w K mg base "_law_last" 1 2 f_law_last :=
  ⟨a, fd, ["_law_calls_here", "_law_many"], fn_law_last F B , m, F.kp, F.binds fun _ _ _ _ _ _ us hl => match us, hl with | [_, _], _ => rfl⟩
theorem fn_law_due {a : Addr} {fd : FuncData} (F : Fun K "_law_due" "_law_due" s_law_due a fd) (B : Blt mg) (O_law_last : Own P w K mg base "_law_last" 1 2 f_law_last) : FnOk P w K mg base CX0 2 a fd ["_law_fact_here", "_law_many"] (spD K 2 f_law_due) := by
  refine fn_pure (k := 1) F sc_law_due rfl (fun cdv A outer s H E hr => ?_)
  have hu := hr.units
  have nd := sc_law_due.nd
  exact (pdss_cons (pds_if (pdt_cmp (od_eq hu) (pd_ix ixD (pd_var 0) pd_int (fun _ _ => rfl)) pd_str (nomark _))
    (pdss_one (pds_ret (pd_tup (pda_cons pd_str (pda_cons (pd_ix ixD (pd_var 0) pd_int (fun _ _ => rfl)) (pda_cons (pd_own O_law_last hr rfl (pda_cons (pd_ix ixD (pd_var 0) pd_int (fun _ _ => rfl)) (pda_cons (pd_var 1) pda_nil))) pda_nil))))))
    pdss_nil)
    (pdss_cons (pds_if (pdt_cmp (od_eq hu) (pd_ix ixD (pd_var 0) pd_int (fun _ _ => rfl)) pd_str (nomark _))
    (pdss_one (pds_ret (pd_tup (pda_cons pd_str (pda_cons (pd_ix ixD (pd_var 0) pd_int (fun _ _ => rfl)) (pda_cons (pd_own O_law_last hr rfl (pda_cons (pd_ix ixD (pd_var 0) pd_int (fun _ _ => rfl)) (pda_cons (pd_var 1) pda_nil))) (pda_cons (pd_ix ixD (pd_var 0) pd_int (fun _ _ => rfl)) (pda_cons (pd_own O_law_last hr rfl (pda_cons (pd_ix ixD (pd_var 0) pd_int (fun _ _ => rfl)) (pda_cons (pd_var 1) pda_nil))) pda_nil))))))))
    pdss_nil)
    (pdss_cons (pds_set 2 nd (pd_ix ixD (pd_var 0) pd_int (fun _ _ => rfl)))
    (pdss_cons (pds_set 3 nd (pd_callTy cd_tuple rfl B.tuple (by rfl) (pda_cons (pd_op od_add (pd_lst (pda_cons (pd_ix ixD (pd_var 2) pd_int (fun _ _ => rfl)) (pda_cons (pd_ix ixD (pd_var 2) pd_int (fun _ _ => rfl)) (pda_cons (pd_own O_law_last hr rfl (pda_cons (pd_ix ixD (pd_var 2) pd_int (fun _ _ => rfl)) (pda_cons (pd_var 1) pda_nil))) pda_nil)))) (pd_callTy cd_list rfl B.list (by rfl) (pda_cons (pd_slice (pd_var 2) (pdo_some pd_int) pdo_none) pda_nil))) pda_nil)))
    (pdss_one (pds_ret (pd_tup (pda_cons pd_str (pda_cons (pd_var 3) (pda_cons (pd_tup (pda_cons (pd_ix ixD (pd_ix ixD (pd_var 0) pd_int (fun _ _ => rfl)) pd_int (fun _ _ => rfl)) (pda_cons (pd_own O_law_last hr rfl (pda_cons (pd_ix ixD (pd_ix ixD (pd_var 0) pd_int (fun _ _ => rfl)) pd_int (fun _ _ => rfl)) (pda_cons (pd_var 1) pda_nil))) pda_nil))) pda_nil))))))))))
theorem own_law_due {a : Addr} {fd : FuncData} (F : Fun K "_law_due" "_law_due" s_law_due a fd) (B : Blt mg) (m : mg "_law_due" = some (.ref a)) (O_law_last : Own P w K mg base "_law_last" 1 2 f_law_last) : Own P w K mg base "_law_due" 2 2 f_law_due :=
  ⟨a, fd, ["_law_fact_here", "_law_many"], fn_law_due F B O_law_last, m, F.kp, F.binds fun _ _ _ _ _ _ us hl => match us, hl with | [_, _], _ => rfl⟩
theorem fn_law_once {a : Addr} {fd : FuncData} (F : Fun K "_law_once" "_law_once" s_law_once a fd) (B : Blt mg)  : FnOk P w K mg base CX0 1 a fd ["_law_facts"] (spD K 1 f_law_once) := by
  refine fn_own (k := 0) (O := [1]) F sc_law_once rfl (by decide) (fun cdv A outer s H E hr => ?_)
  have hu := hr.units
  have nd := sc_law_once.nd
  exact (poss_cons (pos_newL 1 nd (by decide) pda_nil)
    (poss_cons (pos_for PassesOwn.never rfl (poi_seq (pd_callB (cd_sorted hu) rfl B.sorted (by rfl) (pda_cons (pd_var 0) pda_nil))) (pgT_one 2 nd) (by decide)
    (poss_one (pos_if (pdt_w (pdw_or (pdt_cmp (od_eq hu) (pd_var 1) (pd_lst pda_nil) (nomark _)) (pdw_or1 (pdt_cmp (od_ne hu) (pd_ix ixD (pd_var 1) (pd_op od_sub (pd_callB cd_len rfl B.len (by rfl) (pda_cons (pd_var 1) pda_nil)) pd_int) (fun _ _ => rfl)) (pd_var 2) (nomark _)))))
    (poss_one (pos_append 1 (by decide) (pd_var 2)))
    poss_nil)))
    (poss_one (pos_ret (pd_var 1)))))
theorem own_law_once {a : Addr} {fd : FuncData} (F : Fun K "_law_once" "_law_once" s_law_once a fd) (B : Blt mg) (m : mg "_law_once" = some (.ref a))  : Own P w K mg base "_law_once" 1 1 f_law_once :=
  ⟨a, fd, ["_law_facts"], fn_law_once F B , m, F.kp, F.binds fun _ _ _ _ _ _ us hl => match us, hl with | [_], _ => rfl⟩
theorem fn_law {a : Addr} {fd : FuncData} (F : Fun K "law" "law" s_law a fd) (B : Blt mg) (O_law_cell_at : Own P w K mg base "_law_cell_at" 1 2 f_law_cell_at) (O_law_due : Own P w K mg base "_law_due" 2 2 f_law_due) (O_law_fact : Own P w K mg base "_law_fact" 3 1 f_law_fact) (O_law_once : Own P w K mg base "_law_once" 1 1 f_law_once) (O_cut_fact : Own P w K mg base "cut_fact" 3 2 f_cut_fact) (O_cut_facts : Own P w K mg base "cut_facts" 4 2 f_cut_facts) (O_leads : Own P w K mg base "leads" 4 3 f_leads) : FnOk P w K mg base CX0 5 a fd ["_law_script"] (spD K 1 f_law) := by
  refine fn_pure (k := 4) F sc_law rfl (fun cdv A outer s H E hr => ?_)
  have hu := hr.units
  have nd := sc_law.nd
  exact (pdss_cons (pds_set 1 nd (pd_op od_mod (pd_own O_law_cell_at hr rfl (pda_cons (pd_var 0) (pda_cons pd_int pda_nil))) pd_int))
    (pdss_cons (pds_set 2 nd (pd_op od_mod (pd_op od_div (pd_own O_law_cell_at hr rfl (pda_cons (pd_var 0) (pda_cons pd_int pda_nil))) pd_int) pd_int))
    (pdss_cons (pds_set 3 nd (pd_compI [] (pdi_seq (pd_op od_add (pd_slice (pd_var 0) (pdo_some pd_int) pdo_none) (pd_slice (pd_var 0) pdo_none (pdo_some pd_int)))) (fun _ _ _ _ => pdts_nil) (fun _ _ _ _ => (pd_own O_law_fact hr rfl (pda_cons (pd_var 0) pda_nil)))))
    (pdss_cons (pds_set 4 nd (pd_callTy cd_list rfl B.list (by rfl) (pda_cons (pd_var 3) pda_nil)))
    (pdss_cons (pds_for PassesOwn.never rfl (pdi_seq (pd_var 3)) (pdg_name 5 nd)
    (pdss_cons (pds_set 6 nd (pd_own O_cut_fact hr rfl (pda_cons (pd_var 5) (pda_cons (pd_var 1) pda_nil))))
    (pdss_cons (pds_if (pdt_w (pdw_or (pdt_not (pdt_val (pd_isinst (Or.inl rfl) (pd_var 6) rfl B.isinstance rfl B.tuple (by rfl)))) (pdw_or1 (pdt_cmp (od_ne hu) (pd_var 6) (pd_own O_law_due hr rfl (pda_cons (pd_var 5) (pda_cons (pd_var 1) pda_nil))) (nomark _)))))
    (pdss_one (pds_ret pd_bl))
    pdss_nil)
    (pdss_one (pds_if (pdt_cmp (od_ne hu) (pd_own O_cut_fact hr rfl (pda_cons (pd_var 6) (pda_cons (pd_callB (cd_min rfl) rfl B.min (by rfl) (pda_cons (pd_var 1) (pda_cons (pd_var 2) pda_nil))) pda_nil))) (pd_own O_law_due hr rfl (pda_cons (pd_var 5) (pda_cons (pd_callB (cd_min rfl) rfl B.min (by rfl) (pda_cons (pd_var 1) (pda_cons (pd_var 2) pda_nil))) pda_nil))) (nomark _))
    (pdss_one (pds_ret pd_bl))
    pdss_nil)))))
    (pdss_cons (pds_set 7 nd (pd_own O_law_once hr rfl (pda_cons (pd_compI [(1, "_law_many")] (pdi_seq (pd_var 3)) (fun _ _ _ _ => pdts_nil) (fun _ _ _ _ => (pd_own O_law_due hr rfl (pda_cons (pd_var 0) (pda_cons (pd_var 1) pda_nil))))) pda_nil)))
    (pdss_cons (pds_set 8 nd (pd_own O_cut_facts hr rfl (pda_cons (pd_var 4) (pda_cons (pd_var 1) pda_nil))))
    (pdss_cons (pds_if (pdt_w (pdw_or (pdt_not (pdt_val (pd_isinst (Or.inr (Or.inl rfl)) (pd_var 8) rfl B.isinstance rfl B.list (by rfl)))) (pdw_or (pdt_cmp (od_ne hu) (pd_var 8) (pd_var 7) (nomark _)) (pdw_or1 (pdt_cmp (od_ne hu) (pd_var 4) (pd_var 3) (nomark _))))))
    (pdss_one (pds_ret pd_bl))
    pdss_nil)
    (pdss_cons (pds_set 9 nd (pd_op od_mod (pd_op od_div (pd_own O_law_cell_at hr rfl (pda_cons (pd_var 0) (pda_cons pd_int pda_nil))) pd_int) (pd_callB (cd_max rfl) rfl B.max (by rfl) (pda_cons pd_int (pda_cons (pd_callB cd_len rfl B.len (by rfl) (pda_cons (pd_var 7) pda_nil)) pda_nil)))))
    (pdss_cons (pds_if (pdt_w (pdw_or (pdt_cmp od_isnot (pd_own O_leads hr rfl (pda_cons (pd_var 3) (pda_cons (pd_var 7) (pda_cons (pd_var 1) pda_nil)))) pd_bl (nomark _)) (pdw_or1 (pdt_cmp od_isnot (pd_own O_leads hr rfl (pda_cons (pd_lst pda_nil) (pda_cons (pd_lst pda_nil) (pda_cons (pd_var 1) pda_nil)))) pd_bl (nomark _)))))
    (pdss_one (pds_ret pd_bl))
    pdss_nil)
    (pdss_cons (pds_if (pdt_cmp od_isnot (pd_own O_leads hr rfl (pda_cons (pd_var 3) (pda_cons (pd_op od_add (pd_op od_add (pd_rev (pd_var 7) (pd_neg pd_int)) (pd_slice (pd_var 7) pdo_none (pdo_some pd_int))) (pd_var 4)) (pda_cons (pd_var 1) pda_nil)))) pd_bl (nomark _))
    (pdss_one (pds_ret pd_bl))
    pdss_nil)
    (pdss_cons (pds_if (pdt_cmp (od_ne hu) (pd_own O_leads hr rfl (pda_cons (pd_var 3) (pda_cons (pd_var 3) (pda_cons (pd_var 1) pda_nil)))) (pd_callB (cd_all rfl) rfl B.all (by rfl) (pda_cons (pd_compI [(3, "_law_facts"), (1, "_law_many")] (pdi_seq (pd_var 3)) (fun _ _ _ _ => pdts_nil) (fun _ _ _ _ => (pd_cmp (od_in hu) (pd_own O_law_due hr rfl (pda_cons (pd_var 0) (pda_cons (pd_var 2) pda_nil))) (pd_var 1) (by with_unfolding_all rfl)))) pda_nil)) (nomark _))
    (pdss_one (pds_ret pd_bl))
    pdss_nil)
    (pdss_one (pds_ret (pd_cmp (od_eq hu) (pd_own O_leads hr rfl (pda_cons (pd_var 3) (pda_cons (pd_op od_add (pd_slice (pd_var 7) pdo_none (pdo_some (pd_var 9))) (pd_slice (pd_var 7) (pdo_some (pd_op od_add (pd_var 9) pd_int)) pdo_none)) (pda_cons (pd_var 1) pda_nil)))) (pd_cmp (od_eq hu) (pd_var 7) (pd_lst pda_nil) (nomark _)) (nomark _))))))))))))))))
theorem own_law {a : Addr} {fd : FuncData} (F : Fun K "law" "law" s_law a fd) (B : Blt mg) (m : mg "law" = some (.ref a)) (O_law_cell_at : Own P w K mg base "_law_cell_at" 1 2 f_law_cell_at) (O_law_due : Own P w K mg base "_law_due" 2 2 f_law_due) (O_law_fact : Own P w K mg base "_law_fact" 3 1 f_law_fact) (O_law_once : Own P w K mg base "_law_once" 1 1 f_law_once) (O_cut_fact : Own P w K mg base "cut_fact" 3 2 f_cut_fact) (O_cut_facts : Own P w K mg base "cut_facts" 4 2 f_cut_facts) (O_leads : Own P w K mg base "leads" 4 3 f_leads) : Own P w K mg base "law" 5 1 f_law :=
  ⟨a, fd, ["_law_script"], fn_law F B O_law_cell_at O_law_due O_law_fact O_law_once O_cut_fact O_cut_facts O_leads, m, F.kp, F.binds fun _ _ _ _ _ _ us hl => match us, hl with | [_], _ => rfl⟩
end
theorem all_mk {l : PySem.W.OpenLaw} {w : World} {K : PySem.W.Frag} {h : Heap} {mg : Str → Option Value} {fa : Addr} (X : K.In h) (G : h.Ns mainGlobals mg) (hfa : mg "law" = some (.ref fa))
    {f0 : Addr} {od0 an0 : Option Addr} {sl0 : Array (Option Value)} {oc0 kV0 dc0 pm0 cd0 ct0 : Value}
    {f1 : Addr} {od1 an1 : Option Addr} {sl1 : Array (Option Value)} {oc1 kV1 dc1 pm1 cd1 ct1 : Value}
    {f2 : Addr} {od2 an2 : Option Addr} {sl2 : Array (Option Value)} {oc2 kV2 dc2 pm2 cd2 ct2 : Value}
    {f3 : Addr} {od3 an3 : Option Addr} {sl3 : Array (Option Value)} {oc3 kV3 dc3 pm3 cd3 ct3 : Value}
    {f4 : Addr} {od4 an4 : Option Addr} {sl4 : Array (Option Value)} {oc4 kV4 dc4 pm4 cd4 ct4 : Value}
    {f5 : Addr} {od5 an5 : Option Addr} {sl5 : Array (Option Value)} {oc5 kV5 dc5 pm5 cd5 ct5 : Value}
    {f6 : Addr} {od6 an6 : Option Addr} {sl6 : Array (Option Value)} {oc6 kV6 dc6 pm6 cd6 ct6 : Value}
    {f7 : Addr} {od7 an7 : Option Addr} {sl7 : Array (Option Value)} {oc7 kV7 dc7 pm7 cd7 ct7 : Value}
    {f8 : Addr} {od8 an8 : Option Addr} {sl8 : Array (Option Value)} {oc8 kV8 dc8 pm8 cd8 ct8 : Value}
    {f9 : Addr} {od9 an9 : Option Addr} {sl9 : Array (Option Value)} {oc9 kV9 dc9 pm9 cd9 ct9 : Value}
    {f10 : Addr} {od10 an10 : Option Addr} {sl10 : Array (Option Value)} {oc10 kV10 dc10 pm10 cd10 ct10 : Value}
    {f11 : Addr} {od11 an11 : Option Addr} {sl11 : Array (Option Value)} {oc11 kV11 dc11 pm11 cd11 ct11 : Value}
    {f12 : Addr} {od12 an12 : Option Addr} {sl12 : Array (Option Value)} {oc12 kV12 dc12 pm12 cd12 ct12 : Value}
    {f13 : Addr} {od13 an13 : Option Addr} {sl13 : Array (Option Value)} {oc13 kV13 dc13 pm13 cd13 ct13 : Value}
    {f14 : Addr} {od14 an14 : Option Addr} {sl14 : Array (Option Value)} {oc14 kV14 dc14 pm14 cd14 ct14 : Value}
    {f15 : Addr} {od15 an15 : Option Addr} {sl15 : Array (Option Value)} {oc15 kV15 dc15 pm15 cd15 ct15 : Value}
    {f16 : Addr} {od16 an16 : Option Addr} {sl16 : Array (Option Value)} {oc16 kV16 dc16 pm16 cd16 ct16 : Value}
    {f17 : Addr} {od17 an17 : Option Addr} {sl17 : Array (Option Value)} {oc17 kV17 dc17 pm17 cd17 ct17 : Value}
    {f18 : Addr} {od18 an18 : Option Addr} {sl18 : Array (Option Value)} {oc18 kV18 dc18 pm18 cd18 ct18 : Value}
    (a0 : PySem.W.nsIn K mainGlobals "cut_calls" = some (some (.ref f0)))
    (l0 : K.lookup f0 = some ⟨oc0, od0, .func (PySem.W.fnOf "cut_calls" "cut_calls" (defArgs s_cut_calls) (defBody s_cut_calls) (defScope s_cut_calls) .none kV0 dc0 pm0 an0 cd0 ct0), sl0⟩)
    (c0 : PySem.W.codeIn K cd0 "cut_calls" = true) (k0 : PySem.W.keepIn K (.ref f0) = true)
    (a1 : PySem.W.nsIn K mainGlobals "thing_at" = some (some (.ref f1)))
    (l1 : K.lookup f1 = some ⟨oc1, od1, .func (PySem.W.fnOf "thing_at" "thing_at" (defArgs s_thing_at) (defBody s_thing_at) (defScope s_thing_at) .none kV1 dc1 pm1 an1 cd1 ct1), sl1⟩)
    (c1 : PySem.W.codeIn K cd1 "thing_at" = true) (k1 : PySem.W.keepIn K (.ref f1) = true)
    (a2 : PySem.W.nsIn K mainGlobals "reach_fact" = some (some (.ref f2)))
    (l2 : K.lookup f2 = some ⟨oc2, od2, .func (PySem.W.fnOf "reach_fact" "reach_fact" (defArgs s_reach_fact) (defBody s_reach_fact) (defScope s_reach_fact) .none kV2 dc2 pm2 an2 cd2 ct2), sl2⟩)
    (c2 : PySem.W.codeIn K cd2 "reach_fact" = true) (k2 : PySem.W.keepIn K (.ref f2) = true)
    (a3 : PySem.W.nsIn K mainGlobals "goes_fact" = some (some (.ref f3)))
    (l3 : K.lookup f3 = some ⟨oc3, od3, .func (PySem.W.fnOf "goes_fact" "goes_fact" (defArgs s_goes_fact) (defBody s_goes_fact) (defScope s_goes_fact) .none kV3 dc3 pm3 an3 cd3 ct3), sl3⟩)
    (c3 : PySem.W.codeIn K cd3 "goes_fact" = true) (k3 : PySem.W.keepIn K (.ref f3) = true)
    (a4 : PySem.W.nsIn K mainGlobals "holds_fact" = some (some (.ref f4)))
    (l4 : K.lookup f4 = some ⟨oc4, od4, .func (PySem.W.fnOf "holds_fact" "holds_fact" (defArgs s_holds_fact) (defBody s_holds_fact) (defScope s_holds_fact) .none kV4 dc4 pm4 an4 cd4 ct4), sl4⟩)
    (c4 : PySem.W.codeIn K cd4 "holds_fact" = true) (k4 : PySem.W.keepIn K (.ref f4) = true)
    (a5 : PySem.W.nsIn K mainGlobals "sorted_once" = some (some (.ref f5)))
    (l5 : K.lookup f5 = some ⟨oc5, od5, .func (PySem.W.fnOf "sorted_once" "sorted_once" (defArgs s_sorted_once) (defBody s_sorted_once) (defScope s_sorted_once) .none kV5 dc5 pm5 an5 cd5 ct5), sl5⟩)
    (c5 : PySem.W.codeIn K cd5 "sorted_once" = true) (k5 : PySem.W.keepIn K (.ref f5) = true)
    (a6 : PySem.W.nsIn K mainGlobals "known_of" = some (some (.ref f6)))
    (l6 : K.lookup f6 = some ⟨oc6, od6, .func (PySem.W.fnOf "known_of" "known_of" (defArgs s_known_of) (defBody s_known_of) (defScope s_known_of) .none kV6 dc6 pm6 an6 cd6 ct6), sl6⟩)
    (c6 : PySem.W.codeIn K cd6 "known_of" = true) (k6 : PySem.W.keepIn K (.ref f6) = true)
    (a7 : PySem.W.nsIn K mainGlobals "cut_name" = some (some (.ref f7)))
    (l7 : K.lookup f7 = some ⟨oc7, od7, .func (PySem.W.fnOf "cut_name" "cut_name" (defArgs s_cut_name) (defBody s_cut_name) (defScope s_cut_name) .none kV7 dc7 pm7 an7 cd7 ct7), sl7⟩)
    (c7 : PySem.W.codeIn K cd7 "cut_name" = true) (k7 : PySem.W.keepIn K (.ref f7) = true)
    (a8 : PySem.W.nsIn K mainGlobals "cut_fact" = some (some (.ref f8)))
    (l8 : K.lookup f8 = some ⟨oc8, od8, .func (PySem.W.fnOf "cut_fact" "cut_fact" (defArgs s_cut_fact) (defBody s_cut_fact) (defScope s_cut_fact) .none kV8 dc8 pm8 an8 cd8 ct8), sl8⟩)
    (c8 : PySem.W.codeIn K cd8 "cut_fact" = true) (k8 : PySem.W.keepIn K (.ref f8) = true)
    (a9 : PySem.W.nsIn K mainGlobals "cut_facts" = some (some (.ref f9)))
    (l9 : K.lookup f9 = some ⟨oc9, od9, .func (PySem.W.fnOf "cut_facts" "cut_facts" (defArgs s_cut_facts) (defBody s_cut_facts) (defScope s_cut_facts) .none kV9 dc9 pm9 an9 cd9 ct9), sl9⟩)
    (c9 : PySem.W.codeIn K cd9 "cut_facts" = true) (k9 : PySem.W.keepIn K (.ref f9) = true)
    (a10 : PySem.W.nsIn K mainGlobals "leads" = some (some (.ref f10)))
    (l10 : K.lookup f10 = some ⟨oc10, od10, .func (PySem.W.fnOf "leads" "leads" (defArgs s_leads) (defBody s_leads) (defScope s_leads) .none kV10 dc10 pm10 an10 cd10 ct10), sl10⟩)
    (c10 : PySem.W.codeIn K cd10 "leads" = true) (k10 : PySem.W.keepIn K (.ref f10) = true)
    (a11 : PySem.W.nsIn K mainGlobals "_law_cell_at" = some (some (.ref f11)))
    (l11 : K.lookup f11 = some ⟨oc11, od11, .func (PySem.W.fnOf "_law_cell_at" "_law_cell_at" (defArgs s_law_cell_at) (defBody s_law_cell_at) (defScope s_law_cell_at) .none kV11 dc11 pm11 an11 cd11 ct11), sl11⟩)
    (c11 : PySem.W.codeIn K cd11 "_law_cell_at" = true) (k11 : PySem.W.keepIn K (.ref f11) = true)
    (a12 : PySem.W.nsIn K mainGlobals "_law_calls" = some (some (.ref f12)))
    (l12 : K.lookup f12 = some ⟨oc12, od12, .func (PySem.W.fnOf "_law_calls" "_law_calls" (defArgs s_law_calls) (defBody s_law_calls) (defScope s_law_calls) .none kV12 dc12 pm12 an12 cd12 ct12), sl12⟩)
    (c12 : PySem.W.codeIn K cd12 "_law_calls" = true) (k12 : PySem.W.keepIn K (.ref f12) = true)
    (a13 : PySem.W.nsIn K mainGlobals "_law_name" = some (some (.ref f13)))
    (l13 : K.lookup f13 = some ⟨oc13, od13, .func (PySem.W.fnOf "_law_name" "_law_name" (defArgs s_law_name) (defBody s_law_name) (defScope s_law_name) .none kV13 dc13 pm13 an13 cd13 ct13), sl13⟩)
    (c13 : PySem.W.codeIn K cd13 "_law_name" = true) (k13 : PySem.W.keepIn K (.ref f13) = true)
    (a14 : PySem.W.nsIn K mainGlobals "_law_fact" = some (some (.ref f14)))
    (l14 : K.lookup f14 = some ⟨oc14, od14, .func (PySem.W.fnOf "_law_fact" "_law_fact" (defArgs s_law_fact) (defBody s_law_fact) (defScope s_law_fact) .none kV14 dc14 pm14 an14 cd14 ct14), sl14⟩)
    (c14 : PySem.W.codeIn K cd14 "_law_fact" = true) (k14 : PySem.W.keepIn K (.ref f14) = true)
    (a15 : PySem.W.nsIn K mainGlobals "_law_last" = some (some (.ref f15)))
    (l15 : K.lookup f15 = some ⟨oc15, od15, .func (PySem.W.fnOf "_law_last" "_law_last" (defArgs s_law_last) (defBody s_law_last) (defScope s_law_last) .none kV15 dc15 pm15 an15 cd15 ct15), sl15⟩)
    (c15 : PySem.W.codeIn K cd15 "_law_last" = true) (k15 : PySem.W.keepIn K (.ref f15) = true)
    (a16 : PySem.W.nsIn K mainGlobals "_law_due" = some (some (.ref f16)))
    (l16 : K.lookup f16 = some ⟨oc16, od16, .func (PySem.W.fnOf "_law_due" "_law_due" (defArgs s_law_due) (defBody s_law_due) (defScope s_law_due) .none kV16 dc16 pm16 an16 cd16 ct16), sl16⟩)
    (c16 : PySem.W.codeIn K cd16 "_law_due" = true) (k16 : PySem.W.keepIn K (.ref f16) = true)
    (a17 : PySem.W.nsIn K mainGlobals "_law_once" = some (some (.ref f17)))
    (l17 : K.lookup f17 = some ⟨oc17, od17, .func (PySem.W.fnOf "_law_once" "_law_once" (defArgs s_law_once) (defBody s_law_once) (defScope s_law_once) .none kV17 dc17 pm17 an17 cd17 ct17), sl17⟩)
    (c17 : PySem.W.codeIn K cd17 "_law_once" = true) (k17 : PySem.W.keepIn K (.ref f17) = true)
    (a18 : PySem.W.nsIn K mainGlobals "law" = some (some (.ref f18)))
    (l18 : K.lookup f18 = some ⟨oc18, od18, .func (PySem.W.fnOf "law" "law" (defArgs s_law) (defBody s_law) (defScope s_law) .none kV18 dc18 pm18 an18 cd18 ct18), sl18⟩)
    (c18 : PySem.W.codeIn K cd18 "law" = true) (k18 : PySem.W.keepIn K (.ref f18) = true)
    (z0 : PySem.W.nsIn K mainGlobals "all" = some none)
    (z1 : PySem.W.nsIn K mainGlobals "isinstance" = some none)
    (z2 : PySem.W.nsIn K mainGlobals "len" = some none)
    (z3 : PySem.W.nsIn K mainGlobals "list" = some none)
    (z4 : PySem.W.nsIn K mainGlobals "max" = some none)
    (z5 : PySem.W.nsIn K mainGlobals "min" = some none)
    (z6 : PySem.W.nsIn K mainGlobals "range" = some none)
    (z7 : PySem.W.nsIn K mainGlobals "sorted" = some none)
    (z8 : PySem.W.nsIn K mainGlobals "tuple" = some none) :
    ∃ fd : FuncData, (∀ (s : Shared) (v : Value), BindsTo s fd ⟨[v], []⟩ [("_law_script", v)]) ∧ ∀ base : Heap, K.In base → base.Ns mainGlobals mg → FnOk l.prog w K mg base CX0 5 fa fd ["_law_script"] (spD K 1 f_law) := by
  have e := hfa.symm.trans (PySem.W.mg_of X G a18)
  cases e
  have B : Blt mg := ⟨PySem.W.mg_none_of X G z0, PySem.W.mg_none_of X G z1, PySem.W.mg_none_of X G z2, PySem.W.mg_none_of X G z3, PySem.W.mg_none_of X G z4, PySem.W.mg_none_of X G z5, PySem.W.mg_none_of X G z6, PySem.W.mg_none_of X G z7, PySem.W.mg_none_of X G z8⟩
  have F0 := fun_mk (st := s_cut_calls) l0 c0 k0
  have F1 := fun_mk (st := s_thing_at) l1 c1 k1
  have F2 := fun_mk (st := s_reach_fact) l2 c2 k2
  have F3 := fun_mk (st := s_goes_fact) l3 c3 k3
  have F4 := fun_mk (st := s_holds_fact) l4 c4 k4
  have F5 := fun_mk (st := s_sorted_once) l5 c5 k5
  have F6 := fun_mk (st := s_known_of) l6 c6 k6
  have F7 := fun_mk (st := s_cut_name) l7 c7 k7
  have F8 := fun_mk (st := s_cut_fact) l8 c8 k8
  have F9 := fun_mk (st := s_cut_facts) l9 c9 k9
  have F10 := fun_mk (st := s_leads) l10 c10 k10
  have F11 := fun_mk (st := s_law_cell_at) l11 c11 k11
  have F12 := fun_mk (st := s_law_calls) l12 c12 k12
  have F13 := fun_mk (st := s_law_name) l13 c13 k13
  have F14 := fun_mk (st := s_law_fact) l14 c14 k14
  have F15 := fun_mk (st := s_law_last) l15 c15 k15
  have F16 := fun_mk (st := s_law_due) l16 c16 k16
  have F17 := fun_mk (st := s_law_once) l17 c17 k17
  have F18 := fun_mk (st := s_law) l18 c18 k18
  refine ⟨PySem.W.fnOf "law" "law" (defArgs s_law) (defBody s_law) (defScope s_law) .none kV18 dc18 pm18 an18 cd18 ct18, fun s v => .of_eq rfl, fun base _ _ => ?_⟩
  have O_cut_calls := own_cut_calls (P := l.prog) (w := w) (base := base) F0 B (PySem.W.mg_of X G a0) 
  have O_thing_at := own_thing_at (P := l.prog) (w := w) (base := base) F1 B (PySem.W.mg_of X G a1) 
  have O_reach_fact := own_reach_fact (P := l.prog) (w := w) (base := base) F2 B (PySem.W.mg_of X G a2) 
  have O_goes_fact := own_goes_fact (P := l.prog) (w := w) (base := base) F3 B (PySem.W.mg_of X G a3) 
  have O_holds_fact := own_holds_fact (P := l.prog) (w := w) (base := base) F4 B (PySem.W.mg_of X G a4) 
  have O_sorted_once := own_sorted_once (P := l.prog) (w := w) (base := base) F5 B (PySem.W.mg_of X G a5) 
  have O_known_of := own_known_of (P := l.prog) (w := w) (base := base) F6 B (PySem.W.mg_of X G a6) 
  have O_cut_name := own_cut_name (P := l.prog) (w := w) (base := base) F7 B (PySem.W.mg_of X G a7) O_cut_calls
  have O_cut_fact := own_cut_fact (P := l.prog) (w := w) (base := base) F8 B (PySem.W.mg_of X G a8) O_cut_calls O_cut_name O_goes_fact O_holds_fact O_reach_fact O_thing_at
  have O_cut_facts := own_cut_facts (P := l.prog) (w := w) (base := base) F9 B (PySem.W.mg_of X G a9) O_cut_fact O_sorted_once
  have O_leads := own_leads (P := l.prog) (w := w) (base := base) F10 B (PySem.W.mg_of X G a10) O_cut_fact O_known_of
  have O_law_cell_at := own_law_cell_at (P := l.prog) (w := w) (base := base) F11 B (PySem.W.mg_of X G a11) 
  have O_law_calls := own_law_calls (P := l.prog) (w := w) (base := base) F12 B (PySem.W.mg_of X G a12) 
  have O_law_name := own_law_name (P := l.prog) (w := w) (base := base) F13 B (PySem.W.mg_of X G a13) O_law_calls
  have O_law_fact := own_law_fact (P := l.prog) (w := w) (base := base) F14 B (PySem.W.mg_of X G a14) O_law_calls O_law_name
  have O_law_last := own_law_last (P := l.prog) (w := w) (base := base) F15 B (PySem.W.mg_of X G a15) 
  have O_law_due := own_law_due (P := l.prog) (w := w) (base := base) F16 B (PySem.W.mg_of X G a16) O_law_last
  have O_law_once := own_law_once (P := l.prog) (w := w) (base := base) F17 B (PySem.W.mg_of X G a17) 
  exact fn_law F18 B O_law_cell_at O_law_due O_law_fact O_law_once O_cut_fact O_cut_facts O_leads
theorem bits_B : ∃ B : Nat, (∀ i : Int, okBits i = true ↔ i.natAbs < B) ∧ 8 < B := by
  refine ⟨2 ^ (2 ^ 20), fun i => ?_, ?_⟩
  · unfold okBits Builtin.Int.intBits
    rw [decide_eq_true_iff]
    split
    · rename_i h
      have : i = 0 := by simpa using h
      subst this
      simp only [Int.natAbs_zero]
      exact ⟨fun _ => Nat.two_pow_pos _, fun _ => Nat.zero_le _⟩
    · rename_i h
      have : i.natAbs ≠ 0 := by simpa using h
      rw [Nat.succ_le_iff]
      exact Nat.log2_lt this
  · exact Nat.lt_of_lt_of_le (show 8 < 2 ^ 4 by decide) (Nat.pow_le_pow_right (by decide) (by decide))
theorem eqvS (a b : Str) : PyData.eqv (.str a) (.str b) = (a == b) := by rw [PyData.eqv]
theorem eqvI (a b : Int) : PyData.eqv (.int a) (.int b) = (a == b) := by rw [PyData.eqv]
/-- the facts -/
inductive Fc where
  | reach (b : Str) (cs : List Int)
  | goes (r : Int) (cs : List Int) (g : Str) (cs2 : List Int)
  | holds (x : Str) (y : Sum Str Int) (cs : List Int) (z : Option Str) (r : Int) (cs2 : List Int)
def iT (cs : List Int) : PyData := .tuple (cs.map .int)
def yD : Sum Str Int → PyData
  | .inl b => .str b
  | .inr r => .int r
def zD : Option Str → List PyData
  | none => []
  | some z => [.str z]
def nmD (x : Str) (y : Sum Str Int) (cs : List Int) (z : Option Str) : PyData := .tuple (.str x :: yD y :: iT cs :: zD z)
def Fc.d : Fc → PyData
  | .reach b cs => .tuple [.str "reach", .str b, iT cs]
  | .goes r cs g cs2 => .tuple [.str "goes", .int r, iT cs, .str g, iT cs2]
  | .holds x y cs z r cs2 => .tuple [.str "holds", nmD x y cs z, .tuple [.int r, iT cs2]]
def intly (x : Str) : Bool := x == ("each" : Str) || x == ("field" : Str) || x == ("kept" : Str)
def Fc.Ok : Fc → Prop
  | .reach b cs => PyData.strOk b = true ∧ cs.length ≤ 4
  | .goes _ cs g cs2 => PyData.strOk g = true ∧ cs.length ≤ 4 ∧ cs2.length ≤ 4
  | .holds x y cs z _ cs2 => PyData.strOk x = true ∧ (∀ b, y = .inl b → PyData.strOk b = true ∧ intly x = false) ∧ (∀ r, y = .inr r → intly x = true) ∧ (∀ s, z = some s → PyData.strOk s = true) ∧ cs.length ≤ 4 ∧ cs2.length ≤ 4
def lastI (m : Nat) (cs : List Int) : List Int := cs.drop (cs.length - m)
def Fc.cut (m : Nat) : Fc → Fc
  | .reach b cs => .reach b (lastI m cs)
  | .goes r cs g cs2 => .goes r (lastI m cs) g (lastI m cs2)
  | .holds x y cs z r cs2 => .holds x y (lastI m cs) z r (lastI m cs2)
theorem lastI_len (m : Nat) (cs : List Int) : (lastI m cs).length ≤ cs.length := by simp [lastI]
theorem Fc.Ok.cut {F : Fc} (h : F.Ok) (m : Nat) : (F.cut m).Ok := by
  cases F with
  | reach b cs => exact ⟨h.1, Nat.le_trans (lastI_len m cs) h.2⟩
  | goes r cs g cs2 => exact ⟨h.1, Nat.le_trans (lastI_len m cs) h.2.1, Nat.le_trans (lastI_len m cs2) h.2.2⟩
  | holds x y cs z r cs2 =>
    obtain ⟨a1, a2, a3, a4, a5, a6⟩ := h
    exact ⟨a1, a2, a3, a4, Nat.le_trans (lastI_len m cs) a5, Nat.le_trans (lastI_len m cs2) a6⟩
theorem last_last (m k : Nat) (cs : List Int) (h : k ≤ m) : lastI k (lastI m cs) = lastI k cs := by
  simp only [lastI, List.length_drop, List.drop_drop]
  congr 1
  omega
theorem cut_cut (m k : Nat) (F : Fc) (h : k ≤ m) : (F.cut m).cut k = F.cut k := by
  cases F <;> simp [Fc.cut, last_last _ _ _ h]
theorem ints_hk : ∀ cs : List Int, TK.hkDs (cs.map .int) = true
  | [] => rfl
  | c :: cs => by simp [TK.hkDs, TK.hkD, ints_hk cs]
theorem ints_lay : ∀ cs : List Int, PyData.canLayAll0 (cs.map .int) = true ∧ PyData.depthAll (cs.map .int) = 0
  | [] => ⟨rfl, rfl⟩
  | c :: cs => by simp [PyData.canLayAll0, PyData.canLay0, PyData.depthAll, PyData.depth, ints_lay cs]
theorem iT_hk (cs : List Int) : TK.hkD (iT cs) = true := by simp [iT, TK.hkD, ints_hk]
theorem iT_lay (cs : List Int) : (iT cs).canLay0 = true ∧ (iT cs).depth = 1 := by simp [iT, PyData.canLay0, PyData.depth, ints_lay]
theorem Fc.hk (F : Fc) : TK.hkD F.d = true := by
  cases F with
  | reach b cs => simp [Fc.d, TK.hkD, TK.hkDs, iT_hk]
  | goes r cs g cs2 => simp [Fc.d, TK.hkD, TK.hkDs, iT_hk]
  | holds x y cs z r cs2 => cases y <;> cases z <;> simp [Fc.d, nmD, yD, zD, TK.hkD, TK.hkDs, iT_hk]
theorem Fc.Ok.lay {F : Fc} (h : F.Ok) : F.d.canLay0 = true ∧ F.d.depth ≤ 3 := by
  cases F with
  | reach b cs =>
    have := iT_lay cs
    simp [Fc.d, PyData.canLay0, PyData.canLayAll0, PyData.depth, PyData.depthAll, strOk_ofString, h.1, this.1, this.2]
  | goes r cs g cs2 =>
    have := iT_lay cs
    have t2 := iT_lay cs2
    simp [Fc.d, PyData.canLay0, PyData.canLayAll0, PyData.depth, PyData.depthAll, strOk_ofString, h.1, this.1, this.2, t2.1, t2.2]
  | holds x y cs z r cs2 =>
    have := iT_lay cs
    have t2 := iT_lay cs2
    obtain ⟨a1, a2, a3, a4, a5, a6⟩ := h
    cases y with
    | inl b => cases z with
      | none => simp [Fc.d, nmD, yD, zD, PyData.canLay0, PyData.canLayAll0, PyData.depth, PyData.depthAll, strOk_ofString, a1, (a2 b rfl).1, this.1, this.2, t2.1, t2.2]
      | some s => simp [Fc.d, nmD, yD, zD, PyData.canLay0, PyData.canLayAll0, PyData.depth, PyData.depthAll, strOk_ofString, a1, (a2 b rfl).1, a4 s rfl, this.1, this.2, t2.1, t2.2]
    | inr b => cases z with
      | none => simp [Fc.d, nmD, yD, zD, PyData.canLay0, PyData.canLayAll0, PyData.depth, PyData.depthAll, strOk_ofString, a1, this.1, this.2, t2.1, t2.2]
      | some s => simp [Fc.d, nmD, yD, zD, PyData.canLay0, PyData.canLayAll0, PyData.depth, PyData.depthAll, strOk_ofString, a1, a4 s rfl, this.1, this.2, t2.1, t2.2]
theorem Fc.head (F : Fc) : headS F.d = true := by cases F <;> rfl
theorem Fc.Ok.key {F : Fc} (h : F.Ok) : isKey F.d = true := by
  have h1 := F.hk
  have h2 := h.lay
  unfold isKey
  simp only [Bool.and_eq_true, decide_eq_true_eq]
  exact ⟨⟨⟨by cases F <;> rfl, h1⟩, h2.1⟩, by omega⟩
theorem Fc.Ok.shaped {F : Fc} (h : F.Ok) : SeqAt.shaped F.d = true := by
  have h2 := h.lay
  simp only [SeqAt.shaped, Bool.and_eq_true, decide_eq_true_eq]
  exact ⟨h2.1, by omega⟩

/-! what can be compared -/
theorem can_ss (a b : Str) : canD (.str a) (.str b) = true := by rw [canD]
theorem can_ii (a b : Int) : canD (.int a) (.int b) = true := by rw [canD]
theorem can_tt (a b : List PyData) : canD (.tuple a) (.tuple b) = canDs a b := by rw [canD]
theorem cans_nil (b : List PyData) : canDs [] b = true := by cases b <;> rw [canDs] <;> simp
theorem cans_nil' (b : List PyData) : canDs b [] = true := by cases b <;> rw [canDs] <;> simp
theorem cans_both {x y : PyData} {xs ys : List PyData} (h1 : x ≠ y → canD x y = true) (h2 : x = y → canDs xs ys = true) : canDs (x :: xs) (y :: ys) = true := by
  rw [canDs_cons]
  by_cases q : x = y
  · rw [if_pos q]; exact h2 q
  · rw [if_neg q]; exact h1 q
theorem cans_ints : ∀ a b : List Int, canDs (a.map .int) (b.map .int) = true
  | [], b => cans_nil _
  | _ :: _, [] => cans_nil' _
  | a :: as, b :: bs => cans_both (fun _ => can_ii _ _) fun _ => cans_ints as bs
theorem can_iT (a b : List Int) : canD (iT a) (iT b) = true := by rw [iT, iT, can_tt]; exact cans_ints a b
theorem can_z (a b : Option Str) : canDs (zD a) (zD b) = true := by
  cases a with
  | none => exact cans_nil _
  | some a => cases b with
    | none => exact cans_nil' _
    | some b => exact cans_both (fun _ => can_ss _ _) fun _ => cans_nil _
theorem can_name {x x' : Str} {y y' : Sum Str Int} {cs cs' : List Int} {z z' : Option Str} (h1 : ∀ b, y = .inl b → intly x = false) (h2 : ∀ r, y = .inr r → intly x = true) (g1 : ∀ b, y' = .inl b → intly x' = false) (g2 : ∀ r, y' = .inr r → intly x' = true) : canD (nmD x y cs z) (nmD x' y' cs' z') = true := by
  rw [nmD, nmD, can_tt]
  refine cans_both (fun _ => can_ss _ _) fun e => ?_
  have e : x = x' := by injection e
  subst e
  refine cans_both (fun _ => ?_) fun _ => cans_both (fun _ => can_iT _ _) fun _ => can_z _ _
  cases y with
  | inl b => cases y' with
    | inl b' => exact can_ss _ _
    | inr r' => have := h1 b rfl; rw [g2 r' rfl] at this; cases this
  | inr r => cases y' with
    | inl b' => have := g1 b' rfl; rw [h2 r rfl] at this; cases this
    | inr r' => exact can_ii _ _
theorem Fc.can {F G : Fc} (hF : F.Ok) (hG : G.Ok) : canD F.d G.d = true := by
  cases F <;> cases G <;> (rw [Fc.d, Fc.d, can_tt]; refine cans_both (fun _ => can_ss _ _) fun e => ?_) <;> first
    | (exfalso; injection e with e; revert e; rw [eq_ofString]; decide)
    | skip
  · exact cans_both (fun _ => can_ss _ _) fun _ => cans_both (fun _ => can_iT _ _) fun _ => cans_nil _
  · exact cans_both (fun _ => can_ii _ _) fun _ => cans_both (fun _ => can_iT _ _) fun _ => cans_both (fun _ => can_ss _ _) fun _ => cans_both (fun _ => can_iT _ _) fun _ => cans_nil _
  · refine cans_both (fun _ => can_name (fun b q => (hF.2.1 b q).2) hF.2.2.1 (fun b q => (hG.2.1 b q).2) hG.2.2.1) fun _ => cans_both (fun _ => ?_) fun _ => cans_nil _
    rw [can_tt]
    exact cans_both (fun _ => can_ii _ _) fun _ => cans_both (fun _ => can_iT _ _) fun _ => cans_nil _
/-! the cuts -/
theorem sIx_some (n d : Nat) (v : Int) : HT.sIx n d (some v) = if v < 0 then (v + (n : Int)).toNat else min v.toNat n := rfl
theorem sIx_last (n m : Nat) : HT.sIx n 0 (some (if (n : Int) - m > 0 then (n : Int) - m else 0)) = n - m := by
  rw [sIx_some]
  by_cases q : (n : Int) - m > 0
  · rw [if_pos q, if_neg (by omega)]; omega
  · rw [if_neg q, if_neg (by omega)]; omega
theorem cutL_from {α : Type} (l : List α) (k : Nat) (h : HT.sIx l.length 0 (some v) = k) : cutL l (some v) none = l.drop k := by
  unfold cutL
  rw [h]
  simp only [HT.sIx]
  rw [List.take_of_length_le]
  simp
theorem calls_cut (cs : List Int) (m : Nat) : f_cut_calls [iT cs, .int m] = some (iT (lastI m cs)) := by
  have e := cutL_from (cs.map PyData.int) (cs.length - m) (v := if (cs.length : Int) - m > 0 then (cs.length : Int) - m else 0) (by rw [List.length_map]; exact sIx_last _ _)
  have e2 : iT (lastI m cs) = .tuple ((cs.map PyData.int).drop (cs.length - m)) := by simp [iT, lastI, List.map_drop]
  rw [e2, ← e]
  simp [f_cut_calls, runD, g_cut_calls, startD, sRet, dCall, dTupleOf, aCons, aNil, dSlice, dVar, oSome, oNone, dMax, dC, d2, dSub, dI, dLen, dSl, iT]
theorem calls_last (cs : List Int) (m : Nat) : f_law_last [iT cs, .int m] = some (iT (lastI m cs)) := by
  by_cases q : cs.length ≤ m
  · have e2 : lastI m cs = cs := by simp [lastI, Nat.sub_eq_zero_of_le q]
    have q' : (cs.length : Int) ≤ m := by omega
    rw [e2]
    simp [f_law_last, runD, g_law_last, startD, sSeq, sIf, fB, d2, dGe, dI, dVar, dCall, dLen, aCons, aNil, sRet, iT, q']
  · have q' : ¬ (cs.length : Int) ≤ m := by omega
    have e := cutL_from (cs.map PyData.int) (cs.length - m) (v := (cs.length : Int) - m) (by rw [List.length_map, sIx_some, if_neg (by omega)]; omega)
    have e2 : iT (lastI m cs) = .tuple ((cs.map PyData.int).drop (cs.length - m)) := by simp [iT, lastI, List.map_drop]
    rw [e2, ← e]
    simp [f_law_last, runD, g_law_last, startD, sSeq, sIf, fB, d2, dGe, dI, dVar, dCall, dLen, aCons, aNil, sRet, iT, q', sNil, dSlice, oSome, oNone, dSub, dSl]

theorem tup_iT (cs : List Int) : dTupleOf [iT cs] = some (iT cs) := rfl
theorem cut0 {α : Type} (a b c : α) (l : List α) : cutL (a :: b :: c :: l) none (some 2) = [a, b] := by simp [cutL, HT.sIx]
theorem cut3 {α : Type} (a b c : α) (l : List α) : cutL (a :: b :: c :: l) (some 3) none = l := by
  rw [cutL_from _ 3 (by rw [sIx_some, if_neg (by omega)]; simp)]; rfl
theorem at0 {α : Type} (a : α) (l : List α) : atI (a :: l) 0 = some a := by
  have : (0 : Int) < ((l.length : Nat) : Int) + 1 := by omega
  simp [atI, ixN, this]
theorem at1 {α : Type} (a b : α) (l : List α) : atI (a :: b :: l) 1 = some b := by
  have : (1 : Int) < ((l.length : Nat) : Int) + 1 + 1 := by omega
  simp [atI, ixN, this]
theorem at2 {α : Type} (a b c : α) (l : List α) : atI (a :: b :: c :: l) 2 = some c := by
  have : (2 : Int) < ((l.length : Nat) : Int) + 1 + 1 + 1 := by omega
  simp [atI, ixN, this]
theorem at3 {α : Type} (a b c d : α) (l : List α) : atI (a :: b :: c :: d :: l) 3 = some d := by
  have : (3 : Int) < ((l.length : Nat) : Int) + 1 + 1 + 1 + 1 := by omega
  simp [atI, ixN, this]
theorem at4 {α : Type} (a b c d e : α) (l : List α) : atI (a :: b :: c :: d :: e :: l) 4 = some e := by
  have : (4 : Int) < ((l.length : Nat) : Int) + 1 + 1 + 1 + 1 + 1 := by omega
  simp [atI, ixN, this]
theorem ix_tup (l : List PyData) (i : Int) : dIx (.tuple l) (.int i) = atI l i := rfl
theorem zlen (z : Option Str) : (zD z).length ≤ 1 := by cases z <;> simp [zD]
theorem name_cut (x : Str) (y : Sum Str Int) (cs : List Int) (z : Option Str) (m : Nat) : f_cut_name [nmD x y cs z, .int m] = some (nmD x y (lastI m cs) z) := by
  have h1 := calls_cut cs m
  have hz := zlen z
  have hz2 : 2 + 1 + (zD z).length ≤ 16777216 := by omega
  simp only [f_cut_name, runD, g_cut_name, startD, sRet, d2, dSlice, dVar, oSome, oNone, dC, dTup, dFn, aCons, aNil, nmD, List.map_cons, List.map_nil, List.length_cons, List.length_nil, List.cons_append, List.nil_append, List.getElem?_cons_zero, List.getElem?_cons_succ, Option.join_some, Option.bind_some, Option.map_some, dSl, cut0, cut3, ix_tup, at2, h1, dAdd, sizeLine_eq, Nat.reduceAdd, Nat.reduceLeDiff, if_true, hz2, ↓reduceIte]

theorem strEq (a b : String) : dEq (.str (Str.ofString a)) (.str (Str.ofString b)) = some (.bool (a == b)) := by
  rw [dEq, if_pos ⟨by simp [SeqAt.shaped, PyData.canLay0, PyData.depth, strOk_ofString], by simp [SeqAt.shaped, PyData.canLay0, PyData.depth, strOk_ofString]⟩, eqvS, beq_ofString]
theorem fact_cut {F : Fc} (h : F.Ok) (m : Nat) : f_cut_fact [F.d, .int m] = some (F.cut m).d := by
  cases F with
  | reach b cs =>
    have h1 := calls_cut cs m
    simp [f_cut_fact, runD, g_cut_fact, startD, sSeq, sIf, fB, d2, strEq, ix_tup, at0, at1, at2, dVar, dC, Fc.d, Fc.cut, sRet, dFn, aCons, aNil, h1, f_reach_fact, g_reach_fact, dTup, dCall, tup_iT, sizeLine_eq]
  | goes r cs g cs2 =>
    have h1 := calls_cut cs m
    have h2 := calls_cut cs2 m
    simp [f_cut_fact, runD, g_cut_fact, startD, sSeq, sIf, sNil, fB, d2, strEq, ix_tup, at0, at1, at2, at3, at4, dVar, dC, Fc.d, Fc.cut, sRet, dFn, aCons, aNil, h1, h2, f_goes_fact, g_goes_fact, dTup, dCall, tup_iT, sizeLine_eq]
  | holds x y cs z r cs2 =>
    have h1 := name_cut x y cs z m
    have h2 := calls_cut cs2 m
    simp [f_cut_fact, runD, g_cut_fact, startD, sSeq, sIf, sNil, fB, d2, strEq, ix_tup, at0, at1, at2, dVar, dC, Fc.d, Fc.cut, sRet, dFn, aCons, aNil, h1, h2, f_holds_fact, g_holds_fact, f_thing_at, g_thing_at, sAsg, bName, dTup, dCall, tup_iT, sizeLine_eq]
theorem fact_due {F : Fc} (h : F.Ok) (m : Nat) : f_law_due [F.d, .int m] = some (F.cut m).d := by
  cases F with
  | reach b cs =>
    have h1 := calls_last cs m
    simp [f_law_due, runD, g_law_due, startD, sSeq, sIf, fB, d2, strEq, ix_tup, at0, at1, at2, dVar, dC, Fc.d, Fc.cut, sRet, dFn, aCons, aNil, h1, dTup, sizeLine_eq]
  | goes r cs g cs2 =>
    have h1 := calls_last cs m
    have h2 := calls_last cs2 m
    simp [f_law_due, runD, g_law_due, startD, sSeq, sIf, sNil, fB, d2, strEq, ix_tup, at0, at1, at2, at3, at4, dVar, dC, Fc.d, Fc.cut, sRet, dFn, aCons, aNil, h1, h2, dTup, sizeLine_eq]
  | holds x y cs z r cs2 =>
    have h1 := calls_last cs m
    have h2 := calls_last cs2 m
    have hz := zlen z
    have hz2 : 3 + (zD z).length ≤ 16777216 := by omega
    simp [f_law_due, runD, g_law_due, startD, sSeq, sIf, sNil, fB, d2, strEq, ix_tup, at0, at1, at2, dVar, dC, Fc.d, Fc.cut, nmD, sRet, dFn, aCons, aNil, h1, h2, sAsg, bName, dTup, dLst, dCall, dTupleOf, dListOf, dAdd, dSlice, oSome, oNone, dSl, cut3, sizeLine_eq, hz2]
/-! the calls, the names, the facts that the law draws -/
theorem calls_loop (B : Nat) (hB : (∀ i : Int, okBits i = true ↔ i.natAbs < B) ∧ 8 < B) : ∀ (ks : List Int) (c : Int) (l : List Int) (k : Option PyData), c.natAbs < B → (∀ k ∈ ks, 0 ≤ k ∧ k ≤ 4) → l.length + ks.length ≤ 4 →
    ∃ (c' : Int) (l' : List Int) (k' : Option PyData), forD (bdT (.one 2)) g_law_calls_L0 (ks.map .int) [some (.int c), some (.list (l.map .int)), k] = some (.nx [some (.int c'), some (.list (l'.map .int)), k']) ∧ l'.length = l.length + ks.length
  | [], c, l, k, _, _, _ => ⟨c, l, k, rfl, by simp⟩
  | i :: ks, c, l, k, hc, hk, hl => by
    simp only [List.length_cons] at hl
    have h1 : (c / 5).natAbs < B := by omega
    have hi := hk i (by simp)
    obtain ⟨c', l', k', e, q⟩ := calls_loop B hB ks (c / 5) (l ++ [(c / 5 * 48271 + 7 * i) % 1000000000]) (some (.int i)) h1 (fun x hx => hk x (by simp [hx])) (by simp; omega)
    refine ⟨c', l', k', ?_, by simp at q ⊢; omega⟩
    have o1 : okBits (c / 5) = true := (hB.1 _).mpr h1
    have o2 : okBits 48271 = true := by decide +kernel
    have o3 : okBits 7 = true := by decide +kernel
    have o4 : okBits i = true := (hB.1 _).mpr (by omega)
    have hz : l.length < 16777216 := by omega
    rw [List.map_cons, forD]
    have step : ((bdT (.one 2) (.int i) [some (.int c), some (.list (l.map .int)), k]).bind g_law_calls_L0) = some (.nx [some (.int (c / 5)), some (.list ((l ++ [(c / 5 * 48271 + 7 * i) % 1000000000]).map .int)), some (.int i)]) := by
      simp [bdT, g_law_calls_L0, sSeq, sSetO, sAppend, d2, dDiv, dMul, dAdd, dMod, dPow, dI, dVar, dC, eraseO, o1, o2, o3, o4, sizeLine_eq, hz]
    rw [step]
    exact e
theorem ints_map (n : Nat) : intsD 0 n = ((List.range n).map fun (k : Nat) => (k : Int)).map .int := by
  simp [intsD, List.map_map, Function.comp_def]
theorem calls_is (B : Nat) (hB : (∀ i : Int, okBits i = true ↔ i.natAbs < B) ∧ 8 < B) (c : Int) (hc : c.natAbs < B) : ∃ cs, f_law_calls [.int c] = some (iT cs) ∧ cs.length ≤ 4 := by
  have h5 : 0 ≤ c % 5 ∧ c % 5 < 5 := by omega
  obtain ⟨c', l', k', e, q⟩ := calls_loop B hB ((List.range (c % 5).toNat).map fun (k : Nat) => (k : Int)) c [] none hc (fun k hk => by
    obtain ⟨j, hj, rfl⟩ := List.mem_map.mp hk
    have := List.mem_range.mp hj
    omega) (by simp; omega)
  refine ⟨l', ?_, by simp at q; omega⟩
  rw [← ints_map] at e
  have r1 : -4611686018427387904 ≤ c % 5 ∧ c % 5 < 4611686018427387904 := by omega
  have e' : forD (bdT (.one 2)) g_law_calls_L0 (intsD 0 (c % 5).toNat) [some (.int c), some (.list []), none] = some (.nx [some (.int c'), some (.list (l'.map .int)), k']) := e
  simp [f_law_calls, runD, g_law_calls, startD, sSeq, sNewL, aNil, sForO, qRange1, d2, dMod, dI, dVar, dC, eraseO, sizeLine_eq, r1, e', sRet, dCall, dTupleOf, aCons, iT]
theorem pick3 (a b c : String) (i : Int) : ∃ z : String, atI [PyData.str (Str.ofString a), .str (Str.ofString b), .str (Str.ofString c)] (i % 3) = some (.str (Str.ofString z)) := by
  have h : i % 3 = 0 ∨ i % 3 = 1 ∨ i % 3 = 2 := by omega
  rcases h with h | h | h <;> rw [h]
  · exact ⟨a, rfl⟩
  · exact ⟨b, rfl⟩
  · exact ⟨c, rfl⟩
theorem intEq (a b : Int) : dEq (.int a) (.int b) = some (.bool (a == b)) := by
  rw [dEq, if_pos ⟨by simp [SeqAt.shaped, PyData.canLay0, PyData.depth], by simp [SeqAt.shaped, PyData.canLay0, PyData.depth]⟩, eqvI]
theorem ix_lst (l : List PyData) (i : Int) : dIx (.list l) (.int i) = atI l i := rfl
theorem name_is (B : Nat) (hB : (∀ i : Int, okBits i = true ↔ i.natAbs < B) ∧ 8 < B) (c : Int) (hc : c.natAbs < B) : ∃ (x : Str) (y : Sum Str Int) (cs : List Int) (z : Option Str), f_law_name [.int c] = some (nmD x y cs z) ∧ PyData.strOk x = true ∧ (∀ b, y = .inl b → PyData.strOk b = true ∧ intly x = false) ∧ (∀ r, y = .inr r → intly x = true) ∧ (∀ s, z = some s → PyData.strOk s = true) ∧ cs.length ≤ 4 := by
  obtain ⟨cs, ecs, hcs⟩ := calls_is B hB (c / 6) (by omega)
  obtain ⟨b, eb⟩ := pick3 "main" "fa" "ka.m" (c / 6)
  obtain ⟨w, ew⟩ := pick3 "x" "self" "w.f" (c / 18)
  have i1 : intly "local" = false := by simp [intly, beq_ofString]
  have i2 : intly "given" = false := by simp [intly, beq_ofString]
  have i3 : intly "each" = true := by simp [intly, beq_ofString]
  have i4 : intly "field" = true := by simp [intly, beq_ofString]
  have i5 : intly "kept" = true := by simp [intly, beq_ofString]
  have sk := fun s => strOk_ofString s
  have h : c % 6 = 0 ∨ c % 6 = 1 ∨ c % 6 = 2 ∨ c % 6 = 3 ∨ c % 6 = 4 ∨ c % 6 = 5 := by omega
  rcases h with h | h | h | h | h | h
  · refine ⟨"local", .inl (Str.ofString b), cs, some (Str.ofString w), ?_, sk _, fun b' q => (by cases q; exact ⟨sk _, i1⟩), fun r q => (by cases q), fun s q => (by cases q; exact sk _), hcs⟩
    simp [f_law_name, runD, g_law_name, startD, sSeq, sAsg, bName, dFn, aCons, aNil, d2, dDiv, dMod, dPow, dI, dVar, dC, ecs, sIf, fB, intEq, h, sRet, dTup, dLst, ix_lst, eb, ew, sizeLine_eq, nmD, yD, zD]
  · refine ⟨"given", .inl (Str.ofString b), cs, none, ?_, sk _, fun b' q => (by cases q; exact ⟨sk _, i2⟩), fun r q => (by cases q), fun s q => (by cases q), hcs⟩
    simp [f_law_name, runD, g_law_name, startD, sSeq, sAsg, bName, dFn, aCons, aNil, d2, dDiv, dMod, dPow, dI, dVar, dC, ecs, sIf, fB, intEq, h, sNil, sRet, dTup, dLst, ix_lst, eb, ew, sizeLine_eq, nmD, yD, zD]
  · refine ⟨"each", .inr (c / 30 % 1000000000), cs, none, ?_, sk _, fun b' q => (by cases q), fun r q => i3, fun s q => (by cases q), hcs⟩
    simp [f_law_name, runD, g_law_name, startD, sSeq, sAsg, bName, dFn, aCons, aNil, d2, dDiv, dMod, dPow, dI, dVar, dC, ecs, sIf, fB, intEq, h, sNil, sRet, dTup, dLst, ix_lst, sizeLine_eq, nmD, yD, zD]
  · have h3 : c % 3 = 0 := by omega
    refine ⟨"field", .inr (c / 30 % 1000000000), cs, some (Str.ofString "f"), ?_, sk _, fun b' q => (by cases q), fun r q => i4, fun s q => (by cases q; exact sk _), hcs⟩
    simp [f_law_name, runD, g_law_name, startD, sSeq, sAsg, bName, dFn, aCons, aNil, d2, dDiv, dMod, dPow, dI, dVar, dC, ecs, sIf, fB, intEq, h, h3, sNil, sRet, dTup, dLst, ix_lst, at0, sizeLine_eq, nmD, yD, zD]
  · have h3 : c % 3 = 1 := by omega
    refine ⟨"kept", .inr (c / 30 % 1000000000), cs, some (Str.ofString "k"), ?_, sk _, fun b' q => (by cases q), fun r q => i5, fun s q => (by cases q; exact sk _), hcs⟩
    simp [f_law_name, runD, g_law_name, startD, sSeq, sAsg, bName, dFn, aCons, aNil, d2, dDiv, dMod, dPow, dI, dVar, dC, ecs, sIf, fB, intEq, h, h3, sNil, sRet, dTup, dLst, ix_lst, at1, sizeLine_eq, nmD, yD, zD]
  · have h3 : c % 3 = 2 := by omega
    refine ⟨"local", .inl (Str.ofString "fb"), cs, some (Str.ofString "y"), ?_, sk _, fun b' q => (by cases q; exact ⟨sk _, i1⟩), fun r q => (by cases q), fun s q => (by cases q; exact sk _), hcs⟩
    simp [f_law_name, runD, g_law_name, startD, sSeq, sAsg, bName, dFn, aCons, aNil, d2, dDiv, dMod, dPow, dI, dVar, dC, ecs, sIf, fB, intEq, h, h3, sNil, sRet, dTup, dLst, ix_lst, at2, sizeLine_eq, nmD, yD, zD]
theorem fact_is (c : Int) (hc : okBits c = true) : ∃ F : Fc, F.Ok ∧ f_law_fact [.int c] = some F.d := by
  obtain ⟨B, hB⟩ := bits_B
  have hc' : c.natAbs < B := (hB.1 c).mp hc
  have h8 := hB.2
  have h : c % 4 = 0 ∨ c % 4 = 1 ∨ (¬ c % 4 = 0 ∧ ¬ c % 4 = 1) := by omega
  rcases h with h | h | ⟨h0, h1⟩
  · obtain ⟨cs, ecs, hcs⟩ := calls_is B hB (c / 12) (by omega)
    obtain ⟨b, eb⟩ := pick3 "main" "fa" "ka.m" (c / 4)
    refine ⟨.reach (Str.ofString b) cs, ⟨strOk_ofString _, hcs⟩, ?_⟩
    simp [f_law_fact, runD, g_law_fact, startD, sSeq, sIf, fB, d2, dMod, dDiv, dI, dVar, dC, intEq, h, sRet, dTup, dLst, ix_lst, eb, dFn, aCons, aNil, ecs, sizeLine_eq, Fc.d]
  · obtain ⟨cs, ecs, hcs⟩ := calls_is B hB (c / 5) (by omega)
    obtain ⟨cs2, ecs2, hcs2⟩ := calls_is B hB (c / 7 + 1) (by omega)
    refine ⟨.goes (c / 4 % 1000000000) cs (Str.ofString "fb") cs2, ⟨strOk_ofString _, hcs, hcs2⟩, ?_⟩
    simp [f_law_fact, runD, g_law_fact, startD, sSeq, sIf, sNil, fB, d2, dMod, dDiv, dAdd, dPow, dI, dVar, dC, intEq, h, sRet, dTup, dFn, aCons, aNil, ecs, ecs2, sizeLine_eq, Fc.d]
  · obtain ⟨x, y, cs, z, en, a1, a2, a3, a4, a5⟩ := name_is B hB (c / 4) (by omega)
    obtain ⟨cs2, ecs2, hcs2⟩ := calls_is B hB (c / 11 + 3) (by omega)
    refine ⟨.holds x y cs z (c / 9 % 1000000000) cs2, ⟨a1, a2, a3, a4, a5, hcs2⟩, ?_⟩
    simp [f_law_fact, runD, g_law_fact, startD, sSeq, sIf, sNil, fB, d2, dMod, dDiv, dAdd, dPow, dI, dVar, dC, intEq, h0, h1, sRet, dTup, dFn, aCons, aNil, en, ecs2, sizeLine_eq, Fc.d]
/-! sorted, each once -/
noncomputable def addOnce (acc : List PyData) (x : PyData) : List PyData := if acc.getLast? = some x then acc else acc ++ [x]
/-- good as a key -/
def Kd (d : PyData) : Prop := TK.hkD d = true ∧ SeqAt.shaped d = true
theorem at_last {α : Type} (l : List α) : atI l (-1) = l.getLast? := by
  cases l with
  | nil => simp [atI, ixN]
  | cons a l =>
    rw [List.getLast?_eq_getElem?]
    have h1 : -((l.length : Int) + 1) ≤ -1 := by omega
    have h2 : ((-1 : Int) + ((l.length : Int) + 1)).toNat = l.length := by omega
    simp [atI, ixN, h1, h2]
theorem at_len {α : Type} (l : List α) (h : l ≠ []) : atI l ((l.length : Int) - 1) = l.getLast? := by
  cases l with
  | nil => exact absurd rfl h
  | cons a l =>
    rw [List.getLast?_eq_getElem?]
    have : (l.length : Int) < (l.length : Int) + 1 := by omega
    simp [atI, ixN, this]
theorem ne_is {a b : PyData} (ha : Kd a) (hb : Kd b) : dNe a b = some (.bool (!decide (a = b))) := by
  rw [dNe, if_pos ⟨ha.2, hb.2⟩, TK.eqv_decide ha.1 hb.1]
theorem once_step (fs : PyData) {acc : List PyData} {x : PyData} (hx : Kd x) (hacc : ∀ a ∈ acc, Kd a) (hl : acc.length < 16777216) : g_sorted_once_L0 [some fs, some (.list acc), some x] = some (.nx [some fs, some (.list (addOnce acc x)), some x]) := by
  cases e : acc.getLast? with
  | none =>
    have : acc = [] := List.getLast?_eq_none_iff.mp e
    subst this
    simp [g_sorted_once_L0, sIf, fOr, fNot, fT, dVar, dTruth, sAppend, eraseO, sizeLine_eq, addOnce]
  | some l =>
    have hm : l ∈ acc := List.mem_of_getLast? e
    have hn : acc ≠ [] := fun q => by rw [q] at hm; cases hm
    have hn' : acc.isEmpty = false := by cases acc with | nil => exact absurd rfl hn | cons _ _ => rfl
    have e2 : atI acc (-1) = some l := by rw [at_last, e]
    have hd := ne_is (hacc l hm) hx
    by_cases q : l = x
    · subst q
      simp [g_sorted_once_L0, sIf, fOr, fNot, fT, fB, d2, dNeg, dC, dVar, dTruth, hn', ix_lst, e2, hd, sNil, addOnce, e]
    · simp [g_sorted_once_L0, sIf, fOr, fNot, fT, fB, d2, dNeg, dC, dVar, dTruth, hn', ix_lst, e2, hd, q, sAppend, eraseO, sizeLine_eq, hl, addOnce, e]
theorem lay_all : ∀ {l : List PyData}, (∀ t ∈ l, t.canLay0 = true ∧ t.depth ≤ n) → PyData.canLayAll0 l = true ∧ PyData.depthAll l ≤ n
  | [], _ => ⟨rfl, Nat.zero_le _⟩
  | t :: l, h => by
    have h1 := h t (by simp)
    have h2 := lay_all (l := l) fun u hu => h u (by simp [hu])
    refine ⟨by rw [PyData.canLayAll0, h1.1, h2.1]; rfl, ?_⟩
    rw [PyData.depthAll]; omega
theorem shaped_list {l : List PyData} (h : ∀ t ∈ l, t.canLay0 = true ∧ t.depth ≤ 8) : SeqAt.shaped (.list l) = true := by
  have hL := lay_all h
  simp only [SeqAt.shaped, PyData.canLay0, PyData.depth, Bool.and_eq_true]
  exact ⟨hL.1, decide_eq_true <| Nat.le_trans (Nat.succ_le_succ hL.2) (show 9 ≤ 64 by decide)⟩
theorem eq_nil {l : List PyData} (h : ∀ t ∈ l, t.canLay0 = true ∧ t.depth ≤ 8) : dEq (.list l) (.list []) = some (.bool l.isEmpty) := by
  have hs0 : SeqAt.shaped (.list []) = true := by decide
  have e5 : ∀ l : List PyData, PyData.eqvAll l [] = l.isEmpty := fun l => by cases l <;> rw [PyData.eqvAll] <;> rfl
  rw [dEq, if_pos ⟨shaped_list h, hs0⟩, PyData.eqv, e5]
theorem once_step' (fs : PyData) {acc : List PyData} {x : PyData} (hx : Kd x) (hacc : ∀ a ∈ acc, Kd a ∧ a.canLay0 = true ∧ a.depth ≤ 8) (hl : acc.length < 16777216) : g_law_once_L0 [some fs, some (.list acc), some x] = some (.nx [some fs, some (.list (addOnce acc x)), some x]) := by
  have hq := eq_nil fun a ha => (hacc a ha).2
  cases e : acc.getLast? with
  | none =>
    have : acc = [] := List.getLast?_eq_none_iff.mp e
    subst this
    simp [g_law_once_L0, sIf, fOr, fB, d2, dVar, dLst, aNil, sizeLine_eq, hq, sAppend, eraseO, addOnce]
  | some l =>
    have hm : l ∈ acc := List.mem_of_getLast? e
    have hn : acc ≠ [] := fun q => by rw [q] at hm; cases hm
    have hn' : acc.isEmpty = false := by cases acc with | nil => exact absurd rfl hn | cons _ _ => rfl
    rw [hn'] at hq
    have e2 : atI acc ((acc.length : Int) - 1) = some l := by rw [at_len acc hn, e]
    have hd := ne_is (hacc l hm).1 hx
    by_cases q : l = x
    · subst q
      simp [g_law_once_L0, sIf, fOr, fB, d2, dVar, dC, dLst, aNil, aCons, dCall, dLen, dSub, dI, sizeLine_eq, hq, ix_lst, e2, hd, sNil, addOnce, e]
    · simp [g_law_once_L0, sIf, fOr, fB, d2, dVar, dC, dLst, aNil, aCons, dCall, dLen, dSub, dI, sizeLine_eq, hq, ix_lst, e2, hd, q, sAppend, eraseO, hl, addOnce, e]
theorem mem_addOnce {acc : List PyData} {x y : PyData} : y ∈ addOnce acc x ↔ y ∈ acc ∨ y = x := by
  unfold addOnce
  split
  · rename_i h
    exact ⟨.inl, fun q => q.elim id fun e => e ▸ List.mem_of_getLast? h⟩
  · simp
theorem len_addOnce (acc : List PyData) (x : PyData) : (addOnce acc x).length ≤ acc.length + 1 := by
  unfold addOnce
  split <;> simp
def Ky (d : PyData) : Prop := Kd d ∧ d.canLay0 = true ∧ d.depth ≤ 8
theorem once_loop (g : Rho → Option Out) (fs : PyData) (st : ∀ acc x, Ky x → (∀ a ∈ acc, Ky a) → acc.length < 16777216 → g [some fs, some (.list acc), some x] = some (.nx [some fs, some (.list (addOnce acc x)), some x])) : ∀ (xs acc : List PyData) (o : Option PyData), (∀ x ∈ xs, Ky x) → (∀ a ∈ acc, Ky a) → acc.length + xs.length < 16777216 →
    ∃ o', forD (bdT (.one 2)) g xs [some fs, some (.list acc), o] = some (.nx [some fs, some (.list (xs.foldl addOnce acc)), o'])
  | [], acc, o, _, _, _ => ⟨o, rfl⟩
  | x :: xs, acc, o, hx, ha, hl => by
    simp only [List.length_cons] at hl
    have hx0 := hx x (by simp)
    have l1 := len_addOnce acc x
    obtain ⟨o', e⟩ := once_loop g fs st xs (addOnce acc x) (some x) (fun y hy => hx y (by simp [hy])) (fun a h => (mem_addOnce.mp h).elim (ha a) fun q => q ▸ hx0) (by omega)
    refine ⟨o', ?_⟩
    rw [forD]
    have s1 : ((bdT (.one 2) x [some fs, some (.list acc), o]).bind g) = g [some fs, some (.list acc), some x] := rfl
    rw [s1, st acc x hx0 ha (by omega)]
    exact e
noncomputable def U (ds : List PyData) : List PyData := (sortD ds).foldl addOnce []
theorem mem_fold {y : PyData} : ∀ (xs acc : List PyData), y ∈ xs.foldl addOnce acc ↔ y ∈ acc ∨ y ∈ xs
  | [], acc => by simp
  | x :: xs, acc => by rw [List.foldl_cons, mem_fold xs, mem_addOnce]; simp [or_assoc]
theorem nodup_fold : ∀ (xs acc : List PyData), (∀ a ∈ acc ++ xs, TK.hkD a = true) → (acc ++ xs).Pairwise (fun a b => ltD b a = false) → acc.Nodup → (xs.foldl addOnce acc).Nodup
  | [], acc, _, _, h => h
  | x :: xs, acc, hk, hp, hn => by
    rw [List.foldl_cons]
    unfold addOnce
    split
    · refine nodup_fold xs acc (fun a ha => hk a ?_) (hp.sublist ?_) hn
      · rcases List.mem_append.mp ha with h | h
        · exact List.mem_append_left _ h
        · exact List.mem_append_right _ (List.mem_cons_of_mem _ h)
      · exact List.Sublist.append (List.Sublist.refl _) (List.sublist_cons_self _ _)
    · rename_i hq
      refine nodup_fold xs (acc ++ [x]) (fun a ha => hk a (by simpa using ha)) (by simpa using hp) ?_
      rw [List.nodup_append]
      refine ⟨hn, by simp, fun a ha b hb => ?_⟩
      have : b = x := by simpa using hb
      subst this
      rintro rfl
      -- x stands in acc, and is not its last
      cases e : acc.getLast? with
      | none => rw [List.getLast?_eq_none_iff.mp e] at ha; cases ha
      | some l =>
        have hm : l ∈ acc := List.mem_of_getLast? e
        obtain ⟨pre, rfl⟩ := List.getLast?_eq_some_iff.mp e
        have h1 : ltD a l = false := (List.pairwise_append.mp hp).2.2 l hm a (by simp)
        rcases List.mem_append.mp ha with q | q
        · have h2 : ltD l a = false := (List.pairwise_append.mp (List.pairwise_append.mp hp).1).2.2 a q l (by simp)
          have := ltD_total (hk a (by simp)) (hk l (by simp)) h1 h2
          exact hq (by rw [e, this])
        · have : a = l := by simpa using q
          exact hq (by rw [e, this])
theorem Fc.Ok.ky {F : Fc} (h : F.Ok) : Ky F.d := ⟨⟨F.hk, h.shaped⟩, h.lay.1, by have := h.lay.2; omega⟩
theorem sort_ok {Fs : List Fc} (h : ∀ F ∈ Fs, F.Ok) (hl : Fs.length ≤ 63) : sortOk (Fs.map Fc.d) = true := by
  unfold sortOk
  simp only [Bool.and_eq_true, decide_eq_true_eq, List.length_map, List.all_map, List.all_eq_true, Function.comp_apply]
  exact ⟨⟨⟨⟨⟨by omega, fun F _ => F.head⟩, fun F _ => F.hk⟩, fun F q => (h F q).lay.1⟩, fun F q => by have := (h F q).lay.2; omega⟩, fun F q => by
    intro G g
    exact Fc.can (h F q) (h G g)⟩
theorem hk_all {Fs : List Fc} : ∀ d ∈ Fs.map Fc.d, TK.hkD d = true := fun d hd => by
  obtain ⟨F, _, rfl⟩ := List.mem_map.mp hd
  exact F.hk
theorem sort_ky {Fs : List Fc} (h : ∀ F ∈ Fs, F.Ok) : ∀ x ∈ sortD (Fs.map Fc.d), Ky x := fun x hx => by
  obtain ⟨F, q, rfl⟩ := List.mem_map.mp ((sort_exists hk_all).1.mem_iff.mp hx)
  exact (h F q).ky
theorem sort_len (Fs : List Fc) : (sortD (Fs.map Fc.d)).length = Fs.length := by rw [(sort_exists hk_all).1.length_eq, List.length_map]
theorem sorted_once_is {Fs : List Fc} (h : ∀ F ∈ Fs, F.Ok) (hl : Fs.length ≤ 63) : f_sorted_once [.list (Fs.map Fc.d)] = some (.list (U (Fs.map Fc.d))) := by
  obtain ⟨o, e⟩ := once_loop g_sorted_once_L0 (.list (Fs.map Fc.d)) (fun acc x hx ha hl => once_step _ hx.1 (fun a q => (ha a q).1) hl) (sortD (Fs.map Fc.d)) [] none (sort_ky h) (by simp) (by rw [sort_len]; simp; omega)
  simp [f_sorted_once, runD, g_sorted_once, startD, sSeq, sNewL, aNil, sForO, qSeq, dCall, aCons, dVar, eraseO, sizeLine_eq, dSorted, sort_ok h hl, e, sRet, U]
theorem law_once_is {Fs : List Fc} (h : ∀ F ∈ Fs, F.Ok) (hl : Fs.length ≤ 63) : f_law_once [.list (Fs.map Fc.d)] = some (.list (U (Fs.map Fc.d))) := by
  obtain ⟨o, e⟩ := once_loop g_law_once_L0 (.list (Fs.map Fc.d)) (fun acc x hx ha hl => once_step' _ hx.1 ha hl) (sortD (Fs.map Fc.d)) [] none (sort_ky h) (by simp) (by rw [sort_len]; simp; omega)
  simp [f_law_once, runD, g_law_once, startD, sSeq, sNewL, aNil, sForO, qSeq, dCall, aCons, dVar, eraseO, sizeLine_eq, dSorted, sort_ok h hl, e, sRet, U]
theorem mem_U {Fs : List Fc} {x : PyData} : x ∈ U (Fs.map Fc.d) ↔ x ∈ Fs.map Fc.d := by
  unfold U
  rw [mem_fold, (sort_exists hk_all).1.mem_iff]
  simp
theorem nodup_U (Fs : List Fc) : (U (Fs.map Fc.d)).Nodup := by
  have s := sort_exists (hk_all (Fs := Fs))
  exact nodup_fold _ [] (fun a ha => hk_all a (s.1.mem_iff.mp (by simpa using ha))) (by simpa using s.2) List.nodup_nil
theorem len_fold : ∀ xs acc : List PyData, (xs.foldl addOnce acc).length ≤ acc.length + xs.length
  | [], acc => by simp
  | x :: xs, acc => by
    have h1 := len_fold xs (addOnce acc x)
    have h2 := len_addOnce acc x
    rw [List.foldl_cons, List.length_cons]
    omega
theorem len_U (Fs : List Fc) : (U (Fs.map Fc.d)).length ≤ Fs.length := by
  have := len_fold (sortD (Fs.map Fc.d)) []
  rw [sort_len] at this
  simpa [U] using this
/-! a dict of keys -/
theorem mem_putD {kvs : List (PyData × PyData)} {k v x : PyData} : x ∈ (putD kvs k v).map (·.1) ↔ x ∈ kvs.map (·.1) ∨ x = k := by
  unfold putD
  split
  · rename_i hk
    have e : (kvs.map fun kv => if kv.1 = k then (kv.1, v) else kv).map (·.1) = kvs.map (·.1) := by
      rw [List.map_map]
      apply List.map_congr_left
      intro a _
      simp only [Function.comp]
      split <;> rfl
    rw [e]
    exact ⟨.inl, fun h => h.elim id fun z => z ▸ hk⟩
  · simp [or_comm]
theorem length_putD (kvs : List (PyData × PyData)) (k v : PyData) : (putD kvs k v).length ≤ kvs.length + 1 := by
  unfold putD
  split
  · rw [List.length_map]; omega
  · rw [List.length_append, List.length_cons, List.length_nil]; omega
theorem known_loop (ones : PyData) : ∀ (ts : List PyData) (kvs : List (PyData × PyData)) (o : Option PyData), (∀ t ∈ ts, isKey t = true) → kvs.length + ts.length ≤ 16777216 →
    ∃ kvs' o', forD (bdT (.one 2)) g_known_of_L0 ts [some ones, some (.dict kvs), o] = some (.nx [some ones, some (.dict kvs'), o']) ∧ ∀ x, x ∈ kvs'.map (·.1) ↔ x ∈ kvs.map (·.1) ∨ x ∈ ts
  | [], kvs, o, _, _ => ⟨kvs, o, rfl, fun x => by simp⟩
  | t :: ts, kvs, o, h, hl => by
    have hp := length_putD kvs t (.bool true)
    simp at hl
    obtain ⟨kvs', o', e, m⟩ := known_loop ones ts (putD kvs t (.bool true)) (some t) (fun u hu => h u (by simp [hu])) (by omega)
    refine ⟨kvs', o', ?_, fun x => by rw [m, mem_putD]; simp [or_assoc]⟩
    have hk := h t (by simp)
    have hz : kvs.length < 16777216 := by omega
    rw [forD]
    have e2 : ((bdT (.one 2) t [some ones, some (.dict kvs), o]).bind g_known_of_L0) = some (.nx [some ones, some (.dict (putD kvs t (.bool true))), some t]) := by
      simp [bdT, g_known_of_L0, sDPut, dVar, dC, eraseO, sizeLine_eq, hk, hz]
    rw [e2]
    exact e
theorem known_is {ts : List PyData} (h : ∀ t ∈ ts, isKey t = true) (hl : ts.length ≤ 1000) : ∃ kvs, f_known_of [.list ts] = some (.dict kvs) ∧ ∀ x, x ∈ kvs.map (·.1) ↔ x ∈ ts := by
  obtain ⟨kvs, o, e, m⟩ := known_loop (.list ts) ts [] none h (by simp; omega)
  refine ⟨kvs, ?_, fun x => by simpa using m x⟩
  simp [f_known_of, runD, g_known_of, startD, sSeq, sNewD, sForO, qSeq, dVar, eraseO, e, sRet]
theorem leads_comp {kvs : List (PyData × PyData)} {os : List PyData} (m : Nat) (hm : ∀ x, x ∈ kvs.map (·.1) ↔ x ∈ os) : ∀ {Fs : List Fc}, (∀ F ∈ Fs, F.Ok) → compD g_leads_T0 g_leads_C0 [some (.dict kvs), some (.int m)] (Fs.map Fc.d) = some (Fs.map fun F => .bool (decide ((F.cut m).d ∈ os)))
  | [], _ => rfl
  | F :: Fs, h => by
    have ih := leads_comp m hm (Fs := Fs) fun t ht => h t (by simp [ht])
    have hF := h F (by simp)
    have hk := (hF.cut m).key
    have hc := fact_cut hF m
    have e : decide ((F.cut m).d ∈ kvs.map (·.1)) = decide ((F.cut m).d ∈ os) := decide_eq_decide.mpr (hm _)
    have eC : g_leads_C0 [some F.d, some (.dict kvs), some (.int m)] = some (.bool (decide ((F.cut m).d ∈ os))) := by
      simp only [g_leads_C0, d2, dFn, aCons, aNil, dVar, Option.bind_some, List.getElem?_cons_zero, List.getElem?_cons_succ, Option.join_some, List.length_cons, List.length_nil, Nat.reduceAdd, if_true, hc, dIn, dInB, hk, Option.map_some, e, ↓reduceIte]
    have eT : g_leads_T0 [some F.d, some (.dict kvs), some (.int m)] = some true := rfl
    rw [List.map_cons, compD, eT, eC, ih]; rfl
theorem leads_is {Fs : List Fc} {os : List PyData} (m : Nat) (h : ∀ F ∈ Fs, F.Ok) (hl : Fs.length ≤ 63) (ho : ∀ t ∈ os, isKey t = true) (hlo : os.length ≤ 1000) : f_leads [.list (Fs.map Fc.d), .list os, .int m] = some (.bool (Fs.all fun F => decide ((F.cut m).d ∈ os))) := by
  obtain ⟨kvs, e, hm⟩ := known_is ho hlo
  have e2 := leads_comp m hm h
  have hz : Fs.length ≤ 16777216 := by omega
  have e3 : ∀ (l : List Fc) (p : Fc → Bool), boolsOf (l.map fun x => .bool (p x)) = some (l.map p) := fun l p => by
    have := boolsOf_map (l.map p)
    rw [List.map_map] at this
    exact this
  simp [f_leads, runD, g_leads, startD, sSeq, sAsg, bName, dFn, aCons, aNil, dVar, e, sRet, dCall, dComp, qSeq, capD, sizeLine_eq, hz, e2, dAll, e3, List.all_map, Function.comp_def]
theorem cell_is (ns : List Int) : ∃ c, f_law_cell_at [.list (ns.map .int), .int 0] = some (.int c) := by
  cases ns with
  | nil => exact ⟨0, by rfl⟩
  | cons n ns =>
    refine ⟨n, ?_⟩
    have : (0 : Int) < (ns.length : Int) + 1 := by omega
    simp [f_law_cell_at, runD, g_law_cell_at, startD, sSeq, sIf, fB, d2, dLt, dI, dVar, dCall, dLen, aCons, aNil, sRet, dIx, atI, ixN, this]
theorem cut_map {α β : Type} (f : α → β) (l : List α) (lo hi : Option Int) : cutL (l.map f) lo hi = (cutL l lo hi).map f := by simp [cutL, List.map_drop, List.map_take]
theorem cut_mem {α : Type} {l : List α} {lo hi : Option Int} {x : α} (h : x ∈ cutL l lo hi) : x ∈ l := List.mem_of_mem_drop (List.mem_of_mem_take h)
theorem cut_len {α : Type} (l : List α) (lo hi : Option Int) : (cutL l lo hi).length ≤ l.length := by simp only [cutL, List.length_take, List.length_drop]; omega
theorem facts_is : ∀ (ns : List Int), (∀ x ∈ ns, okBits x = true) → ∃ Fs : List Fc, compD g_law_T0 g_law_C0 [] (ns.map .int) = some (Fs.map Fc.d) ∧ Fs.length = ns.length ∧ ∀ F ∈ Fs, F.Ok
  | [], _ => ⟨[], rfl, rfl, by simp⟩
  | n :: ns, h => by
    obtain ⟨Fs, e1, e2, e3⟩ := facts_is ns fun x hx => h x (by simp [hx])
    obtain ⟨F, e5, e4⟩ := fact_is n (h n (by simp))
    have eC : g_law_C0 [some (.int n)] = some F.d := by simp [g_law_C0, dFn, aCons, aNil, dVar, e4]
    have eT : g_law_T0 [some (.int n)] = some true := rfl
    refine ⟨F :: Fs, ?_, by simp [e2], fun G hG => ?_⟩
    · rw [List.map_cons, compD, eT, eC, e1]; rfl
    · rcases List.mem_cons.mp hG with rfl | hG
      · exact e5
      · exact e3 G hG
theorem dues_is (m : Nat) : ∀ {Fs : List Fc}, (∀ F ∈ Fs, F.Ok) → compD g_law_T2 g_law_C2 [some (.int m)] (Fs.map Fc.d) = some ((Fs.map (Fc.cut m)).map Fc.d)
  | [], _ => rfl
  | F :: Fs, h => by
    have ih := dues_is m (Fs := Fs) fun t ht => h t (by simp [ht])
    have hd := fact_due (h F (by simp)) m
    have eC : g_law_C2 [some F.d, some (.int m)] = some (F.cut m).d := by simp [g_law_C2, dFn, aCons, aNil, dVar, hd]
    have eT : g_law_T2 [some F.d, some (.int m)] = some true := rfl
    rw [List.map_cons, compD, eT, eC, ih]; rfl
theorem cuts_is (m : Nat) : ∀ {Fs : List Fc}, (∀ F ∈ Fs, F.Ok) → compD g_cut_facts_T0 g_cut_facts_C0 [some (.int m)] (Fs.map Fc.d) = some ((Fs.map (Fc.cut m)).map Fc.d)
  | [], _ => rfl
  | F :: Fs, h => by
    have ih := cuts_is m (Fs := Fs) fun t ht => h t (by simp [ht])
    have hd := fact_cut (h F (by simp)) m
    have eC : g_cut_facts_C0 [some F.d, some (.int m)] = some (F.cut m).d := by simp [g_cut_facts_C0, dFn, aCons, aNil, dVar, hd]
    have eT : g_cut_facts_T0 [some F.d, some (.int m)] = some true := rfl
    rw [List.map_cons, compD, eT, eC, ih]; rfl
theorem cut_ok {Fs : List Fc} (h : ∀ F ∈ Fs, F.Ok) (m : Nat) : ∀ G ∈ Fs.map (Fc.cut m), G.Ok := fun G hG => by
  obtain ⟨F, q, rfl⟩ := List.mem_map.mp hG
  exact (h F q).cut m
theorem cut_facts_is {Fs : List Fc} (h : ∀ F ∈ Fs, F.Ok) (hl : Fs.length ≤ 63) (m : Nat) : f_cut_facts [.list (Fs.map Fc.d), .int m] = some (.list (U ((Fs.map (Fc.cut m)).map Fc.d))) := by
  have e1 := cuts_is m h
  have e2 := sorted_once_is (cut_ok h m) (by simpa using hl)
  have hz : Fs.length ≤ 16777216 := by omega
  simp only [f_cut_facts, runD, g_cut_facts, startD, sRet, dFn, aCons, aNil, dComp, qSeq, dVar, capD, sizeLine_eq, List.map_cons, List.map_nil, List.length_cons, List.length_nil, List.cons_append, List.nil_append, List.getElem?_cons_zero, List.getElem?_cons_succ, Option.join_some, Option.bind_some, Option.map_some, List.length_map, hz, if_true, e1, e2, ↓reduceIte, Nat.reduceAdd]
theorem memin_comp (m : Nat) {Gs : List Fc} (hG : ∀ F ∈ Gs, F.Ok) : ∀ {Fs : List Fc}, (∀ F ∈ Fs, F.Ok) → compD g_law_T3 g_law_C3 [some (.list (Gs.map Fc.d)), some (.int m)] (Fs.map Fc.d) = some (Fs.map fun F => .bool (decide ((F.cut m).d ∈ Gs.map Fc.d)))
  | [], _ => rfl
  | F :: Fs, h => by
    have ih := memin_comp m hG (Fs := Fs) fun t ht => h t (by simp [ht])
    have hF := h F (by simp)
    have hc := fact_due hF m
    have hs := (hF.cut m).shaped
    have hd : (F.cut m).d.depth ≤ 60 := by have := (hF.cut m).lay.2; omega
    have hall : (Gs.map Fc.d).all SeqAt.shaped = true := List.all_eq_true.mpr fun t ht => by
      obtain ⟨G, q, rfl⟩ := List.mem_map.mp ht
      exact (hG G q).shaped
    have e : ((Gs.map Fc.d).any fun y => PyData.eqv y (F.cut m).d) = decide ((F.cut m).d ∈ Gs.map Fc.d) := by
      rw [Bool.eq_iff_iff, List.any_eq_true, decide_eq_true_eq]
      constructor
      · rintro ⟨y, hy, q⟩
        rw [← (TK.eqv_hk (hk_all y hy) (F.cut m).hk).mp q]; exact hy
      · exact fun hy => ⟨_, hy, (TK.eqv_hk (F.cut m).hk (F.cut m).hk).mpr rfl⟩
    have eC : g_law_C3 [some F.d, some (.list (Gs.map Fc.d)), some (.int m)] = some (.bool (decide ((F.cut m).d ∈ Gs.map Fc.d))) := by
      simp only [g_law_C3, d2, dFn, aCons, aNil, dVar, Option.bind_some, List.getElem?_cons_zero, List.getElem?_cons_succ, Option.join_some, List.length_cons, List.length_nil, Nat.reduceAdd, if_true, hc, dIn, dInB, hs, hall, hd, and_self, Option.map_some, e, ↓reduceIte]
    have eT : g_law_T3 [some F.d, some (.list (Gs.map Fc.d)), some (.int m)] = some true := rfl
    rw [List.map_cons, compD, eT, eC, ih]; rfl
theorem ne_self {a : PyData} (h : SeqAt.shaped a = true) : dNe a a = some (.bool false) := by
  rw [dNe, if_pos ⟨h, h⟩, SeqAt.eqv_refl _ (SeqAt.canLay_of_shaped h)]; rfl
theorem turn_is (sc h : Option PyData) (fs : Option PyData) (m k : Nat) {F : Fc} (hF : F.Ok) (o7 o8 o9 o6 : Option PyData) :
    ∃ o6', g_law_L1 [sc, some (.int m), some (.int k), fs, h, some F.d, o6, o7, o8, o9] = some (.nx [sc, some (.int m), some (.int k), fs, h, some F.d, o6', o7, o8, o9]) := by
  have hmin : (if (k : Int) < m then (k : Int) else m) = ((min m k : Nat) : Int) := by split <;> omega
  have h1 := fact_cut hF m
  have h2 := fact_due hF m
  have h3 := fact_cut (hF.cut m) (min m k)
  have h4 := fact_due hF (min m k)
  rw [cut_cut m (min m k) F (Nat.min_le_left _ _)] at h3
  have n1 := ne_self (hF.cut m).shaped
  have n2 := ne_self (hF.cut (min m k)).shaped
  have ht : tyD (F.cut m).d = "tuple" := by cases F <;> rfl
  refine ⟨some (F.cut m).d, ?_⟩
  simp only [g_law_L1, sSeq, sAsg, sIf, bName, dFn, aCons, aNil, dVar, dC, Option.bind_some, List.getElem?_cons_zero, List.getElem?_cons_succ, Option.join_some, List.length_cons, List.length_nil, Nat.reduceAdd, ↓reduceIte, h1, Option.map_some, List.set_cons_succ, List.set_cons_zero, fOr, fNot, fT, fB, dIsT, ht, dTruth, beq_self_eq_true, Bool.true_or, Bool.not_true, Bool.false_eq_true, d2, h2, n1, sNil, dCall, dMin, hmin, h3, h4, n2]
theorem law_loop (sc h fs o7 o8 o9 : Option PyData) (m k : Nat) : ∀ {Fs : List Fc} (o5 o6 : Option PyData), (∀ F ∈ Fs, F.Ok) → ∃ o5' o6', forD (bName 5) g_law_L1 (Fs.map Fc.d) [sc, some (.int m), some (.int k), fs, h, o5, o6, o7, o8, o9] = some (.nx [sc, some (.int m), some (.int k), fs, h, o5', o6', o7, o8, o9])
  | [], o5, o6, _ => ⟨o5, o6, rfl⟩
  | F :: Fs, o5, o6, hF => by
    obtain ⟨o6', e⟩ := turn_is sc h fs m k (hF F (by simp)) o7 o8 o9 o6
    obtain ⟨a, b, e2⟩ := law_loop sc h fs o7 o8 o9 m k (Fs := Fs) (some F.d) o6' fun G hG => hF G (by simp [hG])
    refine ⟨a, b, ?_⟩
    rw [List.map_cons, forD]
    have s1 : ((bName 5 F.d [sc, some (.int m), some (.int k), fs, h, o5, o6, o7, o8, o9]).bind g_law_L1) = g_law_L1 [sc, some (.int m), some (.int k), fs, h, some F.d, o6, o7, o8, o9] := rfl
    rw [s1, e]
    exact e2
theorem cut_take {α : Type} (l : List α) (j : Nat) : cutL l none (some (j : Int)) = l.take j := by
  unfold cutL
  rw [sIx_some, if_neg (by omega)]
  simp only [HT.sIx, List.drop_zero, Nat.sub_zero, Int.toNat_natCast]
  rw [← List.take_take, List.take_length]
theorem cut_drop {α : Type} (l : List α) (j : Nat) : cutL l (some ((j : Int) + 1)) none = l.drop (j + 1) := by
  by_cases h : j + 1 ≤ l.length
  · exact cutL_from l (j + 1) (by rw [sIx_some, if_neg (by omega)]; omega)
  · rw [cutL_from l l.length (by rw [sIx_some, if_neg (by omega)]; omega), List.drop_of_length_le (Nat.le_refl _), List.drop_of_length_le (by omega)]
theorem law_true : ∀ ns : List Int, ns.length ≤ 63 → (∀ x ∈ ns, okBits x = true) → f_law [.list (ns.map .int)] = some (.bool true) := by
  intro ns hl hb
  obtain ⟨c, ec⟩ := cell_is ns
  obtain ⟨m, hm⟩ : ∃ m : Nat, c % 4 = m := ⟨(c % 4).toNat, by omega⟩
  obtain ⟨k, hk⟩ : ∃ k : Nat, c / 4 % 4 = k := ⟨(c / 4 % 4).toNat, by omega⟩
  have l1 : (cutL ns (some 1) none ++ cutL ns none (some 1)).length ≤ 63 := by
    have e1 : cutL ns (some 1) none = ns.drop 1 := cut_drop ns 0
    have e2 : cutL ns none (some 1) = ns.take 1 := cut_take ns 1
    rw [e1, e2, List.length_append, List.length_drop, List.length_take]; omega
  obtain ⟨Fs, ef, lf, hF⟩ := facts_is (cutL ns (some 1) none ++ cutL ns none (some 1)) fun x hx => hb x ((List.mem_append.mp hx).elim cut_mem cut_mem)
  have lF : Fs.length ≤ 63 := by omega
  have hC := cut_ok hF m
  have eo := law_once_is hC (by simpa using lF)
  have et := cut_facts_is hF lF m
  have ed := dues_is m hF
  have lU := len_U (Fs.map (Fc.cut m))
  have nU := nodup_U (Fs.map (Fc.cut m))
  have mU : ∀ x, x ∈ U ((Fs.map (Fc.cut m)).map Fc.d) ↔ ∃ F ∈ Fs, (F.cut m).d = x := fun x => by rw [mem_U]; simp
  have okU : ∀ x ∈ U ((Fs.map (Fc.cut m)).map Fc.d), ∃ G : Fc, G.Ok ∧ G.d = x := fun x hx => by
    obtain ⟨F, q, e⟩ := (mU x).mp hx
    exact ⟨F.cut m, (hF F q).cut m, e⟩
  rw [List.length_map] at lU
  generalize hUU : U ((Fs.map (Fc.cut m)).map Fc.d) = us at *
  have keyU : ∀ x ∈ us, isKey x = true := fun x hx => by obtain ⟨G, g, rfl⟩ := okU x hx; exact g.key
  have layU : ∀ x ∈ us, x.canLay0 = true ∧ x.depth ≤ 8 := fun x hx => by obtain ⟨G, g, rfl⟩ := okU x hx; exact ⟨g.lay.1, by have := g.lay.2; omega⟩
  have keyF : ∀ x ∈ Fs.map Fc.d, isKey x = true := fun x hx => by obtain ⟨G, g, rfl⟩ := List.mem_map.mp hx; exact (hF G g).key
  have layF : ∀ x ∈ Fs.map Fc.d, x.canLay0 = true ∧ x.depth ≤ 8 := fun x hx => by obtain ⟨G, g, rfl⟩ := List.mem_map.mp hx; exact ⟨(hF G g).lay.1, by have := (hF G g).lay.2; omega⟩
  have n1 := ne_self (shaped_list layU)
  have n2 := ne_self (shaped_list layF)
  have q0 := eq_nil layU
  -- the five asks
  have b1 := leads_is (os := us) m hF lF keyU (by omega)
  have v1 : (Fs.all fun F => decide ((F.cut m).d ∈ us)) = true := List.all_eq_true.mpr fun F q => decide_eq_true ((mU _).mpr ⟨F, q, rfl⟩)
  rw [v1] at b1
  have b2 : f_leads [.list [], .list [], .int m] = some (.bool true) := leads_is (Fs := []) (os := []) m (by simp) (by simp) (by simp) (by simp)
  have b3 := leads_is (os := us.reverse ++ us.take 1 ++ Fs.map Fc.d) m hF lF (fun x hx => by
    simp only [List.mem_append, List.mem_reverse] at hx
    rcases hx with (hx | hx) | hx
    · exact keyU x hx
    · exact keyU x (List.mem_of_mem_take hx)
    · exact keyF x hx) (by simp; omega)
  have v3 : (Fs.all fun F => decide ((F.cut m).d ∈ us.reverse ++ us.take 1 ++ Fs.map Fc.d)) = true := List.all_eq_true.mpr fun F q => decide_eq_true (by
    rw [List.mem_append, List.mem_append, List.mem_reverse]
    exact .inl (.inl ((mU _).mpr ⟨F, q, rfl⟩)))
  rw [v3] at b3
  have b4 := leads_is (os := Fs.map Fc.d) m hF lF keyF (by simp; omega)
  have e4 := memin_comp m hF hF
  have e3 : ∀ (l : List Fc) (p : Fc → Bool), boolsOf (l.map fun x => .bool (p x)) = some (l.map p) := fun l p => by
    have := boolsOf_map (l.map p)
    rw [List.map_map] at this
    exact this
  have a4 : dAll [.list (Fs.map fun F => .bool (decide ((F.cut m).d ∈ Fs.map Fc.d)))] = some (.bool (Fs.all fun F => decide ((F.cut m).d ∈ Fs.map Fc.d))) := by
    simp only [dAll, e3, Option.map_some, List.all_map, Function.comp_def, id]
  have n4 : ∀ b : Bool, dNe (.bool b) (.bool b) = some (.bool false) := fun b => by cases b <;> rfl
  have n5 : ∀ b : Bool, dEq (.bool b) (.bool b) = some (.bool true) := fun b => by cases b <;> rfl
  have hmx : (0 : Int) < (if (us.length : Int) > 1 then (us.length : Int) else 1) := by split <;> omega
  obtain ⟨j, hj, hj2⟩ : ∃ j : Nat, c / 16 % (if (us.length : Int) > 1 then (us.length : Int) else 1) = j ∧ (us ≠ [] → j < us.length) := by
    have p1 := Int.emod_nonneg (c / 16) (Int.ne_of_gt hmx)
    have p2 := Int.emod_lt_of_pos (c / 16) hmx
    refine ⟨(c / 16 % (if (us.length : Int) > 1 then (us.length : Int) else 1)).toNat, by omega, fun hn => ?_⟩
    have : 0 < us.length := List.length_pos_iff.mpr hn
    split at p2 <;> rename_i q
    · rw [if_pos q] at p1 ⊢; omega
    · rw [if_neg q] at p1 ⊢; omega
  have b5 := leads_is (os := us.take j ++ us.drop (j + 1)) m hF lF (fun x hx => (List.mem_append.mp hx).elim (fun q => keyU x (List.mem_of_mem_take q)) fun q => keyU x (List.mem_of_mem_drop q)) (by simp; omega)
  have v5 : (Fs.all fun F => decide ((F.cut m).d ∈ us.take j ++ us.drop (j + 1))) = us.isEmpty := by
    by_cases hn : us = []
    · have : Fs = [] := by
        cases Fs with
        | nil => rfl
        | cons F Fs =>
          have := (mU (F.cut m).d).mpr ⟨F, by simp, rfl⟩
          rw [hn] at this; cases this
      rw [this, hn]; rfl
    · have hlt := hj2 hn
      have e0 : us.isEmpty = false := by cases us with | nil => exact absurd rfl hn | cons _ _ => rfl
      rw [e0]
      obtain ⟨F, q, e⟩ := (mU us[j]).mp (List.getElem_mem hlt)
      rw [List.all_eq_false]
      refine ⟨F, q, ?_⟩
      rw [e, decide_eq_true_eq]
      intro hx
      have sp : us = us.take j ++ us[j] :: us.drop (j + 1) := by rw [← List.drop_eq_getElem_cons hlt, List.take_append_drop]
      rw [sp] at nU
      have nn := List.nodup_append.mp nU
      rcases List.mem_append.mp hx with h | h
      · exact nn.2.2 _ h us[j] List.mem_cons_self rfl
      · exact (List.nodup_cons.mp nn.2.1).1 h
  rw [v5] at b5
  have c1 : cutL us none (some 1) = us.take 1 := cut_take us 1
  have c2 := cut_take us j
  have c3 := cut_drop us j
  obtain ⟨o5, o6, lp⟩ := law_loop (some (.list (ns.map .int))) (some (.list (Fs.map Fc.d))) (some (.list (Fs.map Fc.d))) none none none m k none none hF
  have z0 : (cutL ns (some 1) none).length + (cutL ns none (some 1)).length ≤ 16777216 := by rw [← List.length_append]; omega
  have z1 : (cutL ns (some 1) none ++ cutL ns none (some 1)).length ≤ 16777216 := by omega
  have z2 : Fs.length ≤ 16777216 := by omega
  have z3 : us.length + min 1 us.length ≤ 16777216 := by omega
  have z4 : us.length + min 1 us.length + Fs.length ≤ 16777216 := by omega
  have z5 : min j us.length + (us.length - (j + 1)) ≤ 16777216 := by omega
  have ef' : compD g_law_T0 g_law_C0 [] (List.map PyData.int (cutL ns (some 1) none) ++ List.map PyData.int (cutL ns none (some 1))) = some (Fs.map Fc.d) := by rw [← List.map_append]; exact ef
  have st : f_law [.list (ns.map .int)] = ((g_law [some (.list (ns.map .int)), none, none, none, none, none, none, none, none, none]).bind fun o => match o with | .rt d => some d | .nx _ => some .none | _ => none) := rfl
  have t1 : decide ((0 : Int) < 4) = true := rfl
  have t2 : decide ((4 : Int) < 1073741824) = true := rfl
  have t3 : decide ((16 : Int) < 1073741824) = true := rfl
  have t7 : decide ((0 : Int) < 16) = true := rfl
  have t4 : decide ((0 : Int) < (if (us.length : Int) > 1 then (us.length : Int) else 1)) = true := decide_eq_true hmx
  have n6 : dIsNot (.bool true) (.bool true) = some (.bool false) := rfl
  have y1 : (tyD (.list us) == "list" || tyD (.list us) == "bool" && "list" == "int") = true := rfl
  rw [st]
  simp only [g_law, sSeq, sAsg, sIf, sFor, sRet, bName, dFn, aCons, aNil, dVar, dC, d2, dMod, dDiv, dI, dComp, qSeq, dSlice, oSome, oNone, dSl, dAdd, dCall, dListOf, dLen, dMax, dLst, dRev, dIsT, cut_map, capD, sizeLine_eq, List.map_cons, List.map_nil, List.length_cons, List.length_nil, List.length_append, List.length_map, List.length_reverse, List.length_take, List.length_drop, List.getElem?_cons_zero, List.getElem?_cons_succ, Option.join_some, Option.bind_some, Option.map_some, List.set_cons_succ, List.set_cons_zero, Nat.reduceAdd, Nat.zero_le, ↓reduceIte, if_true, ec, t1, t2, t3, t7, Bool.and_self, hm, hk, z0, ef', lp, ed, z2, eo, et, fOr, fNot, fT, fB, y1, dTruth, Bool.not_true, Bool.false_eq_true, n1, n2, sNil, t4, hj, b1, b2, n6, c1, z3, z4, b3, b4, e4, a4, n4, c2, c3, z5, b5, q0, n5]
end K30
open PySem PySem.W PyProof.Rows
set_option maxRecDepth 100000 in
set_option maxHeartbeats 0 in
theorem PySem.Challenge.cw_pointsure_k30_facts_cut_holds : PySem.Challenge.rw_pointsure_k30_facts_cut.Holds := by
  w_on; o_law; k_head; (case hw => w_witness2)
  k_fill
  refine L2.walk_data (l := PySem.Challenge.rw_pointsure_k30_facts_cut) (n := 63) (k := 5) (x := "_law_script") (f := K30.f_law) rfl (by decide) rfl ⟨rfl, by decide, by decide⟩ (fun w h Y => PySem.W.kIn_of Y) ?F K30.law_true
  case F =>
    intro w mg fa h KX G hmg
    refine' K30.all_mk KX G hmg ?a0 ?l0 ?c0 ?k0 ?a1 ?l1 ?c1 ?k1 ?a2 ?l2 ?c2 ?k2 ?a3 ?l3 ?c3 ?k3 ?a4 ?l4 ?c4 ?k4 ?a5 ?l5 ?c5 ?k5 ?a6 ?l6 ?c6 ?k6 ?a7 ?l7 ?c7 ?k7 ?a8 ?l8 ?c8 ?k8 ?a9 ?l9 ?c9 ?k9 ?a10 ?l10 ?c10 ?k10 ?a11 ?l11 ?c11 ?k11 ?a12 ?l12 ?c12 ?k12 ?a13 ?l13 ?c13 ?k13 ?a14 ?l14 ?c14 ?k14 ?a15 ?l15 ?c15 ?k15 ?a16 ?l16 ?c16 ?k16 ?a17 ?l17 ?c17 ?k17 ?a18 ?l18 ?c18 ?k18 ?z0 ?z1 ?z2 ?z3 ?z4 ?z5 ?z6 ?z7 ?z8
    (case a0 => k_is)
    (case l0 => k_is)
    (case c0 => k_is)
    (case k0 => k_is)
    (case a1 => k_is)
    (case l1 => k_is)
    (case c1 => k_is)
    (case k1 => k_is)
    (case a2 => k_is)
    (case l2 => k_is)
    (case c2 => k_is)
    (case k2 => k_is)
    (case a3 => k_is)
    (case l3 => k_is)
    (case c3 => k_is)
    (case k3 => k_is)
    (case a4 => k_is)
    (case l4 => k_is)
    (case c4 => k_is)
    (case k4 => k_is)
    (case a5 => k_is)
    (case l5 => k_is)
    (case c5 => k_is)
    (case k5 => k_is)
    (case a6 => k_is)
    (case l6 => k_is)
    (case c6 => k_is)
    (case k6 => k_is)
    (case a7 => k_is)
    (case l7 => k_is)
    (case c7 => k_is)
    (case k7 => k_is)
    (case a8 => k_is)
    (case l8 => k_is)
    (case c8 => k_is)
    (case k8 => k_is)
    (case a9 => k_is)
    (case l9 => k_is)
    (case c9 => k_is)
    (case k9 => k_is)
    (case a10 => k_is)
    (case l10 => k_is)
    (case c10 => k_is)
    (case k10 => k_is)
    (case a11 => k_is)
    (case l11 => k_is)
    (case c11 => k_is)
    (case k11 => k_is)
    (case a12 => k_is)
    (case l12 => k_is)
    (case c12 => k_is)
    (case k12 => k_is)
    (case a13 => k_is)
    (case l13 => k_is)
    (case c13 => k_is)
    (case k13 => k_is)
    (case a14 => k_is)
    (case l14 => k_is)
    (case c14 => k_is)
    (case k14 => k_is)
    (case a15 => k_is)
    (case l15 => k_is)
    (case c15 => k_is)
    (case k15 => k_is)
    (case a16 => k_is)
    (case l16 => k_is)
    (case c16 => k_is)
    (case k16 => k_is)
    (case a17 => k_is)
    (case l17 => k_is)
    (case c17 => k_is)
    (case k17 => k_is)
    (case a18 => k_is)
    (case l18 => k_is)
    (case c18 => k_is)
    (case k18 => k_is)
    (case z0 => k_is)
    (case z1 => k_is)
    (case z2 => k_is)
    (case z3 => k_is)
    (case z4 => k_is)
    (case z5 => k_is)
    (case z6 => k_is)
    (case z7 => k_is)
    (case z8 => k_is)
#print axioms PySem.Challenge.cw_pointsure_k30_facts_cut_holds
