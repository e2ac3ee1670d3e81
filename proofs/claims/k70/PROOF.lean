import PyProof.Rows.All
import Wide.All
import OpenK.AllK
import Wide.FinOn
import HandS.ForMost
import PySem.Challenge.RW_plugproof_k70_whole_readings
import HandS.Zip
import HandS.ListItems
import KE.KItemsList
import HandS.IsInst
import HandS.Defaults
import HandS.TupAny
import HandS.TupMul
import HandS.Style
import HandS.Conv
import HandS.Walk
import HandS.More
import HandS.Small
import HandS.Dict
import HandS.DictComp
import HandS.SortInts
import HandS.SetFor
import KE.KEqDict
import HandS.Sort
import HandS.ExcSuper
import HandS.ExcField
import HandS.ExcCtx
import HandS.ExcOwn
import HandS.WordsExc
import HandS.HotCalls
import HandS.ExcInitHot
import HandS.CallSlots
import HandS.Codes
import HandS.SortRule
import HandS.OwnEq
import PyProof.InstNe
import KE.KSortTupUse
import HandS.ExcIs
set_option Elab.async false
namespace Pf
open PySem PySem.Spec PyProof.Rows L2
def topS (i : Nat) : Stmt := PySem.Challenge.pw_plugproof_k70_whole_readings.main.body.getD i (.Pass ⟨0, 0, 0, 0⟩)
abbrev sBsI : Stmt := inClass (topS 3) 0
abbrev sWhole : Stmt := topS 13
abbrev sPl : Stmt := topS 14
abbrev sShI : Stmt := inClass (topS 15) 0
abbrev sShEq : Stmt := inClass (topS 15) 1
abbrev sTold : Stmt := inClass (topS 15) 2
abbrev sClk : Stmt := inClass (topS 15) 3
abbrev sDc : Stmt := inClass (topS 15) 4
abbrev sRc : Stmt := inClass (topS 15) 5
abbrev sUc : Stmt := inClass (topS 15) 6
abbrev sFp : Stmt := inClass (topS 15) 7
abbrev sBp : Stmt := inClass (topS 15) 8
abbrev sEh : Stmt := inClass (topS 15) 9
abbrev sCa : Stmt := topS 24
abbrev sDa : Stmt := topS 25
abbrev sRa : Stmt := topS 26
abbrev sIsD : Stmt := topS 27
abbrev sRo : Stmt := topS 28
abbrev sNf : Stmt := topS 29
abbrev sFc : Stmt := topS 30
abbrev sSz : Stmt := topS 31
abbrev sOw : Stmt := topS 32
abbrev sBo : Stmt := topS 33
abbrev sSpot : Stmt := topS 34
abbrev sBa : Stmt := topS 35
abbrev sDb : Stmt := topS 36
abbrev sPart : Stmt := topS 37
abbrev sNums : Stmt := topS 38
abbrev sCont : Stmt := topS 39
abbrev sPa : Stmt := topS 40
abbrev sMb : Stmt := topS 41
abbrev sMet : Stmt := topS 42
abbrev sNum : Stmt := topS 44
abbrev sTake : Stmt := topS 45
abbrev sPick : Stmt := topS 46
abbrev sUnl : Stmt := topS 47
abbrev sLco : Stmt := topS 48
abbrev sAny : Stmt := topS 49
abbrev sLir : Stmt := topS 50
abbrev sLam : Stmt := topS 51
abbrev sLan : Stmt := topS 52
abbrev sLrf : Stmt := topS 53
abbrev sLaw : Stmt := topS 54
end Pf

set_option Elab.async false
set_option linter.all false
set_option maxRecDepth 100000
set_option maxHeartbeats 4000000
/-! list(zip(t, u)) of two tuples: what the hand layer has no rule for -/
namespace LZ
open PySem PySem.Spec PyProof.Rows L2 RZ

/-- a zip whose last pair is held by somebody -/
abbrev IsZO (h : Heap) (z TI TO a : Addr) (f : Bool) : Prop :=
  h.get? z = some { cls := .type "zip", dict := none, data := .fields #[rawInt a, .bool f, .bool false, .ref TI, .ref TO], slots := #[] }
section
variable {prog : Program} {w : World} {A : Around} {E : Value → Shared → Prop} {s : Shared}
theorem notFree {z TI TO a : Addr} {f : Bool} {oa : Obj} {Q : Bool → Shared → Prop} (hz : IsZO s.heap z TI TO a f) (ha : s.heap.get? a = some oa)
    (hQ : ∀ h', IsZO h' z TI TO a true → Heap.SameBut z s.heap h' → Q false { s with heap := h' }) : wpAny (model prog w) A (Builtin.SmallTypes.ownedTupleIsFree (.ref z)) Q E s := by
  unfold Builtin.SmallTypes.ownedTupleIsFree
  refine wpAny_bind (wpAny_field hz rfl (x := rawInt a) rfl ?_)
  show wpAny _ _ (loadIfAlive ((a : Int).toNat) >>= _) _ _ _
  rw [Int.toNat_natCast]
  refine wpAny_bind (PySem.W.kdx_alive ha ?_)
  simp only [Option.isNone_some, Bool.false_eq_true, if_false]
  refine wpAny_bind (wpAny_field hz rfl (x := .bool f) rfl ?_)
  cases f with
  | true =>
    rw [if_neg (show ¬ ((Value.bool true != Value.bool true) = true) from Bool.false_ne_true)]
    exact wpAny_pure (hQ _ hz (Heap.SameBut.refl _ _))
  | false =>
    rw [if_pos (show (Value.bool false != Value.bool true) = true from rfl)]
    refine wpAny_bind (wpAny_setField_rec hz (by simp) fun h₃ he₃ hs₃ => ?_)
    exact wpAny_pure (hQ h₃ he₃ hs₃)
theorem zipO_next_item {z TI TO a i1 i2 l1 l2 : Addr} {f : Bool} {oa : Obj} {k1 k2 : Nat} {xs ys : Array Value} {x y : Value} {Q : Value → Shared → Prop} (D : ZipApart z TI TO i1 i2 l1 l2)
    (hz : IsZO s.heap z TI TO a f) (ha : s.heap.get? a = some oa) (hTI : IsPair s.heap TI (.ref i1) (.ref i2))
    (h1 : s.heap.IsTupleIter i1 l1 k1) (h2 : s.heap.IsTupleIter i2 l2 k2) (hl1 : s.heap.IsTuple l1 xs) (hl2 : s.heap.IsTuple l2 ys) (hx : xs[k1]? = some x) (hy : ys[k2]? = some y)
    (hQ : ∀ h', IsZO h' z TI TO a true → h'.IsTupleIter i1 l1 (k1 + 1) → h'.IsTupleIter i2 l2 (k2 + 1) → IsPair h' s.heap.objs.size x y → h'.objs.size = s.heap.objs.size + 1 →
      (∀ c o, c ≠ z → c ≠ i1 → c ≠ i2 → s.heap.get? c = some o → h'.get? c = some o) → Q (.ref s.heap.objs.size) { s with heap := h' }) :
    wpAny (model prog w) A (Builtin.«zip.__next__» ⟨[.ref z], []⟩) (fun fin s' => ∃ v, fin = .done (.ret v) ∧ Q v s') E s := by
  show wpAny _ _ (field (.ref z) 2 >>= _) _ _ _
  refine wpAny_bind (wpAny_field hz rfl (x := .bool false) rfl ?_)
  show wpAny _ _ (field (.ref z) 3 >>= _) _ _ _
  refine wpAny_bind (wpAny_field hz rfl (x := .ref TI) rfl ?_)
  refine wpAny_bind (wpAny_seqItems hTI rfl ?_)
  show wpAny _ _ (Builtin.SmallTypes.ownedTupleIsFree (.ref z) >>= _) _ _ _
  refine wpAny_bind (notFree hz ha fun h₁ hz₁ hs₁ => ?_)
  simp only [Bool.false_eq_true, if_false]
  refine wpAny_bind ?_
  rw [← Array.forIn_toList]
  simp only [List.forIn_cons, List.forIn_nil]
  refine wpAny_bind (wpAny_bind (wpAny_holding ?_))
  show wpAny _ _ (Builtin.SmallTypes.nextOf (.ref i1) >>= _) _ _ _
  refine wpAny_bind (nextOf_tuple_item (h1.extBut hs₁.extBut D.i1z) (hl1.extBut hs₁.extBut D.l1z) hx fun h₂ h1₂ hs₂ => wpAny_pure ?_)
  refine wpAny_pure ?_
  refine wpAny_bind (wpAny_bind (wpAny_holding ?_))
  show wpAny _ _ (Builtin.SmallTypes.nextOf (.ref i2) >>= _) _ _ _
  refine wpAny_bind (nextOf_tuple_item ((h2.extBut hs₁.extBut D.i2z).extBut hs₂.extBut D.i12.symm)
    ((hl2.extBut hs₁.extBut D.l2z).extBut hs₂.extBut D.l2i1) hy fun h₄ h2₄ hs₄ => wpAny_pure ?_)
  refine wpAny_pure (wpAny_pure ?_)
  refine wpAny_bind (wpAny_newTuple ?_ (by show 2 ≤ sizeLine; decide))
  have hsz : h₄.objs.size = s.heap.objs.size := by rw [hs₄.1, hs₂.1, hs₁.1]
  have hz₄ : IsZO h₄ z TI TO a true := hs₄.extBut _ _ D.i2z.symm (hs₂.extBut _ _ D.i1z.symm hz₁)
  have hk₄ : ∀ c o, c ≠ z → c ≠ i1 → c ≠ i2 → s.heap.get? c = some o → h₄.get? c = some o := fun c o c1 c3 c4 e =>
    hs₄.extBut _ _ c4 (hs₂.extBut _ _ c3 (hs₁.extBut _ _ c1 e))
  refine wpAny_pure ⟨_, rfl, ?_⟩
  show Q (.ref h₄.objs.size) _
  rw [hsz]
  exact hQ _ (Heap.get?_push_of_some _ hz₄) ((h1₂.extBut hs₄.extBut D.i12).at fun o e => Heap.get?_push_of_some _ e) (h2₄.at fun o e => Heap.get?_push_of_some _ e)
    (by rw [← hsz]; exact Heap.get?_push_size _ rfl) (by rw [Heap.size_push, hsz]) fun c o c1 c3 c4 e => Heap.get?_push_of_some _ (hk₄ c o c1 c3 c4 e)
theorem zipO_next_end {z TI TO a i1 i2 l1 l2 : Addr} {f : Bool} {oa : Obj} {k1 k2 : Nat} {xs ys : Array Value} {Q : Fin → Shared → Prop} (hh : A.handled = none) (D : ZipApart z TI TO i1 i2 l1 l2)
    (hz : IsZO s.heap z TI TO a f) (ha : s.heap.get? a = some oa) (hTI : IsPair s.heap TI (.ref i1) (.ref i2))
    (h1 : s.heap.IsTupleIter i1 l1 k1) (h2 : s.heap.IsTupleIter i2 l2 k2) (hl1 : s.heap.IsTuple l1 xs) (hl2 : s.heap.IsTuple l2 ys) (hend : xs[k1]? = none)
    (hE : ∀ h' e, (∀ c o, c ≠ z → c ≠ i1 → c ≠ i2 → s.heap.get? c = some o → h'.get? c = some o) → (∃ o, h'.get? e = some o ∧ o.cls = .type "StopIteration") → E (.ref e) { s with heap := h' }) :
    wpAny (model prog w) A (Builtin.«zip.__next__» ⟨[.ref z], []⟩) Q E s := by
  show wpAny _ _ (field (.ref z) 2 >>= _) _ _ _
  refine wpAny_bind (wpAny_field hz rfl (x := .bool false) rfl ?_)
  show wpAny _ _ (field (.ref z) 3 >>= _) _ _ _
  refine wpAny_bind (wpAny_field hz rfl (x := .ref TI) rfl ?_)
  refine wpAny_bind (wpAny_seqItems hTI rfl ?_)
  show wpAny _ _ (Builtin.SmallTypes.ownedTupleIsFree (.ref z) >>= _) _ _ _
  refine wpAny_bind (notFree hz ha fun h₁ hz₁ hs₁ => ?_)
  simp only [Bool.false_eq_true, if_false]
  refine wpAny_bind ?_
  rw [← Array.forIn_toList]
  simp only [List.forIn_cons, List.forIn_nil]
  refine wpAny_bind (wpAny_bind (wpAny_holding ?_))
  show wpAny _ _ (Builtin.SmallTypes.nextOf (.ref i1) >>= _) _ _ _
  refine wpAny_bind (nextOf_tuple_end hh (h1.extBut hs₁.extBut D.i1z) (hl1.extBut hs₁.extBut D.l1z) hend fun h₂ e hs₂ he => ?_)
  exact hE h₂ e (fun c o c1 c3 _ x => hs₂ _ _ c3 (hs₁.extBut _ _ c1 x)) he
theorem pyNext_zipO_item {z TI TO a i1 i2 l1 l2 : Addr} {f : Bool} {oa : Obj} {k1 k2 : Nat} {xs ys : Array Value} {x y : Value} {Q : Option Value → Shared → Prop} (D : ZipApart z TI TO i1 i2 l1 l2)
    (hz : IsZO s.heap z TI TO a f) (ha : s.heap.get? a = some oa) (hTI : IsPair s.heap TI (.ref i1) (.ref i2))
    (h1 : s.heap.IsTupleIter i1 l1 k1) (h2 : s.heap.IsTupleIter i2 l2 k2) (hl1 : s.heap.IsTuple l1 xs) (hl2 : s.heap.IsTuple l2 ys) (hx : xs[k1]? = some x) (hy : ys[k2]? = some y)
    (hQ : ∀ h', IsZO h' z TI TO a true → h'.IsTupleIter i1 l1 (k1 + 1) → h'.IsTupleIter i2 l2 (k2 + 1) → IsPair h' s.heap.objs.size x y → h'.objs.size = s.heap.objs.size + 1 →
      (∀ c o, c ≠ z → c ≠ i1 → c ≠ i2 → s.heap.get? c = some o → h'.get? c = some o) → Q (some (.ref s.heap.objs.size)) { s with heap := h' }) :
    wpAny (model prog w) A (pyNext (.ref z)) Q E s := by
  have hT : s.TypeIs (.ref z) "zip" := ⟨_, hz, rfl⟩
  unfold pyNext
  exact wpAny_bind (wpAny_attempt (wpAny_callSpecial?_slot (name := Str.ofString "__next__") hT F.slot_zip_next
    (wpAny_call_entry F.slot_zip_next hT F.entry_zip_next
      (zipO_next_item D hz ha hTI h1 h2 hl1 hl2 hx hy fun h' a1 a3 a4 a5 a6 a7 => wpAny_pure (hQ h' a1 a3 a4 a5 a6 a7)) (F.args_zip_next_1 _))))
theorem pyNext_zipO_end {z TI TO a i1 i2 l1 l2 : Addr} {f : Bool} {oa : Obj} {k1 k2 : Nat} {xs ys : Array Value} {Q : Option Value → Shared → Prop} (hh : A.handled = none) (D : ZipApart z TI TO i1 i2 l1 l2)
    (hz : IsZO s.heap z TI TO a f) (ha : s.heap.get? a = some oa) (hTI : IsPair s.heap TI (.ref i1) (.ref i2))
    (h1 : s.heap.IsTupleIter i1 l1 k1) (h2 : s.heap.IsTupleIter i2 l2 k2) (hl1 : s.heap.IsTuple l1 xs) (hl2 : s.heap.IsTuple l2 ys) (hend : xs[k1]? = none)
    (hQ : ∀ h', (∀ c o, c ≠ z → c ≠ i1 → c ≠ i2 → s.heap.get? c = some o → h'.get? c = some o) → Q none { s with heap := h' }) : wpAny (model prog w) A (pyNext (.ref z)) Q E s := by
  have hT : s.TypeIs (.ref z) "zip" := ⟨_, hz, rfl⟩
  unfold pyNext
  refine wpAny_bind (wpAny_attempt (wpAny_callSpecial?_slot (name := Str.ofString "__next__") hT F.slot_zip_next
    (wpAny_call_entry F.slot_zip_next hT F.entry_zip_next (zipO_next_end hh D hz ha hTI h1 h2 hl1 hl2 hend fun h' e hk he => ?_) (F.args_zip_next_1 _))))
  obtain ⟨o, ho, hc⟩ := he
  refine wpAny_bind (wpAny_isInstance (T := "StopIteration") (b := true) ⟨o, ho, hc⟩ isSubtype_stop ?_)
  exact wpAny_pure (hQ _ hk)
/-- where a zip of two tuples stands: its first pair to come, or later; the list at S is none of its objects -/
structure ZS (h : Heap) (z TI TO i1 i2 l1 l2 S : Addr) (i : Nat) : Prop where
  zz : (i = 0 ∧ IsZip h z TI TO .none ∧ ∃ x y, IsPair h TO x y) ∨ ∃ a f oa, IsZO h z TI TO a f ∧ h.get? a = some oa ∧ a ≠ S ∧ a ≠ z ∧ a ≠ i1 ∧ a ≠ i2
  ti : IsPair h TI (.ref i1) (.ref i2)
  h1 : h.IsTupleIter i1 l1 i
  h2 : h.IsTupleIter i2 l2 i
theorem ZS.keep {h h' : Heap} {z TI TO i1 i2 l1 l2 S : Addr} {i : Nat} (x : ZS h z TI TO i1 i2 l1 l2 S i) (hk : ∀ b o, b ≠ S → h.get? b = some o → h'.get? b = some o) (nz : z ≠ S) (nTI : TI ≠ S) (nTO : TO ≠ S) (n1 : i1 ≠ S) (n2 : i2 ≠ S) : ZS h' z TI TO i1 i2 l1 l2 S i := by
  obtain ⟨zz, ti, h1, h2⟩ := x
  refine ⟨?_, hk _ _ nTI ti, h1.at fun o e => hk _ o n1 e, h2.at fun o e => hk _ o n2 e⟩
  rcases zz with ⟨e, hz, a, b, ht⟩ | ⟨a, f, oa, hz, ha, n3, n4⟩
  · exact .inl ⟨e, hk _ _ nz hz, a, b, hk _ _ nTO ht⟩
  · exact .inr ⟨a, f, oa, hk _ _ nz hz, hk _ _ n3 ha, n3, n4⟩
theorem zs_item {z TI TO i1 i2 l1 l2 S : Addr} {i : Nat} {xs ys : Array Value} {x y : Value} {Q : Option Value → Shared → Prop} (D : ZipApart z TI TO i1 i2 l1 l2) (st : ZS s.heap z TI TO i1 i2 l1 l2 S i) (hS : S < s.heap.objs.size)
    (hl1 : s.heap.IsTuple l1 xs) (hl2 : s.heap.IsTuple l2 ys) (hx : xs[i]? = some x) (hy : ys[i]? = some y)
    (hQ : ∀ h', ZS h' z TI TO i1 i2 l1 l2 S (i + 1) → IsPair h' s.heap.objs.size x y → h'.objs.size = s.heap.objs.size + 1 →
      (∀ c o, c ≠ z → c ≠ TO → c ≠ i1 → c ≠ i2 → s.heap.get? c = some o → h'.get? c = some o) → Q (some (.ref s.heap.objs.size)) { s with heap := h' }) :
    wpAny (model prog w) A (pyNext (.ref z)) Q E s := by
  obtain ⟨zz, ti, h1, h2⟩ := st
  have l1 : i1 < s.heap.objs.size := let ⟨_, e, _⟩ := h1; Heap.lt_size e
  have l2 : i2 < s.heap.objs.size := let ⟨_, e, _⟩ := h2; Heap.lt_size e
  rcases zz with ⟨rfl, hz, a, b, ht⟩ | ⟨a, f, oa, hz, ha, n3, n4, n5, n6⟩
  · have lz : z < s.heap.objs.size := Heap.lt_size hz
    exact pyNext_zipT_item D hz ti ht h1 h2 hl1 hl2 hx hy fun h' a1 a2 a3 a4 a5 a6 a7 => hQ h' ⟨.inr ⟨_, false, _, a1, a5, Nat.ne_of_gt hS, Nat.ne_of_gt lz, Nat.ne_of_gt l1, Nat.ne_of_gt l2⟩, a7 _ _ D.TIz D.TITO D.TIi1 D.TIi2 ti, a3, a4⟩ a5 a6 a7
  · exact pyNext_zipO_item D hz ha ti h1 h2 hl1 hl2 hx hy fun h' a1 a3 a4 a5 a6 a7 => hQ h' ⟨.inr ⟨a, true, oa, a1, a7 _ _ n4 n5 n6 ha, n3, n4, n5, n6⟩, a7 _ _ D.TIz D.TIi1 D.TIi2 ti, a3, a4⟩ a5 a6 fun c o c1 _ c3 c4 => a7 c o c1 c3 c4
theorem zs_end {z TI TO i1 i2 l1 l2 S : Addr} {i : Nat} {xs ys : Array Value} {Q : Option Value → Shared → Prop} (hh : A.handled = none) (D : ZipApart z TI TO i1 i2 l1 l2) (st : ZS s.heap z TI TO i1 i2 l1 l2 S i)
    (hl1 : s.heap.IsTuple l1 xs) (hl2 : s.heap.IsTuple l2 ys) (hend : xs[i]? = none)
    (hQ : ∀ h', (∀ c o, c ≠ z → c ≠ TO → c ≠ i1 → c ≠ i2 → s.heap.get? c = some o → h'.get? c = some o) → Q none { s with heap := h' }) :
    wpAny (model prog w) A (pyNext (.ref z)) Q E s := by
  obtain ⟨zz, ti, h1, h2⟩ := st
  rcases zz with ⟨rfl, hz, a, b, ht⟩ | ⟨a, f, oa, hz, ha, n3, n4⟩
  · exact pyNext_zipT_end hh D hz ti ht h1 h2 hl1 hl2 (.inl hend) hQ
  · exact pyNext_zipO_end hh D hz ha ti h1 h2 hl1 hl2 hend fun h' k => hQ h' fun c o c1 _ c3 c4 => k c o c1 c3 c4
/-- the pairs made so far -/
structure PG (xs ys : Array Value) (lo : Addr) (h : Heap) (as : List Addr) : Prop where
  rise : as.Pairwise (· < ·)
  above : ∀ a ∈ as, lo < a
  pairs : ∀ (j : Nat) (a : Addr), as[j]? = some a → ∃ x y, xs[j]? = some x ∧ ys[j]? = some y ∧ IsPair h a x y
theorem PG.there {xs ys : Array Value} {lo : Addr} {h : Heap} {as : List Addr} (g : PG xs ys lo h as) {a : Addr} (ha : a ∈ as) : a < h.objs.size := by
  obtain ⟨j, hj⟩ := List.mem_iff_getElem?.mp ha
  obtain ⟨_, _, _, _, e⟩ := g.pairs j a hj
  exact Heap.lt_size e
end
section
variable {prog : Program} {w : World} {A : Around} {s : Shared} {R : Result → Shared → Prop} {xs ys : Array Value}
theorem zip_loop {S z TI TO i1 i2 l1 l2 M : Addr} (hh : A.handled = none) (D : ZipApart z TI TO i1 i2 l1 l2) (hz : z ≤ M) (hi1 : i1 ≤ M) (hi2 : i2 ≤ M) (hTO : TO ≤ M) (hSM : S ≤ M) (hSz : z ≠ S) (hSTI : TI ≠ S) (hSTO : TO ≠ S) (hS1 : i1 ≠ S) (hS2 : i2 ≠ S) (hSl1 : l1 ≠ S) (hSl2 : l2 ≠ S) (hxy : xs.size = ys.size) (hn : xs.size ≤ sizeLine) (res : Value) {h₁ : Heap}
    (hR : ∀ h' tk acc c as, (∀ b o, b ≠ S → b ≠ z → b ≠ TO → b ≠ i1 → b ≠ i2 → h₁.get? b = some o → h'.get? b = some o) → h'.get? S = some { cls := .type "list", dict := none, data := .seq acc c, slots := #[] } → as.length = xs.size → PG xs ys M h' as →
      acc.toList = as.map Value.ref → R (.ok (.ret res)) { s with heap := h', toks := tk }) :
    ∀ (k i : Nat) (h : Heap) (tk c : Nat) (acc : Array Value) (as : List Addr), xs.size - i = k → i ≤ xs.size → ZS h z TI TO i1 i2 l1 l2 S i → h.IsTuple l1 xs → h.IsTuple l2 ys → (∀ b o, b ≠ S → b ≠ z → b ≠ TO → b ≠ i1 → b ≠ i2 → h₁.get? b = some o → h.get? b = some o) →
      h.get? S = some { cls := .type "list", dict := none, data := .seq acc c, slots := #[] } → acc.toList = as.map Value.ref → as.length = i → PG xs ys M h as → M < h.objs.size →
      codeAny (model prog w) A (.builtin "list.extend.loop" ⟨[.ref S, .ref z, res], []⟩) R { s with heap := h, toks := tk } := by
  intro k
  induction k with
  | zero =>
    intro i h tk c acc as hk hi hst hl1 hl2 hkeep hS hacc hal hG hIs
    refine codeAny_builtin PySem.F.entry_extend_loop ?_
    rw [Around.under_plainId PySem.F.plain_extend_loop _]
    show wpAny _ A.in1 (pyNext (.ref z) >>= _) _ _ _
    refine wpAny_bind (zs_end (s := { s with heap := h, toks := tk }) (A := A.in1) hh D hst hl1 hl2 (Array.getElem?_eq_none (by omega)) fun h' he => ?_)
    have nM : ∀ {a : Addr}, M < a → a ≠ z ∧ a ≠ TO ∧ a ≠ i1 ∧ a ≠ i2 := fun hM => ⟨Nat.ne_of_gt (Nat.lt_of_le_of_lt hz hM), Nat.ne_of_gt (Nat.lt_of_le_of_lt hTO hM), Nat.ne_of_gt (Nat.lt_of_le_of_lt hi1 hM), Nat.ne_of_gt (Nat.lt_of_le_of_lt hi2 hM)⟩
    refine wpAny_pure (hR h' tk acc c as (fun b o h0 h1 h2 h3 h4 e => he b o h1 h2 h3 h4 (hkeep b o h0 h1 h2 h3 h4 e)) (he S _ hSz.symm hSTO.symm hS1.symm hS2.symm hS) (by omega) ⟨hG.rise, hG.above, fun j a hj => ?_⟩ hacc)
    obtain ⟨x, y, e1, e2, e3⟩ := hG.pairs j a hj
    obtain ⟨m1, m2, m3, m4⟩ := nM (hG.above a (List.mem_of_getElem? hj))
    exact ⟨x, y, e1, e2, he a _ m1 m2 m3 m4 e3⟩
  | succ k ih =>
    intro i h tk c acc as hk hi hst hl1 hl2 hkeep hS hacc hal hG hIs
    have hlt : i < xs.size := by omega
    obtain ⟨x, hx⟩ : ∃ p, xs[i]? = some p := ⟨xs[i], Array.getElem?_eq_getElem hlt⟩
    obtain ⟨y, hy⟩ : ∃ p, ys[i]? = some p := ⟨ys[i]'(by omega), Array.getElem?_eq_getElem (by omega)⟩
    have hsz : acc.size = i := by rw [← Array.length_toList, hacc, List.length_map, hal]
    refine codeAny_builtin PySem.F.entry_extend_loop ?_
    rw [Around.under_plainId PySem.F.plain_extend_loop _]
    show wpAny _ A.in1 (pyNext (.ref z) >>= _) _ _ _
    refine wpAny_bind (zs_item (s := { s with heap := h, toks := tk }) (S := S) D hst (Heap.lt_size hS) hl1 hl2 hx hy fun h' hst' ht hz' hkp => ?_)
    dsimp only at ht hz' hkp ⊢
    have hS' := hkp S _ hSz.symm hSTO.symm hS1.symm hS2.symm hS
    have up : ∀ b o, b ≠ S → h'.get? b = some o → (h'.update S (Obj.mapSeq (·.push (Value.ref h.objs.size)))).get? b = some o := fun b o hb e => (Heap.get?_update_other _ _ (Ne.symm hb)).trans e
    have hSl : S < h.objs.size := Heap.lt_size hS
    have nM : ∀ {a : Addr}, M < a → a ≠ z ∧ a ≠ TO ∧ a ≠ i1 ∧ a ≠ i2 ∧ a ≠ S := fun hM => ⟨Nat.ne_of_gt (Nat.lt_of_le_of_lt hz hM), Nat.ne_of_gt (Nat.lt_of_le_of_lt hTO hM), Nat.ne_of_gt (Nat.lt_of_le_of_lt hi1 hM), Nat.ne_of_gt (Nat.lt_of_le_of_lt hi2 hM), Nat.ne_of_gt (Nat.lt_of_le_of_lt hSM hM)⟩
    have tup : ∀ {l : Addr} {vs : Array Value}, l ≠ S → l ≠ z → l ≠ TO → l ≠ i1 → l ≠ i2 → h.IsTuple l vs → (h'.update S (Obj.mapSeq (·.push (Value.ref h.objs.size)))).IsTuple l vs := fun n0 n1 n2 n3 n4 ht => by
      obtain ⟨o, ho, r⟩ := ht
      exact ⟨o, up _ _ n0 (hkp _ _ n1 n2 n3 n4 ho), r⟩
    show wpAny _ A.in1 (updateSeq S (·.push (Value.ref h.objs.size)) >>= _) _ _ _
    refine wpAny_bind ?_
    refine wpAny_updateSeq hS' rfl (wpAny_pure ⟨plainId_quiet PySem.F.plain_extend_loop _, ih (i + 1) _ tk _ (acc.push (Value.ref h.objs.size)) (as ++ [h.objs.size]) (by omega) hlt (hst'.keep up hSz hSTI hSTO hS1 hS2) (tup hSl1 D.l1z D.l1TO D.l1i1 D.l1i2 hl1) (tup hSl2 D.l2z D.l2TO D.l2i1 D.l2i2 hl2)
      (fun b o h0 h1 h2 h3 h4 e => up b o h0 (hkp b o h1 h2 h3 h4 (hkeep b o h0 h1 h2 h3 h4 e))) (Heap.get?_update_self _ hS' rfl) (by rw [Array.toList_push, hacc, List.map_append]; rfl) (by rw [List.length_append, hal]; rfl) ⟨?_, ?_, ?_⟩ ?_⟩) (by rw [hsz]; omega) (by show (acc.push (Value.ref h.objs.size)).size ≤ sizeLine + 1; rw [Array.size_push, hsz]; omega)
    · refine List.pairwise_append.mpr ⟨hG.rise, List.pairwise_singleton _ _, fun a ha b hb => ?_⟩
      rw [List.mem_singleton.mp hb]
      exact hG.there ha
    · intro a ha
      rcases List.mem_append.mp ha with ha | ha
      · exact hG.above a ha
      · rw [List.mem_singleton.mp ha]; exact hIs
    · intro j b hj
      rcases Nat.lt_trichotomy j as.length with h1 | h1 | h1
      · rw [List.getElem?_append_left h1] at hj
        obtain ⟨x', y', e1, e2, e3⟩ := hG.pairs j b hj
        obtain ⟨m1, m2, m3, m4, m5⟩ := nM (hG.above b (List.mem_of_getElem? hj))
        exact ⟨x', y', e1, e2, up b _ m5 (hkp b _ m1 m2 m3 m4 e3)⟩
      · subst h1
        have hb : h.objs.size = b := by simpa using hj
        subst hb
        exact ⟨x, y, by rw [hal]; exact hx, by rw [hal]; exact hy, up _ _ (Nat.ne_of_gt hSl) ht⟩
      · have hnone : (as ++ [h.objs.size])[j]? = none := List.getElem?_eq_none (by rw [List.length_append, List.length_singleton]; omega)
        rw [hnone] at hj; cases hj
    · have e : (h'.update S (Obj.mapSeq (·.push (Value.ref h.objs.size)))).get? h.objs.size = _ := up _ _ (Nat.ne_of_gt hSl) ht
      exact Nat.lt_trans hIs (Heap.lt_size e)
end
theorem zip_no_len : typeLookup (.type "zip") "__len__" = pure none := by rw [typeLookup_type, builtinLookup_eq_fast]; kernel_rfl
theorem zip_no_hint : typeLookup (.type "zip") "__length_hint__" = pure none := by rw [typeLookup_type, builtinLookup_eq_fast]; kernel_rfl
end LZ

set_option Elab.async false
set_option linter.all false
set_option maxRecDepth 100000
set_option maxHeartbeats 4000000
namespace LZ
open PySem PySem.Spec PyProof.Rows L2 RZ
section
variable {prog : Program} {w : World} {A : Around} {E : Value → Shared → Prop} {s : Shared} {xs ys : Array Value}
theorem zip_extend {R : Result → Shared → Prop} {S z TI TO i1 i2 l1 l2 : Addr} (hh : A.handled = none) (D : ZipApart z TI TO i1 i2 l1 l2) (hz : z < S) (hi1 : i1 < S) (hi2 : i2 < S) (hTO : TO < S) (hTI : TI < S) (hl1 : l1 < S) (hl2 : l2 < S) (hxy : xs.size = ys.size) (hn : xs.size ≤ sizeLine) (res : Value) (c₀ : Nat)
    (st : ZS s.heap z TI TO i1 i2 l1 l2 S 0) (h0 : ∃ f0, IsZip s.heap z TI TO f0) (t1 : s.heap.IsTuple l1 xs) (t2 : s.heap.IsTuple l2 ys) (hS : s.heap.get? S = some { cls := .type "list", data := .seq #[] c₀ })
    (hR : ∀ h' tk acc c as, (∀ b o, b ≠ S → b ≠ z → b ≠ TO → b ≠ i1 → b ≠ i2 → s.heap.get? b = some o → h'.get? b = some o) → h'.get? S = some { cls := .type "list", dict := none, data := .seq acc c, slots := #[] } → as.length = xs.size → PG xs ys S h' as →
      acc.toList = as.map Value.ref → R (.ok (.ret res)) { s with heap := h', toks := tk }) :
    wpAny (model prog w) A.in1 (Builtin.List.listExtendWith (.ref S) (.ref z) res)
      (fun fin s' => match fin with | .done f => R (.ok f) s' | .again c' => c'.quiet = true ∧ codeAny (model prog w) A c' R s') (fun e s' => R (.error e) s') s := by
  obtain ⟨f0, hz0⟩ := h0
  have nz : z ≠ S := Nat.ne_of_lt hz
  have hT : s.TypeIs (.ref z) "zip" := ⟨_, hz0, rfl⟩
  unfold Builtin.List.listExtendWith
  refine wpAny_bind (wpAny_typeOf hT ?_)
  have h1 : Builtin.List.listSameRef (.ref S) (.ref z) = false := by simp [Builtin.List.listSameRef, nz.symm]
  have h2 : (Value.type "zip" == Value.type "list") = false := by decide
  have h3 : (Value.type "zip" == Value.type "tuple") = false := by decide
  simp only [h1, h2, h3, Bool.or_false, Bool.false_eq_true, if_false]
  refine wpAny_bind (wpAny_pyIter_zip hz0 ?_)
  refine wpAny_bind (wpAny_holding ?_)
  unfold Builtin.List.listLengthHint
  refine wpAny_bind (wpAny_specialOf hT zip_no_len ?_)
  show wpAny _ A.in1 (specialOf (Value.ref z) (Str.ofString "__length_hint__") >>= _) _ _ _
  refine wpAny_bind (wpAny_specialOf hT zip_no_hint ?_)
  refine wpAny_pure ?_
  show wpAny _ A.in1 (rule "list.extend.makes-room" >>= fun _ => Builtin.List.listTouch (.ref S) >>= fun _ =>
    again (.builtin "list.extend.loop" ⟨[.ref S, .ref z, res], []⟩)) _ _ _
  refine wpAny_bind (wpAny_rule ?_)
  refine wpAny_bind ?_
  show wpAny _ A.in1 (updateSeq S (·.push .none) >>= fun _ => updateSeq S (·.pop)) _ _ _
  refine wpAny_bind (wpAny_updateSeq hS rfl ?_)
  have hS₂ := Heap.get?_update_self (Obj.mapSeq (·.push Value.none)) hS rfl
  refine wpAny_updateSeq (hz := by seq_fits) hS₂ rfl ?_
  have hS₃ := Heap.get?_update_self (Obj.mapSeq (·.pop)) hS₂ rfl
  have oth : ∀ b o, b ≠ S → s.heap.get? b = some o → ((s.heap.update S (Obj.mapSeq (·.push Value.none))).update S (Obj.mapSeq (·.pop))).get? b = some o :=
    fun b o hb e => (Heap.get?_update_other _ _ (Ne.symm hb)).trans ((Heap.get?_update_other _ _ (Ne.symm hb)).trans e)
  have tup : ∀ {l : Addr} {vs : Array Value}, l ≠ S → s.heap.IsTuple l vs → ((s.heap.update S (Obj.mapSeq (·.push Value.none))).update S (Obj.mapSeq (·.pop))).IsTuple l vs := fun n ht => by
    obtain ⟨o, ho, r⟩ := ht
    exact ⟨o, oth _ _ n ho, r⟩
  exact wpAny_pure ⟨plainId_quiet PySem.F.plain_extend_loop _, zip_loop (s := s) (h₁ := s.heap) (M := S) hh D (Nat.le_of_lt hz) (Nat.le_of_lt hi1) (Nat.le_of_lt hi2) (Nat.le_of_lt hTO) (Nat.le_refl _) nz (Nat.ne_of_lt hTI) (Nat.ne_of_lt hTO) (Nat.ne_of_lt hi1) (Nat.ne_of_lt hi2) (Nat.ne_of_lt hl1) (Nat.ne_of_lt hl2) hxy hn res hR
    xs.size 0 _ s.toks _ #[] [] (Nat.sub_zero _) (Nat.zero_le _) (st.keep oth nz (Nat.ne_of_lt hTI) (Nat.ne_of_lt hTO) (Nat.ne_of_lt hi1) (Nat.ne_of_lt hi2)) (tup (Nat.ne_of_lt hl1) t1) (tup (Nat.ne_of_lt hl2) t2) (fun b o h0 _ _ _ _ e => oth b o h0 e) hS₃ rfl rfl
    ⟨List.Pairwise.nil, (fun _ ha => nomatch ha), (fun j a hj => by simp at hj)⟩ (Heap.lt_size hS₃)⟩
theorem zip_init {R : Result → Shared → Prop} {S z TI TO i1 i2 l1 l2 : Addr} (hh : A.handled = none) (D : ZipApart z TI TO i1 i2 l1 l2) (hz : z < S) (hi1 : i1 < S) (hi2 : i2 < S) (hTO : TO < S) (hTI : TI < S) (hl1 : l1 < S) (hl2 : l2 < S) (hxy : xs.size = ys.size) (hn : xs.size ≤ sizeLine)
    (st : ZS s.heap z TI TO i1 i2 l1 l2 S 0) (h0 : ∃ f0, IsZip s.heap z TI TO f0) (t1 : s.heap.IsTuple l1 xs) (t2 : s.heap.IsTuple l2 ys) (hS : s.heap.get? S = some { cls := .type "list", data := .seq #[] })
    (hR : ∀ h' tk acc c as, (∀ b o, b ≠ S → b ≠ z → b ≠ TO → b ≠ i1 → b ≠ i2 → s.heap.get? b = some o → h'.get? b = some o) → h'.get? S = some { cls := .type "list", dict := none, data := .seq acc c, slots := #[] } → as.length = xs.size → PG xs ys S h' as →
      acc.toList = as.map Value.ref → R (.ok (.ret .none)) { s with heap := h', toks := tk }) :
    wpAny (model prog w) A.in1 (Builtin.«list.__init__» ⟨[.ref S, .ref z], []⟩)
      (fun fin s' => match fin with | .done f => R (.ok f) s' | .again c' => c'.quiet = true ∧ codeAny (model prog w) A c' R s') (fun e s' => R (.error e) s') s := by
  show wpAny _ _ (do let old ← Builtin.List.listItems (.ref S); Builtin.List.listUpdate (.ref S) (fun _ => #[]); letGo old.toList.reverse; Builtin.List.listExtendWith (.ref S) (.ref z) .none) _ _ s
  refine wpAny_bind ?_
  unfold Builtin.List.listItems
  refine wpAny_bind (wpAny_seqItems hS rfl (wpAny_pure ?_))
  show wpAny _ _ (updateSeq S (fun _ => #[]) >>= fun _ => letGo (#[] : Array Value).toList.reverse >>= fun _ => Builtin.List.listExtendWith (.ref S) (.ref z) .none) _ _ s
  refine wpAny_bind (wpAny_updateSeq hS rfl ?_)
  have hS₂ := Heap.get?_update_self (Obj.mapSeq (fun _ => (#[] : Array Value))) hS rfl
  have oth : ∀ b o, b ≠ S → s.heap.get? b = some o → (s.heap.update S (Obj.mapSeq (fun _ => (#[] : Array Value)))).get? b = some o :=
    fun b o hb e => (Heap.get?_update_other _ _ (Ne.symm hb)).trans e
  have tup : ∀ {l : Addr} {vs : Array Value}, l ≠ S → s.heap.IsTuple l vs → (s.heap.update S (Obj.mapSeq (fun _ => (#[] : Array Value)))).IsTuple l vs := fun n ht => by
    obtain ⟨o, ho, r⟩ := ht
    exact ⟨o, oth _ _ n ho, r⟩
  refine wpAny_bind (wpAny_letGo ?_)
  exact zip_extend (s := { s with heap := s.heap.update S (Obj.mapSeq (fun _ => (#[] : Array Value))) }) hh D hz hi1 hi2 hTO hTI hl1 hl2 hxy hn .none _ (st.keep oth (Nat.ne_of_lt hz) (Nat.ne_of_lt hTI) (Nat.ne_of_lt hTO) (Nat.ne_of_lt hi1) (Nat.ne_of_lt hi2)) (let ⟨f, e⟩ := h0; ⟨f, oth _ _ (Nat.ne_of_lt hz) e⟩)
    (tup (Nat.ne_of_lt hl1) t1) (tup (Nat.ne_of_lt hl2) t2) hS₂ (fun h' tk acc c as hk hS' hl hG hacc => hR h' tk acc c as (fun b o h0 h1 h2 h3 h4 e => hk b o h0 h1 h2 h3 h4 (oth b o h0 e)) hS' hl hG hacc)
theorem zip_list {Q : Value → Shared → Prop} {z TI TO i1 i2 l1 l2 : Addr} (hh : A.handled = none) (D : ZipApart z TI TO i1 i2 l1 l2) (hxy : xs.size = ys.size) (hn : xs.size ≤ sizeLine)
    (hz : IsZip s.heap z TI TO .none) (hTI : IsPair s.heap TI (.ref i1) (.ref i2)) (hTO : IsPair s.heap TO .none .none) (h1 : s.heap.IsTupleIter i1 l1 0) (h2 : s.heap.IsTupleIter i2 l2 0) (t1 : s.heap.IsTuple l1 xs) (t2 : s.heap.IsTuple l2 ys)
    (hQ : ∀ h' tk acc c as, (∀ b o, b ≠ z → b ≠ TO → b ≠ i1 → b ≠ i2 → s.heap.get? b = some o → h'.get? b = some o) → h'.get? s.heap.objs.size = some { cls := .type "list", dict := none, data := .seq acc c, slots := #[] } → as.length = xs.size → PG xs ys s.heap.objs.size h' as →
      acc.toList = as.map Value.ref → Q (.ref s.heap.objs.size) { s with heap := h', toks := tk }) :
    wpAny (model prog w) A (call (.type "list") [.ref z]) Q E s := by
  refine callType_codes (Q₁ := fun obj s₁ => obj = .ref s.heap.objs.size ∧ s₁ = { s with heap := s.heap.push { cls := .type "list", data := .seq #[] } }) PySem.F.called_list (PySem.F.typeCall_list_1 _) PySem.F.entry_list_init
    (code_list_new _ ⟨rfl, rfl⟩) fun obj s₁ h₁ => ?_
  obtain ⟨rfl, rfl⟩ := h₁
  have hS : (s.heap.push { cls := .type "list", data := .seq #[] }).get? s.heap.objs.size = some { cls := .type "list", data := .seq #[] } := Heap.get?_push_size _ rfl
  have up : ∀ b o, s.heap.get? b = some o → (s.heap.push { cls := .type "list", data := .seq #[] }).get? b = some o := fun b o e => Heap.get?_push_of_some _ e
  have tup : ∀ {l : Addr} {vs : Array Value}, s.heap.IsTuple l vs → (s.heap.push { cls := .type "list", data := .seq #[] }).IsTuple l vs := fun ht => by
    obtain ⟨o, ho, r⟩ := ht
    exact ⟨o, up _ _ ho, r⟩
  have lt : ∀ {b : Addr} {o : Obj}, s.heap.get? b = some o → b < s.heap.objs.size := fun e => Heap.lt_size e
  have lT : ∀ {l : Addr} {vs : Array Value}, s.heap.IsTuple l vs → l < s.heap.objs.size := fun ht => by
    obtain ⟨o, ho, r⟩ := ht
    exact lt ho
  have li : ∀ {i l : Addr} {k : Nat}, s.heap.IsTupleIter i l k → i < s.heap.objs.size := fun ht => by
    obtain ⟨o, ho, r⟩ := ht
    exact lt ho
  refine ⟨⟨_, hS, rfl⟩, PySem.F.args_list_init_2 _ _, zip_init (A := A.in1) hh D (lt hz) (li h1) (li h2) (lt hTO) (lt hTI) (lT t1) (lT t2) hxy hn ⟨.inl ⟨rfl, up _ _ hz, _, _, up _ _ hTO⟩, up _ _ hTI, h1.at fun o e => up _ o e, h2.at fun o e => up _ o e⟩ ⟨_, up _ _ hz⟩ (tup t1) (tup t2) hS (fun h' tk acc c as hk hS' hl hG hacc => ?_)⟩
  exact ⟨rfl, hQ h' tk acc c as (fun b o n1 n2 n3 n4 e => hk b o (Nat.ne_of_lt (Heap.lt_size e)) n1 n2 n3 n4 (up b o e)) hS' hl hG hacc⟩
end
/-! ### over the layer -/
def putP : Hp → List Addr → List V → List V → Hp
  | H, a :: as, x :: xs, y :: ys => putP (upd H a (.tup [x, y])) as xs ys
  | H, _, _, _ => H
theorem putP_off {b : Addr} : ∀ (as : List Addr) (xs ys : List V) (H : Hp), b ∉ as → putP H as xs ys b = H b
  | [], _, _, _, _ => rfl
  | _ :: _, [], _, _, _ => rfl
  | _ :: _, _ :: _, [], _, _ => rfl
  | a :: as, x :: xs, y :: ys, H, h => by
    show putP (upd H a (.tup [x, y])) as xs ys b = H b
    rw [putP_off as xs ys _ (fun z => h (List.mem_cons_of_mem _ z)), upd_ne (fun z => h (by rw [z]; exact List.mem_cons_self))]
theorem putP_at : ∀ (as : List Addr) (xs ys : List V) (H : Hp), as.length = xs.length → xs.length = ys.length → as.Nodup → ∀ (j : Nat) (a : Addr), as[j]? = some a → ∃ x y, xs[j]? = some x ∧ ys[j]? = some y ∧ putP H as xs ys a = some (.tup [x, y])
  | [], _, _, _, _, _, _, j, a, h => by simp at h
  | _ :: _, [], _, _, h, _, _, _, _, _ => by cases h
  | _ :: _, _ :: _, [], _, _, h, _, _, _, _ => by cases h
  | b :: as, x :: xs, y :: ys, H, h1, h2, hn, 0, a, e => by
    cases (Option.some.inj e)
    have hn' := List.nodup_cons.mp hn
    refine ⟨x, y, rfl, rfl, ?_⟩
    show putP (upd H b (.tup [x, y])) as xs ys b = some (.tup [x, y])
    rw [putP_off as xs ys _ hn'.1, upd_same]
  | b :: as, x :: xs, y :: ys, H, h1, h2, hn, j + 1, a, e => by
    have hn' := List.nodup_cons.mp hn
    exact putP_at as xs ys (upd H b (.tup [x, y])) (Nat.succ.inj h1) (Nat.succ.inj h2) hn'.2 j a e
theorem vals_refs : ∀ as : List Addr, Vals (as.map V.ref) (as.map Value.ref)
  | [] => .nil
  | _ :: as => .cons rfl (vals_refs as)
def rLZ (H : Hp) (xs ys : List V) (Q : VK) : Prop :=
  ∀ (H' : Hp) (p : Addr) (ts : List Addr), Same H H' → H p = none → (∀ t ∈ ts, H t = none) → p ∉ ts → ts.length = xs.length → H' p = some (.lst (ts.map V.ref)) → (∀ (j : Nat) (t : Addr), ts[j]? = some t → ∃ x y, xs[j]? = some x ∧ ys[j]? = some y ∧ H' t = some (.tup [x, y])) → Q (.ref p) H'
def tLZ (K : PySem.W.Frag) (ta : TA) : TE := fun σ H Q => ta σ H fun vs H1 => ∃ a b xs ys, vs = [.ref a, .ref b] ∧ SqT K H1 a xs ∧ SqT K H1 b ys ∧ xs.length = ys.length ∧ xs.length ≤ 1000 ∧ rLZ H1 xs ys Q
section
variable {X : Cx} {e e2 : Expr} {ta : TA} {p p2 pos pos2 : Pos}
theorem zip_laid {pins : List (Addr × Obj)} {σ : L2.St} {H : Hp} {s : Shared} {h' : Heap} {tk : Nat} {xs ys : List V} {ux uy : List Value} {acc : Array Value} {c : Nat} {as : List Addr} {S : Addr} (I : Inv X pins σ H s) (hz : xs.length ≤ 1000) (hxy : xs.length = ys.length) (vx : Vals xs ux) (vy : Vals ys uy)
    (hk : ∀ b o, s.heap.get? b = some o → h'.get? b = some o) (hS : h'.get? S = some { cls := .type "list", dict := none, data := .seq acc c, slots := #[] }) (hSs : s.heap.objs.size ≤ S) (hl : as.length = xs.length) (hG : PG ux.toArray uy.toArray S h' as) (hacc : acc.toList = as.map Value.ref) :
    ∃ H' : Hp, Same H H' ∧ H S = none ∧ (∀ t ∈ as, H t = none) ∧ S ∉ as ∧ H' S = some (.lst (as.map V.ref)) ∧ (∀ (j : Nat) (t : Addr), as[j]? = some t → ∃ x y, xs[j]? = some x ∧ ys[j]? = some y ∧ H' t = some (.tup [x, y])) ∧ Inv X pins σ H' { s with heap := h', toks := tk } := by
  have hSn : S ∉ as := fun z => Nat.lt_irrefl _ (hG.above _ z)
  have nd : as.Nodup := List.Pairwise.imp (fun {a b} (h : a < b) => Nat.ne_of_lt h) hG.rise
  have new : ∀ t ∈ as, H t = none := fun t ht => I.hok.fresh (Nat.le_trans hSs (Nat.le_of_lt (hG.above t ht)))
  have newS : H S = none := I.hok.fresh hSs
  have atP := putP_at as xs ys (upd H S (.lst (as.map V.ref))) hl hxy nd
  have off : ∀ b, b ∉ as → b ≠ S → putP (upd H S (.lst (as.map V.ref))) as xs ys b = H b := fun b h1 h2 => by rw [putP_off as xs ys _ h1, upd_ne h2]
  have low : ∀ b o, s.heap.get? b = some o → b ∉ as ∧ b ≠ S := fun b o e => ⟨fun z => absurd (Heap.lt_size e) (Nat.not_lt.mpr (Nat.le_trans hSs (Nat.le_of_lt (hG.above b z)))), Nat.ne_of_lt (Nat.lt_of_lt_of_le (Heap.lt_size e) hSs)⟩
  have kp : ∀ b u, H b = some u → (putP (upd H S (.lst (as.map V.ref))) as xs ys) b = some u := fun b u e => by
    rw [off b (fun z => by rw [new b z] at e; cases e) (fun z => by rw [z, newS] at e; cases e)]
    exact e
  have eS : putP (upd H S (.lst (as.map V.ref))) as xs ys S = some (.lst (as.map V.ref)) := by rw [putP_off as xs ys _ hSn, upd_same]
  refine ⟨putP (upd H S (.lst (as.map V.ref))) as xs ys, kp, newS, new, hSn, eS, atP, ?_⟩
  refine I.call' (ch := []) rfl ⟨fun b o q _ _ _ => hk b o q, fun b o q _ _ _ => ⟨o.slots, hk b o q⟩, fun b o q n _ => ?_, fun b o q _ => ⟨o, hk b o q⟩, fun b xs q => kp b _ q, fun b o u q => kp b _ q, fun b ps q => ⟨#[], by rw [kp b _ q]; simp⟩⟩ (fun b u q => ?_) I.bare fun b z => by simp at z
  · obtain ⟨z1, z2⟩ := low b o q
    rw [off b z1 z2]
    exact n
  · by_cases hb : b ∈ as
    · obtain ⟨j, hj⟩ := List.mem_iff_getElem?.mp hb
      obtain ⟨x, y, e1, e2, e3⟩ := atP j b hj
      rw [e3] at q
      cases q
      obtain ⟨u, v, f1, f2, f3⟩ := hG.pairs j b hj
      obtain ⟨u', hu', ru⟩ := vx.get e1
      obtain ⟨v', hv', rv⟩ := vy.get e2
      have eu : u = u' := by
        have f1' : ux[j]? = some u := by simpa using f1
        rw [f1'] at hu'
        exact Option.some.inj hu'
      have ev : v = v' := by
        have f2' : uy[j]? = some v := by simpa using f2
        rw [f2'] at hv'
        exact Option.some.inj hv'
      subst eu
      subst ev
      exact ⟨by show 2 ≤ sizeLine; decide, [u, v], .cons ru (.cons rv .nil), ⟨_, f3, rfl, _, rfl⟩⟩
    · by_cases hb2 : b = S
      · rw [hb2] at q ⊢
        rw [eS] at q
        cases q
        refine ⟨by rw [List.length_map, hl]; exact Nat.le_trans hz (by decide), acc.toList, c, by rw [hacc]; exact vals_refs as, ?_⟩
        rw [Array.toArray_toList]
        exact hS
      · rw [off b hb hb2] at q
        exact (I.hok b u q).stay (fun d v _ y => hk d v y) (fun d y => kp d _ y) fun d xs y => kp d _ y
theorem pe_listZip (hc : X.calm = true) (hg : Gl X "list") (hm : X.mg "list" = none) (hv : bootBuiltins "list" = some (.type "list")) (hg2 : Gl X "zip") (hm2 : X.mg "zip" = none) (ha : PA X [e, e2] ta)
    (hs : starEach [.Call (.Name "zip" p2) [e, e2] [] pos2] X.env = (false, eval (.Call (.Name "zip" p2) [e, e2] [] pos2) X.env) :: starEach [] X.env := by rfl)
    (hs2 : starEach [e, e2] X.env = (false, eval e X.env) :: starEach [e2] X.env := by rfl) (hpl : (backTo pos2 (starEach [e2] X.env)).any (·.1) = false := by rfl) :
    PE X (.Call (.Name "list" p) [.Call (.Name "zip" p2) [e, e2] [] pos2] [] pos) (tLZ X.K ta) := by
  refine ⟨fun pins s σ H Q I hq => ?_⟩
  refine wpAny_Call_Name_kw (ld_blt I hg hm hv ?_)
  refine PyProof.Rows.callWith_type1 ?_ hs rfl
  rw [hs]
  show wpAny _ _ (spliced ((false, eval (.Call (.Name "zip" p2) [e, e2] [] pos2) X.env) :: backTo pos (starEach [] X.env))) _ _ s
  refine Calls.spliced_cons ?_
  refine wpAny_Call_Name_kw (ld_blt I hg2 hm2 PyProof.Rows.boot_zip (PyProof.Rows.callWith_type1 (thn (ha.run pos2 pins s σ H _ I hq) fun us s1 ⟨vs, H1, I1, r1, q1⟩ => ?_) hs2 hpl))
  obtain ⟨a, b, xs, ys, ex, hqx, hqy, hxy, hz, q⟩ := q1
  subst ex
  cases r1 with
  | cons r rr =>
    cases rr with
    | cons r' rr =>
      cases rr
      cases r
      cases r'
      obtain ⟨its, rv, p1, _⟩ := I1.tuple hqx
      obtain ⟨its2, rv2, p2, _⟩ := I1.tuple hqy
      obtain ⟨o1, ho1, _⟩ := id p1
      obtain ⟨o2, ho2, _⟩ := id p2
      have e1 := rv.length
      have e2 := rv2.length
      refine call_zipT (show s1.heap.IsTuple a its.toArray from p1) (show s1.heap.IsTuple b its2.toArray from p2) fun h' hz' hTI hTO h1 h2 hsz hk => ?_
      refine Calls.spliced_nil ?_
      have tup : ∀ {l : Addr} {vs : Array Value}, s1.heap.IsTuple l vs → h'.IsTuple l vs := fun ht => by
        obtain ⟨o, ho, r⟩ := ht
        exact ⟨o, hk _ _ ho, r⟩
      refine zip_list (s := { s1 with heap := h' }) (I1.ok.hd hc) (PySem.W.ktu_apart s1.heap.objs.size a b (Heap.lt_size ho1) (Heap.lt_size ho2)) (by simp; omega) (by simp; exact Nat.le_trans (by omega) (show 1000 ≤ sizeLine by decide)) hz' hTI hTO h1 h2 (tup p1) (tup p2) fun h'' tk acc c as hk2 hS hl hG hacc => ?_
      dsimp only at hS hG ⊢
      obtain ⟨H', k1, k2, k3, k4, k5, k6, J⟩ := zip_laid (tk := tk) I1 hz hxy rv rv2 (fun b o e => hk2 b o (Nat.ne_of_lt (Nat.lt_of_lt_of_le (Heap.lt_size e) (Nat.le_add_right _ _))) (Nat.ne_of_lt (Nat.lt_of_lt_of_le (Heap.lt_size e) (Nat.le_add_right _ _))) (Nat.ne_of_lt (Heap.lt_size e)) (Nat.ne_of_lt (Nat.lt_of_lt_of_le (Heap.lt_size e) (Nat.le_add_right _ _))) (hk b o e)) hS (by omega) (by simp at hl; omega) hG hacc
      exact ⟨.ref _, H', J, rfl, q H' _ as k1 k2 k3 k4 (by simp at hl; omega) k5 k6⟩
end
end LZ

set_option Elab.async false
set_option linter.all false
set_option maxRecDepth 100000
set_option maxHeartbeats 4000000
namespace Pf
open PySem PySem.Spec PyProof.Rows L2

/-! ### heaps and data -/
theorem same_upd {H : Hp} {p : Addr} {o : HO} (h : H p = none) : Same H (upd H p o) := fun b x e => by
  rw [upd_ne (ne_of_none e h)]
  exact e
theorem Same.up {G H : Hp} {p : Addr} {o : HO} (s : Same G H) (h : H p = none) : Same G (upd H p o) := s.trans (same_upd h)
theorem same_seqT {K : PySem.W.Frag} {H H' : Hp} {a : Addr} {xs : List V} (e : Same H H') (h : SqT K H a xs) : SqT K H' a xs := by
  rcases h with (h | ⟨o, h⟩) | h
  · exact .inl (.inl (e _ _ h))
  · exact .inl (.inr ⟨o, e _ _ h⟩)
  · exact .inr h
section
variable {K : PySem.W.Frag} {H H' : Hp}
mutual
theorem dp_same (e : Same H H') : ∀ (d : PyData) (v : V), Dp K H v d → Dp K H' v d
  | .none, _, h => by cases h; exact .non
  | .bool b, _, h => by cases h; exact .bl b
  | .int i, _, h => by cases h; exact .int i
  | .str x, _, h => by cases h; exact .str x
  | .list ds, _, h => by cases h with | lst hs ha => exact .lst (Same.seq e hs) (dps_same e ds _ ha)
  | .tuple ds, _, h => by cases h with | tup hs ha => exact .tup (same_seqT e hs) (dps_same e ds _ ha)
  | .dict _, _, h => by cases h
theorem dps_same (e : Same H H') : ∀ (ds : List PyData) (vs : List V), DpAll K H vs ds → DpAll K H' vs ds
  | [], _, h => by cases h; exact .nil
  | d :: ds, _, h => by cases h with | cons h1 h2 => exact .cons (dp_same e d _ h1) (dps_same e ds _ h2)
end
theorem dps_ints : ∀ ns : List Int, DpAll K H (ns.map V.int) (ns.map PyData.int)
  | [] => .nil
  | n :: ns => .cons (.int n) (dps_ints ns)
theorem dps_len : ∀ {vs : List V} {ds : List PyData}, DpAll K H vs ds → vs.length = ds.length
  | [], _, h => by cases h; rfl
  | v :: vs, _, h => by cases h with | cons h1 h2 => simp [dps_len h2]
theorem dps_get : ∀ {vs : List V} {ds : List PyData} {i : Nat} {v : V}, DpAll K H vs ds → vs[i]? = some v → ∃ d, ds[i]? = some d ∧ Dp K H v d
  | [], _, i, v, h, e => by simp at e
  | x :: vs, _, 0, v, h, e => by
    cases h with
    | cons h1 h2 =>
      cases (Option.some.inj e)
      exact ⟨_, rfl, h1⟩
  | x :: vs, _, i + 1, v, h, e => by
    cases h with
    | cons h1 h2 =>
      obtain ⟨d, e1, e2⟩ := dps_get h2 (show vs[i]? = some v from e)
      exact ⟨d, e1, e2⟩
theorem dps_app : ∀ {vs ws : List V} {ds es : List PyData}, DpAll K H vs ds → DpAll K H ws es → DpAll K H (vs ++ ws) (ds ++ es)
  | [], _, _, _, h, g => by cases h; exact g
  | v :: vs, _, _, _, h, g => by cases h with | cons h1 h2 => exact .cons h1 (dps_app h2 g)
theorem dps_take : ∀ {vs : List V} {ds : List PyData} (n : Nat), DpAll K H vs ds → DpAll K H (vs.take n) (ds.take n)
  | _, _, 0, _ => .nil
  | [], _, n + 1, h => by cases h; exact .nil
  | v :: vs, _, n + 1, h => by cases h with | cons h1 h2 => exact .cons h1 (dps_take n h2)
theorem dps_drop : ∀ {vs : List V} {ds : List PyData} (n : Nat), DpAll K H vs ds → DpAll K H (vs.drop n) (ds.drop n)
  | _, _, 0, h => h
  | [], _, n + 1, h => by cases h; exact .nil
  | v :: vs, _, n + 1, h => by cases h with | cons h1 h2 => exact dps_drop n h2
theorem dps_set : ∀ {vs : List V} {ds : List PyData} {v : V} {d : PyData} (i : Nat), DpAll K H vs ds → Dp K H v d → DpAll K H (vs.set i v) (ds.set i d)
  | [], _, _, _, _, h, _ => by cases h; exact .nil
  | x :: vs, _, v, d, 0, h, q => by cases h with | cons h1 h2 => exact .cons q h2
  | x :: vs, _, v, d, i + 1, h, q => by cases h with | cons h1 h2 => exact .cons h1 (dps_set i h2 q)
theorem tyx_tup {a : Addr} {xs : List V} (h : SqT K H a xs) : TyX K H (.ref a) (.type "tuple") := by
  rcases h with (h | ⟨o, h⟩) | ⟨o, its, n, h, c, _⟩
  · exact .base (.tup h)
  · exact .fTuple h
  · exact .kTuple h c
theorem tyx_lst {a : Addr} {xs : List V} (h : SqL K H a xs) : TyX K H (.ref a) (.type "list") := by
  rcases h with (h | ⟨o, h⟩) | ⟨o, its, n, h, c, _⟩
  · exact .base (.lst h)
  · exact .base (.frz h)
  · exact .kList h c
end
def intB : PyData → Bool | .int _ => true | .bool _ => true | _ => false
def boolB : PyData → Bool | .bool _ => true | _ => false
def tupB : PyData → Bool | .tuple _ => true | _ => false
section
variable {K : PySem.W.Frag} {H : Hp} {v : V} {d : PyData}
theorem isi_int (h : Dp K H v d) : ∃ t, TyX K H v t ∧ PySem.W.kitOne K t (.type "int") = some (intB d) := by
  cases h with
  | non => exact ⟨_, .base .non, kit_ty (show kitB "NoneType" "int" = some false by decide +kernel)⟩
  | bl b => exact ⟨_, .base (.bl b), kit_ty (show kitB "bool" "int" = some true by decide +kernel)⟩
  | int i => exact ⟨_, .base (.int i), kit_ty (show kitB "int" "int" = some true by decide +kernel)⟩
  | str x => exact ⟨_, .base (.str x), kit_ty (show kitB "str" "int" = some false by decide +kernel)⟩
  | lst hs _ => exact ⟨_, tyx_lst hs, kit_ty (show kitB "list" "int" = some false by decide +kernel)⟩
  | tup hs _ => exact ⟨_, tyx_tup hs, kit_ty (show kitB "tuple" "int" = some false by decide +kernel)⟩
theorem isi_bool (h : Dp K H v d) : ∃ t, TyX K H v t ∧ PySem.W.kitOne K t (.type "bool") = some (boolB d) := by
  cases h with
  | non => exact ⟨_, .base .non, kit_ty (show kitB "NoneType" "bool" = some false by decide +kernel)⟩
  | bl b => exact ⟨_, .base (.bl b), kit_ty (show kitB "bool" "bool" = some true by decide +kernel)⟩
  | int i => exact ⟨_, .base (.int i), kit_ty (show kitB "int" "bool" = some false by decide +kernel)⟩
  | str x => exact ⟨_, .base (.str x), kit_ty (show kitB "str" "bool" = some false by decide +kernel)⟩
  | lst hs _ => exact ⟨_, tyx_lst hs, kit_ty (show kitB "list" "bool" = some false by decide +kernel)⟩
  | tup hs _ => exact ⟨_, tyx_tup hs, kit_ty (show kitB "tuple" "bool" = some false by decide +kernel)⟩
theorem isi_tup (h : Dp K H v d) : ∃ t, TyX K H v t ∧ PySem.W.kitOne K t (.type "tuple") = some (tupB d) := by
  cases h with
  | non => exact ⟨_, .base .non, kit_ty (show kitB "NoneType" "tuple" = some false by decide +kernel)⟩
  | bl b => exact ⟨_, .base (.bl b), kit_ty (show kitB "bool" "tuple" = some false by decide +kernel)⟩
  | int i => exact ⟨_, .base (.int i), kit_ty (show kitB "int" "tuple" = some false by decide +kernel)⟩
  | str x => exact ⟨_, .base (.str x), kit_ty (show kitB "str" "tuple" = some false by decide +kernel)⟩
  | lst hs _ => exact ⟨_, tyx_lst hs, kit_ty (show kitB "list" "tuple" = some false by decide +kernel)⟩
  | tup hs _ => exact ⟨_, tyx_tup hs, kit_ty (show kitB "tuple" "tuple" = some true by decide +kernel)⟩
end
/-- a list's item, as what an augmented store reads -/
theorem get_list {X : Cx} : PGet X (rIxL X.K) := by
  intro pins s σ H x y v u Q I rx ry h
  obtain ⟨p, xs, i, z, rfl, rfl, hq, he, q⟩ := h
  cases rx
  obtain ⟨t, rfl⟩ := ry
  obtain ⟨its, r, pl, hz⟩ := I.list hq
  obtain ⟨j, h1, h2, h3, h4, h5⟩ := atI_get he
  obtain ⟨w, ew, rw'⟩ := r.get h2
  have hl := r.length
  have hn := line63
  have fin : EP X pins σ Q w s := ⟨z, H, I, rw', q⟩
  by_cases h0 : 0 ≤ i
  · have hj : i.toNat = j := by
      rw [seqIndex_of h0 h5] at h1
      exact Option.some.inj h1
    exact wpAny_getItem_list pl.isList h0 (by omega) (by rw [hj]; simpa using ew) fin
  · have hj : (i + (its.toArray.size : Int)).toNat = j := by
      rw [seqIndex_neg (by omega) h4] at h1
      rw [List.size_toArray, ← hl]
      exact Option.some.inj h1
    exact wpAny_getItem_list_neg pl.isList (by omega) (by rw [List.size_toArray] <;> omega) (by omega) (by rw [hj]; simpa using ew) fin

/-! ### a heap without what may change -/
def Off (cs : List Addr) (H : Hp) : Hp := fun b => if b ∈ cs then none else H b
theorem off_in {cs : List Addr} {H : Hp} {b : Addr} (h : b ∈ cs) : Off cs H b = none := by unfold Off; rw [if_pos h]
theorem off_out {cs : List Addr} {H : Hp} {b : Addr} (h : b ∉ cs) : Off cs H b = H b := by unfold Off; rw [if_neg h]
theorem off_le {cs : List Addr} {H : Hp} : Same (Off cs H) H := fun b o e => by
  by_cases h : b ∈ cs
  · rw [off_in h] at e; cases e
  · rw [off_out h] at e; exact e
theorem off_same {cs : List Addr} {H H' : Hp} (s : Same H H') : Same (Off cs H) (Off cs H') := fun b o e => by
  by_cases h : b ∈ cs
  · rw [off_in h] at e; cases e
  · rw [off_out h] at e ⊢; exact s b o e
theorem off_upd {cs : List Addr} {H : Hp} {c : Addr} {o : HO} (h : c ∈ cs) : Off cs (upd H c o) = Off cs H := by
  funext b
  by_cases hb : b ∈ cs
  · rw [off_in hb, off_in hb]
  · rw [off_out hb, off_out hb, upd_ne (fun z => hb (by rw [z]; exact h))]
theorem off_new {cs : List Addr} {H : Hp} {p : Addr} {o : HO} (h : H p = none) : Same (Off cs H) (Off cs (upd H p o)) := off_same (same_upd h)
/-- an unlike set of what may change, where H has nothing of what is new in it -/
theorem off_more {cs ds : List Addr} {H : Hp} (h : ∀ c ∈ ds, c ∈ cs ∨ H c = none) : Same (Off cs H) (Off ds H) := fun b o e => by
  by_cases hb : b ∈ cs
  · rw [off_in hb] at e; cases e
  · rw [off_out hb] at e
    by_cases hd : b ∈ ds
    · rcases h b hd with z | z
      · exact absurd z hb
      · rw [z] at e; cases e
    · rw [off_out hd]; exact e
/-- all is kept but what stands at cs -/
def But (cs : List Addr) (H H' : Hp) : Prop := Same (Off cs H) H'
theorem But.at {cs : List Addr} {H H' : Hp} (s : But cs H H') {b : Addr} {o : HO} (h : H b = some o) (n : b ∉ cs) : H' b = some o := s b o (by rw [off_out n]; exact h)
theorem But.of {cs : List Addr} {H H' : Hp} (s : Same H H') : But cs H H' := (off_le).trans s
theorem But.off {cs ds : List Addr} {H H' : Hp} (s : But cs H H') (h : ∀ c ∈ cs, c ∈ ds) : Same (Off ds H) (Off ds H') := fun b o e => by
  by_cases hb : b ∈ ds
  · rw [off_in hb] at e; cases e
  · rw [off_out hb] at e ⊢
    exact s b o (by rw [off_out (fun z => hb (h b z))]; exact e)

/-- what is new in H' -/
def New (H H' : Hp) : Hp := fun b => match H b with
  | none => H' b
  | some _ => none
theorem new_at {H H' : Hp} {b : Addr} (h : H b = none) : New H H' b = H' b := by unfold New; rw [h]
theorem new_some {H H' : Hp} {b : Addr} {o : HO} (h : New H H' b = some o) : H b = none ∧ H' b = some o := by
  cases e : H b with
  | none => rw [new_at e] at h; exact ⟨rfl, h⟩
  | some u => unfold New at h; rw [e] at h; cases h
theorem new_same {H H1 H2 : Hp} (s : Same H1 H2) : Same (New H H1) (New H H2) := fun b o e => by
  obtain ⟨e1, e2⟩ := new_some e
  rw [new_at e1]
  exact s _ _ e2
theorem new_le {H H' : Hp} : Same (New H H') H' := fun b o e => (new_some e).2
theorem new_off {cs : List Addr} {H H' : Hp} (h : ∀ c ∈ cs, H c ≠ none) : Same (New H H') (Off cs H') := fun b o e => by
  obtain ⟨e1, e2⟩ := new_some e
  rw [off_out (fun z => h b z e1)]
  exact e2
theorem new_upd {cs : List Addr} {H H' : Hp} {c : Addr} {o : HO} (h : c ∈ cs) : Off cs (New H (upd H' c o)) = Off cs (New H H') := by
  funext b
  by_cases hb : b ∈ cs
  · rw [off_in hb, off_in hb]
  · rw [off_out hb, off_out hb]
    unfold New
    cases H b with
    | none => exact upd_ne (fun z => hb (by rw [z]; exact h))
    | some u => rfl
/-- of a later start less is new -/
theorem new_start {H H1 H2 : Hp} (s : Same H H1) : Same (New H1 H2) (New H H2) := fun b o e => by
  obtain ⟨e1, e2⟩ := new_some e
  rw [new_at (s.free e1)]
  exact e2

theorem new_step {cs : List Addr} {H H1 H2 : Hp} (s : Same H H1) (h : ∀ c ∈ cs, H1 c ≠ none) : Same (New H1 H2) (Off cs (New H H2)) := fun b o e => by
  obtain ⟨e1, e2⟩ := new_some e
  rw [off_out (fun z => h b z e1), new_at (s.free e1)]
  exact e2

/-! ### slices of tuples -/
theorem cut_from (xs : List V) (n : Nat) : cutV xs (some (n : Int)) none = xs.drop n := by
  unfold cutV
  rw [HT.sIx_nat, HT.sIx_none]
  by_cases h : n ≤ xs.length
  · rw [Nat.min_eq_left h]
    exact List.take_of_length_le (by rw [List.length_drop]; omega)
  · rw [Nat.min_eq_right (by omega), List.drop_of_length_le (by omega), List.drop_of_length_le (by omega)]
    exact List.take_nil
theorem cut_to (xs : List V) (n : Nat) : cutV xs none (some (n : Int)) = xs.take n := by
  unfold cutV
  rw [HT.sIx_nat, HT.sIx_none]
  rw [List.drop_zero, Nat.sub_zero]
  by_cases h : n ≤ xs.length
  · rw [Nat.min_eq_left h]
  · rw [Nat.min_eq_right (by omega), List.take_of_length_le (by omega), List.take_of_length_le (by omega)]
theorem slA_use {K : PySem.W.Frag} {a : Addr} {xs : List V} {lo hi : Option Int} {H : Hp} {Q : VK} (h : SqT K H a xs) (k : ∀ p H', Same H H' → SqT K H' p (cutV xs lo hi) → Q (.ref p) H') : rSlA K (.ref a) lo hi H Q := by
  refine ⟨a, xs, rfl, h, fun c => ?_, fun _ p hp => ?_⟩
  · have e : cutV xs lo hi = xs := by
      unfold cutV
      rw [c.1, c.2, List.drop_zero, Nat.sub_zero, List.take_length]
    exact k a H (Same.refl _) (by rw [e]; exact h)
  · exact k p _ (same_upd hp) (.inl (.inl upd_same))

theorem slA_new {K : PySem.W.Frag} {a : Addr} {xs : List V} {lo hi : Option Int} {H : Hp} {Q : VK} (h : SqT K H a xs) (hl : (cutV xs lo hi).length ≠ xs.length) (k : ∀ p, H p = none → Q (.ref p) (upd H p (.tup (cutV xs lo hi)))) : rSlA K (.ref a) lo hi H Q := by
  refine ⟨a, xs, rfl, h, fun c => ?_, fun _ p hp => k p hp⟩
  refine absurd ?_ hl
  unfold cutV
  rw [c.1, c.2, List.drop_zero, Nat.sub_zero, List.take_length]

theorem dps_inv {K : PySem.W.Frag} {H : Hp} : ∀ {ns : List Int} {vs : List V}, DpAll K H vs (ns.map PyData.int) → vs = ns.map V.int
  | [], _, h => by cases h; rfl
  | n :: ns, _, h => by
    cases h with
    | cons h1 h2 =>
      cases h1
      rw [dps_inv h2]
      rfl
theorem lay_ints : ∀ ns : List Int, PyData.canLayAll0 (ns.map PyData.int) = true
  | [] => by simp [PyData.canLayAll0]
  | n :: ns => by simp [PyData.canLayAll0, PyData.canLay0, lay_ints ns]
theorem dep_ints : ∀ ns : List Int, PyData.depthAll (ns.map PyData.int) = 0
  | [] => by simp [PyData.depthAll]
  | n :: ns => by simp [PyData.depthAll, PyData.depth, dep_ints ns]
theorem shaped_list {ds : List PyData} (h1 : PyData.canLayAll0 ds = true) (h2 : PyData.depthAll ds ≤ 60) : SeqAt.shaped (.list ds) = true := by
  have h3 : PyData.depth (.list ds) ≤ 64 := by
    simp only [PyData.depth]
    omega
  show (PyData.canLay0 (.list ds) && decide (PyData.depth (.list ds) ≤ 64)) = true
  rw [Bool.and_eq_true]
  exact ⟨by simp only [PyData.canLay0]; exact h1, decide_eq_true h3⟩
theorem shaped_tup {ds : List PyData} (h1 : PyData.canLayAll0 ds = true) (h2 : PyData.depthAll ds ≤ 60) : SeqAt.shaped (.tuple ds) = true := by
  have h3 : PyData.depth (.tuple ds) ≤ 64 := by
    simp only [PyData.depth]
    omega
  show (PyData.canLay0 (.tuple ds) && decide (PyData.depth (.tuple ds) ≤ 64)) = true
  rw [Bool.and_eq_true]
  exact ⟨by simp only [PyData.canLay0]; exact h1, decide_eq_true h3⟩
abbrev Ch := Int × List Int
def rowD (ns : List Int) : PyData := .tuple (ns.map PyData.int)
theorem tup_off {K : PySem.W.Frag} {H : Hp} {p : Addr} {xs : List V} {cs : List Addr} (h : SqT K H p xs) (n : p ∉ cs) : SqT K (Off cs H) p xs := by
  rcases h with (h | ⟨o, h⟩) | h
  · exact .inl (.inl (by rw [off_out n]; exact h))
  · exact .inl (.inr ⟨o, by rw [off_out n]; exact h⟩)
  · exact .inr h
theorem eqv_int (a b : Int) : PyData.eqv (.int a) (.int b) = decide (a = b) := by
  simp [PyData.eqv]
  rfl
theorem eqvAll_ints : ∀ ns ms : List Int, PyData.eqvAll (ns.map PyData.int) (ms.map PyData.int) = decide (ns = ms)
  | [], [] => by simp [PyData.eqvAll]
  | [], m :: ms => by simp [PyData.eqvAll]
  | n :: ns, [] => by simp [PyData.eqvAll]
  | n :: ns, m :: ms => by
    simp only [List.map_cons, PyData.eqvAll, eqvAll_ints ns ms, eqv_int]
    by_cases h : n = m <;> by_cases h2 : ns = ms <;> simp [h, h2]
theorem eqv_ints (ns ms : List Int) : PyData.eqv (.tuple (ns.map PyData.int)) (.tuple (ms.map PyData.int)) = decide (ns = ms) := by
  rw [← eqvAll_ints]
  simp [PyData.eqv]
theorem shaped_ints (ns : List Int) : SeqAt.shaped (.tuple (ns.map PyData.int)) = true := shaped_tup (lay_ints ns) (by rw [dep_ints]; decide)
def isT : HO → Bool
  | .tup _ => true
  | .frz _ (.tup _) => true
  | _ => false
def Fr (cs : List Addr) (H H' : Hp) : Prop := ∀ b o, H b = some o → (b ∉ cs ∨ isT o = true) → H' b = some o
theorem Fr.of {cs : List Addr} {H H' : Hp} (s : Same H H') : Fr cs H H' := fun b o e _ => s b o e
theorem Fr.trans {cs : List Addr} {H H1 H2 : Hp} (h : Fr cs H H1) (g : Fr cs H1 H2) : Fr cs H H2 := fun b o e c => g b o (h b o e c) c
theorem Fr.mono {cs ds : List Addr} {H H' : Hp} (h : Fr cs H H') (s : ∀ c ∈ cs, c ∈ ds) : Fr ds H H' := fun b o e c => h b o e (c.imp (fun z y => z (s b y)) id)
theorem Fr.drop {cs ds : List Addr} {H H' : Hp} (h : Fr ds H H') (s : ∀ c ∈ ds, c ∈ cs ∨ H c = none) : Fr cs H H' := fun b o e c => by
  refine h b o e ?_
  rcases c with c | c
  · by_cases hb : b ∈ ds
    · rcases s b hb with z | z
      · exact absurd z c
      · rw [z] at e; cases e
    · exact .inl hb
  · exact .inr c
theorem Fr.at {cs : List Addr} {H H' : Hp} (h : Fr cs H H') {b : Addr} {o : HO} (e : H b = some o) (n : b ∉ cs) : H' b = some o := h b o e (.inl n)
theorem Fr.tup {cs : List Addr} {H H' : Hp} (h : Fr cs H H') {b : Addr} {xs : List V} (e : H b = some (.tup xs)) : H' b = some (.tup xs) := h b _ e (.inr rfl)
theorem Fr.same {H H' : Hp} (h : Fr [] H H') : Same H H' := fun b o e => h b o e (.inl (by simp))
theorem Fr.put {cs : List Addr} {H : Hp} {c : Addr} {o : HO} (hc : c ∈ cs) (ht : ∀ u, H c = some u → isT u = false) : Fr cs H (upd H c o) := fun b u e z => by
  by_cases hb : b = c
  · subst hb
    rcases z with z | z
    · exact absurd hc z
    · rw [ht _ e] at z; cases z
  · rw [upd_ne hb]
    exact e
theorem Fr.new {cs : List Addr} {H : Hp} {c : Addr} {o : HO} (hc : H c = none) : Fr cs H (upd H c o) := .of (same_upd hc)
theorem Fr.but {cs : List Addr} {H H' : Hp} (s : But cs H H') (ht : ∀ c ∈ cs, ∀ u, H c = some u → isT u = false) : Fr cs H H' := fun b o e z => by
  by_cases hb : b ∈ cs
  · rcases z with z | z
    · exact absurd hb z
    · rw [ht b hb _ e] at z; cases z
  · exact s.at e hb
/-- the tuples of a heap -/
def Tp (H : Hp) : Hp := fun b => match H b with
  | some o => if isT o = true then some o else none
  | none => none
theorem tp_some {H : Hp} {b : Addr} {o : HO} (h : Tp H b = some o) : H b = some o ∧ isT o = true := by
  unfold Tp at h
  split at h
  · split at h
    · rename_i e c
      cases h
      exact ⟨e, c⟩
    · cases h
  · cases h
theorem tp_le {H : Hp} : Same (Tp H) H := fun b o e => (tp_some e).1
theorem tp_at {H : Hp} {b : Addr} {o : HO} (h : H b = some o) (t : isT o = true) : Tp H b = some o := by
  unfold Tp
  rw [h]
  exact if_pos t
theorem Fr.tp {cs : List Addr} {H H' : Hp} (h : Fr cs H H') : Same (Tp H) (Tp H') := fun b o e => by
  obtain ⟨e1, e2⟩ := tp_some e
  exact tp_at (h b o e1 (.inr e2)) e2
theorem sqt_tp {K : PySem.W.Frag} {H : Hp} {a : Addr} {xs : List V} (h : SqT K H a xs) : SqT K (Tp H) a xs := by
  rcases h with (h | ⟨o, h⟩) | h
  · exact .inl (.inl (tp_at h rfl))
  · exact .inl (.inr ⟨o, tp_at h rfl⟩)
  · exact .inr h
theorem row_tp {K : PySem.W.Frag} {H : Hp} {v : V} {ns : List Int} (h : Dp K H v (rowD ns)) : Dp K (Tp H) v (rowD ns) := by
  cases h with
  | tup hs ha => exact .tup (sqt_tp hs) (by rw [dps_inv ha]; exact dps_ints _)
theorem ixN_nn {n j : Nat} (hj : j < n) : ixN n (j : Int) = some j := by
  unfold ixN
  rw [if_pos (Int.natCast_nonneg j), if_pos (by omega), Int.toNat_natCast]
abbrev Tr := Int × V × List Int
def tk (ts : List Tr) : List (Key × V) := ts.map fun t => (Sum.inl t.1, t.2.1)
def tc (ts : List Tr) : List Ch := ts.map fun t => (t.1, t.2.2)
def putT (ts : List Tr) (k : Int) (v : V) (l : List Int) : List Tr := if (ts.any fun t => decide (t.1 = k)) = true then ts.map (fun t => if t.1 = k then (t.1, v, l) else t) else ts ++ [(k, v, l)]
def putC (cs : List Ch) (k : Int) (l : List Int) : List Ch := if (cs.any fun t => decide (t.1 = k)) = true then cs.map (fun t => if t.1 = k then (t.1, l) else t) else cs ++ [(k, l)]
theorem putT_tk (ts : List Tr) (k : Int) (v : V) (l : List Int) : tk (putT ts k v l) = putK (tk ts) (Sum.inl k) v := by
  have e : ((tk ts).any fun kv => decide (kv.1 = Sum.inl k)) = (ts.any fun t => decide (t.1 = k)) := by
    unfold tk
    rw [List.any_map]
    congr 1
    funext t
    simp
  unfold putT putK
  rw [e]
  split
  · unfold tk
    rw [List.map_map, List.map_map]
    apply List.map_congr_left
    intro t _
    by_cases c : t.1 = k <;> simp [c]
  · simp [tk]
theorem putT_tc (ts : List Tr) (k : Int) (v : V) (l : List Int) : tc (putT ts k v l) = putC (tc ts) k l := by
  have e : ((tc ts).any fun kv => decide (kv.1 = k)) = (ts.any fun t => decide (t.1 = k)) := by
    unfold tc
    rw [List.any_map]
    rfl
  unfold putT putC
  rw [e]
  split
  · unfold tc
    rw [List.map_map, List.map_map]
    apply List.map_congr_left
    intro t _
    by_cases c : t.1 = k <;> simp [c]
  · simp [tc]
theorem putT_all {Pr : Tr → Prop} {ts : List Tr} {k : Int} {v : V} {l : List Int} (h : ∀ t ∈ ts, Pr t) (q : Pr (k, v, l)) : ∀ t ∈ putT ts k v l, Pr t := by
  intro t ht
  unfold putT at ht
  split at ht
  · obtain ⟨t', h1, h2⟩ := List.mem_map.mp ht
    by_cases c : t'.1 = k
    · rw [if_pos c, c] at h2
      rw [← h2]
      exact q
    · rw [if_neg c] at h2
      rw [← h2]
      exact h _ h1
  · rcases List.mem_append.mp ht with z | z
    · exact h _ z
    · rw [List.mem_singleton.mp z]
      exact q
theorem putC_keys (cs : List Ch) (k : Int) (l : List Int) : (putC cs k l).map (·.1) = if (cs.any fun t => decide (t.1 = k)) = true then cs.map (·.1) else cs.map (·.1) ++ [k] := by
  unfold putC
  split
  · rw [List.map_map]
    apply List.map_congr_left
    intro t _
    by_cases c : t.1 = k <;> simp [c]
  · simp
theorem putC_nodup {cs : List Ch} {k : Int} {l : List Int} (h : (cs.map (·.1)).Nodup) : ((putC cs k l).map (·.1)).Nodup := by
  rw [putC_keys]
  split
  · exact h
  · rename_i c
    rw [List.nodup_append]
    refine ⟨h, by simp, ?_⟩
    intro a ha b hb e
    rw [List.mem_singleton] at hb
    subst hb
    subst e
    apply c
    obtain ⟨t, h1, h2⟩ := List.mem_map.mp ha
    exact List.any_eq_true.mpr ⟨t, h1, decide_eq_true h2⟩
theorem putC_len (cs : List Ch) (k : Int) (l : List Int) : (putC cs k l).length ≤ cs.length + 1 := by
  unfold putC
  split <;> simp
theorem putC_all {Pr : Ch → Prop} {cs : List Ch} {k : Int} {l : List Int} (h : ∀ t ∈ cs, Pr t) (q : Pr (k, l)) : ∀ t ∈ putC cs k l, Pr t := by
  intro t ht
  unfold putC at ht
  split at ht
  · obtain ⟨t', h1, h2⟩ := List.mem_map.mp ht
    by_cases c : t'.1 = k
    · rw [if_pos c, c] at h2
      rw [← h2]
      exact q
    · rw [if_neg c] at h2
      rw [← h2]
      exact h _ h1
  · rcases List.mem_append.mp ht with z | z
    · exact h _ z
    · rw [List.mem_singleton.mp z]
      exact q
/-- a key's value -/
theorem tk_get : ∀ {ts : List Tr} {t : Tr}, (ts.map (·.1)).Nodup → t ∈ ts → valV (tk ts) (Sum.inl t.1) = some t.2.1
  | x :: ts, t, hn, h => by
    have hn' : x.1 ∉ ts.map (·.1) ∧ (ts.map (·.1)).Nodup := List.nodup_cons.mp hn
    rcases List.mem_cons.mp h with z | z
    · subst z
      exact valV_pos rfl
    · have hne : ¬ x.1 = t.1 := fun e => hn'.1 (by rw [e]; exact List.mem_map.mpr ⟨t, z, rfl⟩)
      show valV ((Sum.inl x.1, x.2.1) :: tk ts) (Sum.inl t.1) = _
      rw [valV_neg (fun e => hne (by injection e))]
      exact tk_get hn'.2 z
theorem tc_keys (ts : List Tr) : (tc ts).map (·.1) = ts.map (·.1) := by
  unfold tc
  rw [List.map_map]
  rfl
theorem zip_get : ∀ {ns : List Str} {vs : List V} {i : Nat} {x : Str} {v : V}, ns.Nodup → ns[i]? = some x → vs[i]? = some v → (ns.zip vs).lookup x = some v
  | [], _, _, _, _, _, h, _ => by simp at h
  | n :: ns, [], _, _, _, _, _, h => by simp at h
  | n :: ns, u :: vs, 0, x, v, _, h1, h2 => by
    have e1 : n = x := Option.some.inj h1
    have e2 : u = v := Option.some.inj h2
    subst e1
    subst e2
    show List.lookup n ((n, u) :: ns.zip vs) = some u
    have e : (n == n) = true := beq_self_eq_true n
    simp only [List.lookup, e]
  | n :: ns, u :: vs, i + 1, x, v, hn, h1, h2 => by
    have hn' := List.nodup_cons.mp hn
    have h1' : ns[i]? = some x := h1
    have hne : (x == n) = false := by
      have : x ≠ n := fun e => hn'.1 (e ▸ List.mem_of_getElem? h1')
      simpa using this
    show List.lookup x ((n, u) :: ns.zip vs) = some v
    simp only [List.lookup, hne]
    exact zip_get hn'.2 h1' h2
theorem zip_put : ∀ {ns : List Str} {vs : List V} {i : Nat} {x : Str} {v : V}, ns.Nodup → ns[i]? = some x → i < vs.length → putF x v (ns.zip vs) = ns.zip (vs.set i v)
  | [], _, _, _, _, _, h, _ => by simp at h
  | n :: ns, [], _, _, _, _, _, h => by simp at h
  | n :: ns, u :: vs, 0, x, v, _, h1, _ => by
    cases (Option.some.inj h1)
    exact if_pos rfl
  | n :: ns, u :: vs, i + 1, x, v, hn, h1, h2 => by
    have hn' := List.nodup_cons.mp hn
    have h1' : ns[i]? = some x := h1
    have hne : ¬ n = x := fun e => hn'.1 (e ▸ List.mem_of_getElem? h1')
    show putF x v ((n, u) :: ns.zip vs) = (n, u) :: ns.zip (vs.set i v)
    rw [← zip_put hn'.2 h1' (Nat.lt_of_succ_lt_succ h2)]
    exact if_neg hne
theorem zip_no : ∀ {ns : List Str} {vs : List V} {x : Str}, x ∉ ns → (ns.zip vs).lookup x = none
  | [], _, _, _ => rfl
  | n :: ns, [], _, _ => rfl
  | n :: ns, u :: vs, x, h => by
    have hne : (x == n) = false := by
      have : x ≠ n := fun e => h (e ▸ List.mem_cons_self)
      simpa using this
    show List.lookup x ((n, u) :: ns.zip vs) = none
    simp only [List.lookup, hne]
    exact zip_no (fun z => h (List.mem_cons_of_mem _ z))
def DcAt (K : PySem.W.Frag) (H : Hp) (h : Addr) (cs : List Ch) : Prop := ∃ ts : List Tr, H h = some (.dK (tk ts)) ∧ tc ts = cs ∧ ∀ t ∈ ts, Dp K (Tp H) t.2.1 (rowD t.2.2)
theorem DcAt.fr {K : PySem.W.Frag} {H H' : Hp} {h : Addr} {cs : List Ch} {xs : List Addr} (A : DcAt K H h cs) (f : Fr xs H H') (n : h ∉ xs) : DcAt K H' h cs := by
  obtain ⟨ts, e, et, ht⟩ := A
  exact ⟨ts, f.at e n, et, fun t z => dp_same f.tp _ _ (ht t z)⟩
theorem zip_add : ∀ {ns : List Str} {vs : List V} {x : Str} {v : V} (i : Nat), ns.Nodup → ns[i]? = some x → vs.length = i → putF x v (ns.zip vs) = ns.zip (vs ++ [v])
  | [], _, _, _, _, _, h, _ => by simp at h
  | n :: ns, [], x, v, i, _, h1, h2 => by
    have hi : i = 0 := h2.symm
    subst hi
    have e1 : n = x := Option.some.inj h1
    subst e1
    rw [List.zip_nil_right]
    show [(n, v)] = (n, v) :: ns.zip []
    rw [List.zip_nil_right]
  | n :: ns, u :: vs, x, v, 0, _, _, h2 => by cases h2
  | n :: ns, u :: vs, x, v, i + 1, hn, h1, h2 => by
    have hn' := List.nodup_cons.mp hn
    have h1' : ns[i]? = some x := h1
    have hne : ¬ n = x := fun e => hn'.1 (e ▸ List.mem_of_getElem? h1')
    show putF x v ((n, u) :: ns.zip vs) = (n, u) :: ns.zip (vs ++ [v])
    rw [← zip_add i hn'.2 h1' (Nat.succ.inj h2)]
    exact if_neg hne
def findC (ds : List Ch) (k : Int) : Option (List Int) := (ds.find? fun d => decide (d.1 = k)).map (·.2)
def allC (cs ds : List Ch) : Bool := cs.all fun c => match findC ds c.1 with
  | none => false
  | some l => decide (c.2 = l)
def eqC (cs ds : List Ch) : Bool := cs.length == ds.length && allC cs ds
theorem find_tk : ∀ (ts : List Tr) (k : Int), (∀ v, valV (tk ts) (Sum.inl k) = some v → ∃ t ∈ ts, t.2.1 = v ∧ findC (tc ts) k = some t.2.2) ∧ (valV (tk ts) (Sum.inl k) = none → findC (tc ts) k = none)
  | [], k => ⟨fun v h => absurd (show (none : Option V) = some v from h) (by simp), fun _ => rfl⟩
  | x :: ts, k => by
    obtain ⟨h1, h2⟩ := find_tk ts k
    by_cases e : x.1 = k
    · have e1 : valV (tk (x :: ts)) (Sum.inl k) = some x.2.1 := valV_pos (p := (Sum.inl x.1, x.2.1)) (by rw [e])
      have e2 : findC (tc (x :: ts)) k = some x.2.2 := by
        unfold findC tc
        rw [List.map_cons, List.find?_cons_of_pos (by simp [e])]
        rfl
      refine ⟨fun v h => ?_, fun h => by rw [e1] at h; cases h⟩
      rw [e1] at h
      exact ⟨x, List.mem_cons_self, Option.some.inj h, e2⟩
    · have e1 : valV (tk (x :: ts)) (Sum.inl k) = valV (tk ts) (Sum.inl k) := valV_neg (p := (Sum.inl x.1, x.2.1)) (fun z => e (by injection z))
      have e2 : findC (tc (x :: ts)) k = findC (tc ts) k := by
        unfold findC tc
        rw [List.map_cons, List.find?_cons_of_neg (by simp [e])]
      refine ⟨fun v h => ?_, fun h => ?_⟩
      · rw [e1] at h
        obtain ⟨t, t1, t2, t3⟩ := h1 v h
        exact ⟨t, List.mem_cons_of_mem _ t1, t2, by rw [e2]; exact t3⟩
      · rw [e1] at h
        rw [e2]
        exact h2 h
section
variable {X : Cx}
theorem hits_of {pins : List (Addr × Obj)} {σ : L2.St} {H : Hp} {s : Shared} {A : Around} (I : Inv X pins σ H s) (hu : A.units + 64 < cLine) {us : List Tr} {ws : List (Key × Value)} (rw' : KV (tk us) ws) (hus : ∀ t ∈ us, Dp X.K H t.2.1 (rowD t.2.2)) :
    ∀ {ts : List Tr} {vs : List (Key × Value)}, KV (tk ts) vs → (∀ t ∈ ts, Dp X.K H t.2.1 (rowD t.2.2)) → PySem.W.KeqHits A.in1 s ws vs (allC (tc ts) (tc us))
  | [], _, r, _ => by
    cases r
    exact .nil
  | t :: ts, vs, r, h => by
    have r' : KV ((Sum.inl t.1, t.2.1) :: tk ts) vs := r
    cases r' with
    | @cons p q ps qs h1 h2 =>
      obtain ⟨k, v⟩ := q
      obtain ⟨hk, hv⟩ := h1
      have hk' : Sum.inl t.1 = k := hk
      subst hk'
      have ih := hits_of I hu rw' hus h2 (fun z hz => h z (List.mem_cons_of_mem _ hz))
      have rv := rw'.val (Sum.inl t.1)
      obtain ⟨f1, f2⟩ := find_tk us t.1
      have ea : allC (tc (t :: ts)) (tc us) = ((match findC (tc us) t.1 with | none => false | some l => decide (t.2.2 = l)) && allC (tc ts) (tc us)) := rfl
      rw [ea]
      cases e1 : valV (tk us) (Sum.inl t.1) with
      | none =>
        rw [e1] at rv
        rw [f2 e1]
        have e2 : valueAt ws (Sum.inl t.1) = none := by
          cases e : valueAt ws (Sum.inl t.1) with
          | none => rfl
          | some y => rw [e] at rv; exact rv.elim
        exact .miss e2
      | some y =>
        rw [e1] at rv
        obtain ⟨u, hu1, hu2, hu3⟩ := f1 y e1
        rw [hu3]
        cases e : valueAt ws (Sum.inl t.1) with
        | none => rw [e] at rv; exact rv.elim
        | some y' =>
          rw [e] at rv
          obtain ⟨as, ra⟩ := Dp.reads I _ _ v (h t List.mem_cons_self) hv
          obtain ⟨bs, rb⟩ := Dp.reads I _ _ y' (hu2 ▸ hus u hu1) rv
          have hq : SeqAt.EqAt A.in1 s v y' (PyData.eqv (rowD t.2.2) (rowD u.2.2)) := SeqAt.eqAt_reads _ _ A.in1 s v y' as bs ra rb (SeqAt.canLay_of_shaped (shaped_ints t.2.2)) (SeqAt.canLay_of_shaped (shaped_ints u.2.2)) (by
            have hd : PyData.depth (rowD t.2.2) = 1 := by
              show PyData.depth (.tuple (t.2.2.map PyData.int)) = 1
              simp only [PyData.depth, dep_ints]
            rw [hd]
            show A.units + 1 + 1 < cLine
            omega)
          have eq0 : PyData.eqv (rowD t.2.2) (rowD u.2.2) = decide (t.2.2 = u.2.2) := eqv_ints _ _
          rw [eq0] at hq
          exact .hit e hq ih
end
theorem scWhole : FnScope ["thing", "low", "high"] ["thing", "low", "high"] (defScope sWhole) := ⟨rfl, rfl, rfl, by decide +kernel, rfl, by decide +kernel, by decide +kernel⟩
def loB (i : Int) : Option Int → Bool
  | none => true
  | some l => decide (l ≤ i)
def hiB (i : Int) : Option Int → Bool
  | none => true
  | some h => decide (i ≤ h)
def wholeB (d : PyData) (lo hi : Option Int) : Bool := match d with
  | .int i => loB i lo && hiB i hi
  | _ => false
def optV : Option Int → V
  | none => .non
  | some i => .int i
def spWhole (K : PySem.W.Frag) : Sp := fun vs H Q _ => ∃ v d lo hi, vs = [v, optV lo, optV hi] ∧ Dp K H v d ∧ Q (.bl (wholeB d lo hi)) H
section
variable {P : Program} {w : World} {K : PySem.W.Frag} {mg : Str → Option Value} {base : Heap}
theorem ok_whole {f : Addr} {fd : FuncData} {kws : List (Str × V)} (F : FunD K "is_whole" "is_whole" (defArgs sWhole) (defBody sWhole) (defScope sWhole) [.non, .non] kws f fd) (mi : mg "isinstance" = none) (mt : mg "int" = none) (mb : mg "bool" = none) :
    FnOk P w K mg base CX0 1 f fd ["thing", "low", "high"] (spWhole K) := by
  refine F.ok scWhole (fun vs H Q E h => ?_) (fun cdv A outer s H vs Q E hr h => ?_)
  · obtain ⟨v, d, lo, hi, rfl, _⟩ := h
    rfl
  · obtain ⟨v, d, lo, hi, rfl, hd, q⟩ := h
    refine ⟨_, pss_cons (ps_if (PW.pt (pw_or (pt_not (pt_val (pe_callB call_isi (by rfl) mi (by decide +kernel) (pa_cons (pv 0) (pa_cons (pe_bltn (v := .ty "int") (by rfl) mt boot_int rfl) pa_nil)))))
        (pw_or1 (pt_val (pe_callB call_isi (by rfl) mi (by decide +kernel) (pa_cons (pv 0) (pa_cons (pe_bltn (v := .ty "bool") (by rfl) mb boot_bool rfl) pa_nil))))))) (pss_one (ps_ret pe_bl)) pss_nil)
      (pss_cons (ps_if (PW.pt (pw_and (pt_cmpR op_notN (pv 1) pe_non (nomark _)) (pw_and1 (pt_cmpR op_lt (pv 0) (pv 1) (nomark _))))) (pss_one (ps_ret pe_bl)) pss_nil)
      (pss_one (ps_ret (pe_or (pe_cmp (pc_isN (pv 2))) (pe_one (pe_cmp (pc_le (pv 0) (pv 2)))))))), ?_⟩
    obtain ⟨t, ty, kt⟩ := isi_int hd
    obtain ⟨t2, ty2, kt2⟩ := isi_bool hd
    refine ⟨_, rfl, _, _, t, _, _, rfl, .ty _, ty, kt, _, rfl, ?_⟩
    cases hd with
    | non => exact iteT (iteT q)
    | str x => exact iteT (iteT q)
    | lst _ _ => exact iteT (iteT q)
    | tup _ _ => exact iteT (iteT q)
    | bl b => exact iteF ⟨_, rfl, _, _, t2, _, _, rfl, .ty _, ty2, kt2, _, rfl, iteT q⟩
    | int i =>
      refine iteF ⟨_, rfl, _, _, t2, _, _, rfl, .ty _, ty2, kt2, _, rfl, iteF ?_⟩
      have fin : ∀ b : Bool, Q (.bl (b && hiB i hi)) H → b = true → tRet (tOrV (tIsN (tVar 2)) (tLe (tVar 0) (tVar 2))) { nx := fun _ H' => Q .non H', rt := Q } [some (V.int i), some (optV lo), some (optV hi)] H := by
        intro b q hb
        subst hb
        cases hi with
        | none => exact ⟨_, rfl, _, rfl, iteT q⟩
        | some h => exact ⟨_, rfl, _, rfl, iteF ⟨_, rfl, _, rfl, i, h, rfl, rfl, q⟩⟩
      cases lo with
      | none => exact ⟨_, rfl, rfl, _, rfl, iteF (iteF (fin true q rfl))⟩
      | some l =>
        refine ⟨_, rfl, rfl, _, rfl, iteT ⟨_, rfl, _, rfl, i, l, rfl, rfl, _, rfl, ite2 (fun hc => ?_) (fun hc => ?_)⟩⟩
        · have hl : i < l := of_decide_eq_true hc
          have e : wholeB (.int i) (some l) hi = false := by
            show (decide (l ≤ i) && _) = false
            rw [decide_eq_false (by omega)]
            rfl
          rw [e] at q
          exact q
        · have hl : ¬ i < l := fun z => hc (decide_eq_true z)
          exact fin (decide (l ≤ i)) q (decide_eq_true (by omega))
theorem tyes_go {σ : L2.St} {H : Hp} {A B : Hp → Prop} (h : A H) : tYes σ H (fun b H3 => if b = true then A H3 else B H3) := by
  show if true = true then A H else B H
  rw [if_pos rfl]
  exact h
end
theorem scNum : FnScope ["_law_script", "_law_index", "_law_cell", "_law_blend"] ["_law_script", "_law_index"] (defScope sNum) := ⟨rfl, rfl, rfl, by decide +kernel, rfl, by decide +kernel, by decide +kernel⟩
theorem scTake : FnScope ["_law_draw", "_law_many"] ["_law_draw", "_law_many"] (defScope sTake) := ⟨rfl, rfl, rfl, by decide +kernel, rfl, by decide +kernel, by decide +kernel⟩
theorem scPick : FnScope ["_law_draw", "_law_items"] ["_law_draw", "_law_items"] (defScope sPick) := ⟨rfl, rfl, rfl, by decide +kernel, rfl, by decide +kernel, by decide +kernel⟩
section
variable {P : Program} {w : World} {K : PySem.W.Frag} {mg : Str → Option Value} {base : Heap}
def spNum (K : PySem.W.Frag) : Sp := fun vs H Q _ => ∃ (a : Addr) (ns : List Int) (i : Int), vs = [.ref a, .int i] ∧ SqL K H a (ns.map V.int) ∧ ns.length ≤ 63 ∧ ∀ r H', Same H H' → Q (.int r) H'
theorem ok_num {f : Addr} {fd : FuncData} (F : Fun K "_law_number" "_law_number" sNum f fd) (mi : mg "int" = none) (ml : mg "len" = none) (ma : mg "abs" = none) : FnOk P w K mg base CX0 1 f fd ["_law_script", "_law_index"] (spNum K) := by
  refine F.ok scNum (fun vs H Q E h => ?_) (fun cdv A outer s H vs Q E hr h => ?_)
  · obtain ⟨a, ns, i, rfl, _⟩ := h
    rfl
  · obtain ⟨a, ns, i, rfl, hS, hlen, k⟩ := h
    refine ⟨_, pss_cons (ps_if (pt_cmpR (op_eqD hr.units) (pv 0) (pe_lst pa_nil) (nomark _))
        (pss_one (ps_ret (pe_callTy call_int1 (by rfl) mi boot_int (pa_cons (pe_op op_mod (pe_op op_add (pe_op op_mul (pv 1) pe_int) pe_int) pe_int) pa_nil)))) pss_nil)
      (pss_cons (ps_set (i := 2) scNum.nd rfl (.inl rfl) (pe_ix ix_list (pv 0) (pe_op op_mod (pv 1) (pe_callB call_len_seq (by rfl) ml boot_len (pa_cons (pv 0) pa_nil))) (fun _ _ => rfl)))
      (pss_cons (ps_if (pt_cmpR op_ge (pe_callB call_abs (by rfl) ma (by decide +kernel) (pa_cons (pv 2) pa_nil)) (pe_op op_pow pe_int pe_int) (nomark _))
        (pss_one (ps_set (i := 2) scNum.nd rfl (.inl rfl) (pe_op op_mod (pv 2) (pe_op op_pow pe_int pe_int)))) pss_nil)
      (pss_cons (ps_set (i := 3) scNum.nd rfl (.inl rfl) (pe_op op_mod (pe_op op_add (pe_op op_mul (pe_op op_add (pv 2) (pe_op op_mul pe_int (pv 1))) pe_int) (pe_op op_mul pe_int (pe_callB call_len_seq (by rfl) ml boot_len (pa_cons (pv 0) pa_nil)))) pe_int))
      (pss_one (ps_ret (pe_callTy call_int1 (by rfl) mi boot_int (pa_cons (pe_op op_mod (pe_op op_add (pe_op op_mul (pe_op op_mod (pe_op op_mul (pv 3) pe_int) pe_int) pe_int) (pv 1)) pe_int) pa_nil))))))), ?_⟩
    refine ⟨_, rfl, Nat.zero_le _, fun p hp => ?_⟩
    have s1 : Same H (upd H p (.lst [])) := same_upd hp
    have hS1 : SqL K (upd H p (.lst [])) a (ns.map V.int) := s1.seq hS
    refine ⟨.list (ns.map PyData.int), .list [], .lst hS1 (dps_ints ns), .lst (SqL.of upd_same) .nil, shaped_list (lay_ints ns) (by rw [dep_ints]; decide), shaped_list (by simp [PyData.canLayAll0]) (by simp [PyData.depthAll]), _, rfl, ?_⟩
    cases ns with
    | nil =>
      have e : PyData.eqv (.list (([] : List Int).map PyData.int)) (.list []) = true := by simp [PyData.eqv, PyData.eqvAll]
      rw [e]
      exact iteT ⟨_, rfl, _, _, rfl, rfl, .inr ⟨by decide, by decide⟩, _, _, rfl, rfl, _, _, rfl, rfl, (by show (0 : Int) < 2147483647; decide), .inl ⟨_, rfl, k _ _ s1⟩⟩
    | cons n0 ns =>
      have e : PyData.eqv (.list ((n0 :: ns).map PyData.int)) (.list []) = false := by simp [PyData.eqv, PyData.eqvAll]
      rw [e]
      have hpos : (0 : Int) < (((n0 :: ns).map V.int).length : Nat) := by simp
      have hj0 : 0 ≤ i % (((n0 :: ns).map V.int).length : Nat) := Int.emod_nonneg _ (by omega)
      have hj1 : i % (((n0 :: ns).map V.int).length : Nat) < (((n0 :: ns).map V.int).length : Nat) := Int.emod_lt_of_pos _ hpos
      obtain ⟨j, ej⟩ : ∃ j : Nat, i % (((n0 :: ns).map V.int).length : Nat) = (j : Int) := ⟨_, (Int.toNat_of_nonneg hj0).symm⟩
      have hjl : j < (n0 :: ns).length := by
        rw [ej, List.length_map] at hj1
        omega
      have hat : atI ((n0 :: ns).map V.int) (i % (((n0 :: ns).map V.int).length : Nat)) = some (.int ((n0 :: ns)[j])) := by
        rw [ej]
        exact atI_nat (by rw [List.getElem?_map, List.getElem?_eq_getElem hjl]; rfl)
      refine iteF ⟨_, rfl, _, rfl, _, rfl, a, _, rfl, .inl hS1, _, _, rfl, rfl, hpos, a, _, _, _, rfl, rfl, hS1, hat, ?_⟩
      refine ⟨_, rfl, _, rfl, _, _, rfl, rfl, ⟨by decide, by decide, by decide⟩, _, _, rfl, rfl, _, rfl, ite2 (fun _ => ?_) (fun _ => ?_)⟩
      · refine ⟨_, rfl, _, _, rfl, rfl, ⟨by decide, by decide, by decide⟩, _, _, rfl, rfl, (by show (0 : Int) < 10 ^ 18; decide), ?_⟩
        refine ⟨_, rfl, _, rfl, _, _, rfl, rfl, .inl ⟨by decide, by decide⟩, _, _, rfl, rfl, _, _, rfl, rfl, .inr ⟨by decide, by decide⟩, _, rfl, a, _, rfl, .inl hS1, _, _, rfl, rfl, .inl ⟨by decide, by decide⟩, _, _, rfl, rfl, _, _, rfl, rfl, (by show (0 : Int) < 2147483647; decide), ?_⟩
        exact ⟨_, rfl, _, _, rfl, rfl, .inr ⟨by decide, by decide⟩, _, _, rfl, rfl, (by show (0 : Int) < 2147483629; decide), _, _, rfl, rfl, .inr ⟨by decide, by decide⟩, _, rfl, _, _, rfl, rfl, _, _, rfl, rfl, (by show (0 : Int) < 2147483587; decide), .inl ⟨_, rfl, k _ _ s1⟩⟩
      · refine ⟨_, rfl, _, rfl, _, _, rfl, rfl, .inl ⟨by decide, by decide⟩, _, _, rfl, rfl, _, _, rfl, rfl, .inr ⟨by decide, by decide⟩, _, rfl, a, _, rfl, .inl hS1, _, _, rfl, rfl, .inl ⟨by decide, by decide⟩, _, _, rfl, rfl, _, _, rfl, rfl, (by show (0 : Int) < 2147483647; decide), ?_⟩
        exact ⟨_, rfl, _, _, rfl, rfl, .inr ⟨by decide, by decide⟩, _, _, rfl, rfl, (by show (0 : Int) < 2147483629; decide), _, _, rfl, rfl, .inr ⟨by decide, by decide⟩, _, rfl, _, _, rfl, rfl, _, _, rfl, rfl, (by show (0 : Int) < 2147483587; decide), .inl ⟨_, rfl, k _ _ s1⟩⟩
/-- draw: the list of the script and how many were drawn -/
def DrawAt (K : PySem.W.Frag) (H : Hp) (a sc : Addr) (ns : List Int) : Prop := (∃ i : Int, H a = some (.lst [.ref sc, .int i])) ∧ SqL K (Off [a] H) sc (ns.map V.int) ∧ ns.length ≤ 63
theorem sql_but {H H' : Hp} {cs : List Addr} {p : Addr} {xs : List V} (h : SqL K H p xs) (s : But cs H H') (n : p ∉ cs) : SqL K H' p xs := by
  rcases h with (h | ⟨o, h⟩) | h
  · exact .inl (.inl (s.at h n))
  · exact .inl (.inr ⟨o, s.at h n⟩)
  · exact .inr h
theorem DrawAt.next {H H' : Hp} {a sc : Addr} {ns : List Int} (D : DrawAt K H a sc ns) (s : But [a] H H') (h : ∃ i : Int, H' a = some (.lst [.ref sc, .int i])) : DrawAt K H' a sc ns :=
  ⟨h, (s.off (fun c z => z)).seq D.2.1, D.2.2⟩
theorem DrawAt.same {H H' : Hp} {a sc : Addr} {ns : List Int} (D : DrawAt K H a sc ns) (s : Same H H') : DrawAt K H' a sc ns :=
  D.next (.of s) (let ⟨i, e⟩ := D.1; ⟨i, s _ _ e⟩)
def spTake (K : PySem.W.Frag) : Sp := fun vs H Q _ => ∃ (a sc : Addr) (ns : List Int) (m : Int), vs = [.ref a, .int m] ∧ DrawAt K H a sc ns ∧ 0 < m ∧ ∀ r H', 0 ≤ r → r < m → But [a] H H' → DrawAt K H' a sc ns → Q (.int r) H'
theorem ok_take {f fN : Addr} {fd fdN : FuncData} (F : Fun K "_law_take" "_law_take" sTake f fd) (GN : FnOk P w K mg base CX0 1 fN fdN ["_law_script", "_law_index"] (spNum K)) (kN : PySem.W.keepIn K (.ref fN) = true) (gN : mg "_law_number" = some (.ref fN))
    (bN : Binds K fdN ["_law_script", "_law_index"] []) (mi : mg "int" = none) : FnOk P w K mg base CX0 2 f fd ["_law_draw", "_law_many"] (spTake K) := by
  refine F.ok scTake (fun vs H Q E h => ?_) (fun cdv A outer s H vs Q E hr h => ?_)
  · obtain ⟨a, sc, ns, m, rfl, _⟩ := h
    rfl
  · obtain ⟨a, sc, ns, m, rfl, D, hm, k⟩ := h
    obtain ⟨⟨i, ha⟩, hS, hlen⟩ := id D
    refine ⟨_, pss_cons (ps_augS (pv 0) pe_int get_list pe_int ip_add set_list)
      (pss_one (ps_ret (pe_op op_mod (pe_callTy call_int1 (by rfl) mi boot_int (pa_cons (pe_call GN hr rfl gN kN bN .nil pass0
        (pa_cons (pe_ix ix_list (pv 0) pe_int (fun _ _ => rfl)) (pa_cons (pe_callTy call_int1 (by rfl) mi boot_int (pa_cons (pe_ix ix_list (pv 0) pe_int (fun _ _ => rfl)) pa_nil)) pa_nil))) pa_nil)) (pv 1)))), ?_⟩
    have sB : ∀ o, But [a] H (upd H a o) := fun o b u z => by
      have hb : b ∉ [a] := fun y => by rw [off_in y] at z; cases z
      rw [off_out hb] at z
      rw [upd_ne (fun y => hb (by rw [y]; simp))]
      exact z
    refine ⟨_, rfl, a, _, 1, .int i, rfl, rfl, SqL.of ha, rfl, i, 1, rfl, rfl, a, _, 1, 1, rfl, rfl, ha, rfl, ?_⟩
    refine ⟨_, rfl, a, _, 0, _, rfl, rfl, SqL.of upd_same, rfl, _, rfl, a, _, 1, _, rfl, rfl, SqL.of upd_same, rfl, .inl ⟨_, rfl, ?_⟩⟩
    refine ⟨sc, ns, i + 1, rfl, (sB _).seq hS, hlen, fun r H' s' => .inl ⟨_, rfl, _, rfl, _, _, rfl, rfl, hm, ?_⟩⟩
    have ha' : H' a = some (.lst [.ref sc, .int (i + 1)]) := s' _ _ upd_same
    have s2 : But [a] H H' := (sB _).trans s'
    exact k _ _ (Int.emod_nonneg _ (by omega)) (Int.emod_lt_of_pos _ hm) s2 (D.next s2 ⟨_, ha'⟩)
def spPick (K : PySem.W.Frag) : Sp := fun vs H Q _ => ∃ (a b sc : Addr) (ns : List Int) (xs : List V), vs = [.ref a, .ref b] ∧ DrawAt K H a sc ns ∧ H b = some (.lst xs) ∧ b ≠ a ∧ xs ≠ [] ∧ ∀ v H', v ∈ xs → But [a] H H' → DrawAt K H' a sc ns → Q v H'
theorem ok_pick {f fT : Addr} {fd fdT : FuncData} (F : Fun K "_law_pick" "_law_pick" sPick f fd) (GT : FnOk P w K mg base CX0 2 fT fdT ["_law_draw", "_law_many"] (spTake K)) (kT : PySem.W.keepIn K (.ref fT) = true) (gT : mg "_law_take" = some (.ref fT))
    (bT : Binds K fdT ["_law_draw", "_law_many"] []) (ml : mg "len" = none) : FnOk P w K mg base CX0 3 f fd ["_law_draw", "_law_items"] (spPick K) := by
  refine F.ok scPick (fun vs H Q E h => ?_) (fun cdv A outer s H vs Q E hr h => ?_)
  · obtain ⟨a, b, sc, ns, xs, rfl, _⟩ := h
    rfl
  · obtain ⟨a, b, sc, ns, xs, rfl, D, hb, hne, hx, k⟩ := h
    refine ⟨_, pss_one (ps_ret (pe_ix ix_list (pv 1) (pe_call GT hr rfl gT kT bT .nil pass0 (pa_cons (pv 0) (pa_cons (pe_callB call_len_seq (by rfl) ml boot_len (pa_cons (pv 1) pa_nil)) pa_nil))) (fun _ _ => rfl))), ?_⟩
    have hpos : 0 < xs.length := List.length_pos_iff.mpr hx
    refine ⟨_, rfl, _, rfl, _, rfl, b, xs, rfl, .inl (SqL.of hb), a, sc, ns, xs.length, rfl, D, by omega, fun r H' h0 h1 s' D' => ?_⟩
    have hb' : H' b = some (.lst xs) := s'.at hb (by simp [hne])
    have hr' : r.toNat < xs.length := by omega
    have er : ((r.toNat : Nat) : Int) = r := by omega
    refine ⟨b, xs, r, xs[r.toNat], rfl, rfl, SqL.of hb', ?_, k _ _ (List.getElem_mem hr') s' D'⟩
    have hat := atI_nat (j := r.toNat) (List.getElem?_eq_getElem hr')
    rw [er] at hat
    exact hat
end
end Pf

set_option Elab.async false
set_option linter.all false
set_option maxRecDepth 100000
set_option maxHeartbeats 4000000
namespace Pf
open PySem PySem.Spec PyProof.Rows L2
/-! ### t * 1 is t -/
theorem tuple_mul1 (l : Addr) (items : Array Value) (n : Nat) (dd : Option Addr) (sl : Array (Option Value)) (u : Tok) :
    Meets (Builtin.«tuple.__mul__» ⟨[.ref l, .int 1 u], []⟩) (fun _ R s => s.heap.get? l = some { cls := .type "tuple", dict := dd, data := .seq items n, slots := sl } ∧ R (.ok (.ret (Value.ref l))) s) :=
  .of_wp fun prog w A R s h => by
    obtain ⟨hp, g, d, tk, os⟩ := s
    obtain ⟨hl, h⟩ := h
    have f1 := AutoSeq1.idx_int
    have c1 : (items.isEmpty || (1 : Int) == 1) = true := by simp
    wp_walk using wpAny_loadPart' hl
    repeat (first
      | (refine wpAny_ite_true (by rw [c1]) ?_; wp_walk using wpAny_loadPart' hl)
      | (refine wpAny_ite_false (by simp) ?_; wp_walk using wpAny_loadPart' hl))
    exact ⟨_, rfl, h⟩
def rRep1 (K : PySem.W.Frag) : R2 := fun x y H Q => ∃ l xs, x = .ref l ∧ y = .int 1 ∧ SqT K H l xs ∧ Q (.ref l) H
theorem op_rep1 {X : Cx} : OpR X (binaryOp .Mult) (rRep1 X.K) := by
  intro pins s σ H x y v u Q I rx ry h
  obtain ⟨l, xs, rfl, rfl, hT, q⟩ := h
  cases rx
  obtain ⟨t, rfl⟩ := ry
  obtain ⟨its, r, ⟨⟨cls, dd, data, sl⟩, ho, hc, n, hd⟩, hs⟩ := I.tuple hT
  simp only at hc hd
  subst hc hd
  exact wpAny_binaryOp_repeat_ref (T := "tuple") (U := "int") (by decide) ⟨_, ho, rfl⟩ (fun s' => typeIs_int s' 1 t) noFill_tuple_mul F.fills_int_mul F.slot_int_rmul repeat_tuple F.slot_int_index.lookup
    (call_meets F.slot_int_rmul (typeIs_int s 1 t) F.entry_int_rmul (F.args_int_rmul_2 _ _) (int_rmul_tuple 1 t l its.toArray n dd sl)
      ⟨ho, rfl, ⟨_, ho, rfl⟩, call_meets F.slot_tuple_mul ⟨_, ho, rfl⟩ F.entry_tuple_mul (F.args_tuple_mul_2 _ _) (tuple_mul1 l its.toArray n dd sl t) ⟨ho, ⟨.ref l, H, I, rfl, q⟩⟩⟩)
structure Df (P : Program) (w : World) (K : PySem.W.Frag) (mg : Str → Option Value) (base : Heap) (CX : CXT) (k : Nat) (x : Str) (ps : List Str) (sp : Sp) (f : Addr) (fd : FuncData) : Prop where
  G : FnOk P w K mg base CX k f fd ps sp
  kp : PySem.W.keepIn K (.ref f) = true
  g : mg x = some (.ref f)
  b : Binds K fd ps []
structure Me (P : Program) (w : World) (K : PySem.W.Frag) (mg : Str → Option Value) (base : Heap) (k : Nat) (C : Addr) (x : Str) (ps : List Str) (sp : Sp) (f : Addr) (fd : FuncData) : Prop where
  G : FnOk P w K mg base CX0 k f fd ps sp
  m : Meth K C x f
  b : Binds K fd ps []
/-! ### shapes of any size -/
structure Sh where
  d : Int
  r : Int
  f : Int
  b : Int
  u : Int
  hd : 2 ≤ d ∧ d ≤ 40
  hr : 1 ≤ r ∧ r ≤ 60
  hf : 1 ≤ f ∧ f ≤ 40
  hb : 1 ≤ b ∧ b ≤ 200
  hu : 1 ≤ u ∧ u ≤ 4
namespace Sh
def fr (S : Sh) : Int := 1 + (S.d + 8 - 1) / 8
def fu (S : Sh) : Int := S.fr + (S.r + 8 - 1) / 8
def ff (S : Sh) : Int := S.fu + (S.u + 8 - 1) / 8
def fb (S : Sh) : Int := S.ff + S.f
def pl (S : Sh) : Int := S.fb + S.b
end Sh
theorem Sh.bd (S : Sh) : 1 ≤ S.fr ∧ S.fr < S.fu ∧ S.fu < S.ff ∧ S.fb = S.ff + S.f ∧ S.pl = S.fb + S.b ∧ 1 ≤ S.b ∧ S.b ≤ 200 ∧ 1 ≤ S.f ∧ S.f ≤ 40 ∧ S.ff ≤ 20 := by
  have h1 := S.hd
  have h2 := S.hr
  have h3 := S.hf
  have h4 := S.hb
  have h5 := S.hu
  unfold Sh.pl Sh.fb Sh.ff Sh.fu Sh.fr
  omega
def ShN : List Str := ["dirs", "rows", "files", "blocks", "users", "first_row", "first_user", "first_file", "first_block", "plates"]
theorem shn_nodup : ShN.Nodup := by decide +kernel
def shV (S : Sh) : List V := [.int S.d, .int S.r, .int S.f, .int S.b, .int S.u, .int S.fr, .int S.fu, .int S.ff, .int S.fb, .int S.pl]
def ShAt (C : Addr) (H : Hp) (s : Addr) (S : Sh) : Prop := ∃ dx, H s = some (.ins C dx (ShN.zip (shV S)))
theorem ShAt.fr {C : Addr} {H H' : Hp} {s : Addr} {b : Sh} {cs : List Addr} (h : ShAt C H s b) (f : Fr cs H H') (n : s ∉ cs) : ShAt C H' s b := let ⟨dx, e⟩ := h; ⟨dx, f.at e n⟩
theorem ShAt.same {C : Addr} {H H' : Hp} {s : Addr} {b : Sh} (h : ShAt C H s b) (f : Same H H') : ShAt C H' s b := let ⟨dx, e⟩ := h; ⟨dx, f _ _ e⟩
structure ShTxt (K : PySem.W.Frag) (C : Addr) : Prop where
  cl : Cls K C
  no : ∀ x ∈ ShN, NoAttr K C x
theorem scPl : FnScope ["cells"] ["cells"] (defScope sPl) := ⟨rfl, rfl, rfl, by decide +kernel, rfl, by decide +kernel, by decide +kernel⟩
theorem scShI : FnScope ["self", "dirs", "rows", "files", "blocks", "users", "number", "word", "low", "high"] ["self", "dirs", "rows", "files", "blocks", "users"] (defScope sShI) := ⟨rfl, rfl, rfl, by decide +kernel, rfl, by decide +kernel, by decide +kernel⟩
theorem scFp : FnScope ["self", "file"] ["self", "file"] (defScope sFp) := ⟨rfl, rfl, rfl, by decide +kernel, rfl, by decide +kernel, by decide +kernel⟩
theorem scBp : FnScope ["self", "block"] ["self", "block"] (defScope sBp) := ⟨rfl, rfl, rfl, by decide +kernel, rfl, by decide +kernel, by decide +kernel⟩
structure RTxt (K : PySem.W.Frag) (mg : Str → Option Value) (aR t0 t1 t2 t3 t4 : Addr) : Prop where
  g : mg "RANGES" = some (.ref aR)
  r : ∀ H, SqT K H aR [.ref t0, .ref t1, .ref t2, .ref t3, .ref t4]
  r0 : ∀ H, SqT K H t0 [.str "dirs", .int 2, .int 40]
  r1 : ∀ H, SqT K H t1 [.str "rows", .int 1, .int 60]
  r2 : ∀ H, SqT K H t2 [.str "files", .int 1, .int 40]
  r3 : ∀ H, SqT K H t3 [.str "blocks", .int 1, .int 200]
  r4 : ∀ H, SqT K H t4 [.str "users", .int 1, .int 4]
section
variable {P : Program} {w : World} {K : PySem.W.Frag} {mg : Str → Option Value} {base : Heap} {C : Addr}
def spPl : Sp := fun vs H Q _ => ∃ n : Int, vs = [.int n] ∧ Q (.int ((n + 8 - 1) / 8)) H
theorem ok_pl {f : Addr} {fd : FuncData} (F : Fun K "plates_for" "plates_for" sPl f fd) {tw : Tok} (mW : mg "WIDTH" = some (.int 8 tw)) : FnOk P w K mg base CX0 1 f fd ["cells"] spPl := by
  refine F.ok scPl (fun vs H Q E h => ?_) (fun cdv A outer s H vs Q E hr h => ?_)
  · obtain ⟨n, rfl, _⟩ := h
    rfl
  · obtain ⟨n, rfl, q⟩ := h
    refine ⟨_, pss_one (ps_ret (pe_op op_fdiv (pe_op op_sub (pe_op op_add (pv 0) (pe_glob (v := .int 8) rfl mW ⟨_, rfl⟩)) pe_int) (pe_glob (v := .int 8) rfl mW ⟨_, rfl⟩))), ?_⟩
    exact ⟨_, rfl, _, _, rfl, rfl, _, _, rfl, rfl, _, _, rfl, rfl, ⟨by decide, by decide⟩, q⟩
def spFp (C : Addr) : Sp := fun vs H Q _ => ∃ (s : Addr) (b : Sh) (n : Int), vs = [.ref s, .int n] ∧ ShAt C H s b ∧ Q (.int (b.ff + n)) H
theorem ok_fp {f : Addr} {fd : FuncData} (F : Fun K "file_plate" "Shape.file_plate" sFp f fd) (T : ShTxt K C) : FnOk P w K mg base CX0 1 f fd ["self", "file"] (spFp C) := by
  refine F.ok scFp (fun vs H Q E h => ?_) (fun cdv A outer s H vs Q E hr h => ?_)
  · obtain ⟨s, b, n, rfl, _⟩ := h
    rfl
  · obtain ⟨sa, b, n, rfl, S, q⟩ := h
    refine ⟨_, pss_one (ps_ret (pe_op op_add (pe_fld (pv 0) rfl) (pv 1))), ?_⟩
    obtain ⟨dx, e⟩ := S
    exact ⟨_, rfl, sa, C, dx, _, _, rfl, e, T.cl, T.no _ (by decide +kernel), zip_get (i := 7) shn_nodup rfl rfl, _, rfl, _, _, rfl, rfl, q⟩
def spBp (C : Addr) : Sp := fun vs H Q _ => ∃ (s : Addr) (b : Sh) (n : Int), vs = [.ref s, .int n] ∧ ShAt C H s b ∧ Q (.int (b.fb + n)) H
theorem ok_bp {f : Addr} {fd : FuncData} (F : Fun K "block_plate" "Shape.block_plate" sBp f fd) (T : ShTxt K C) : FnOk P w K mg base CX0 1 f fd ["self", "block"] (spBp C) := by
  refine F.ok scBp (fun vs H Q E h => ?_) (fun cdv A outer s H vs Q E hr h => ?_)
  · obtain ⟨s, b, n, rfl, _⟩ := h
    rfl
  · obtain ⟨sa, b, n, rfl, S, q⟩ := h
    refine ⟨_, pss_one (ps_ret (pe_op op_add (pe_fld (pv 0) rfl) (pv 1))), ?_⟩
    obtain ⟨dx, e⟩ := S
    exact ⟨_, rfl, sa, C, dx, _, _, rfl, e, T.cl, T.no _ (by decide +kernel), zip_get (i := 8) shn_nodup rfl rfl, _, rfl, _, _, rfl, rfl, q⟩
theorem fld_go {N : List Str} {st dx : Addr} {vs : List V} {x : Str} {v : V} {H1 : Hp} {σ : L2.St} {D : Ends} (cl : Cls K C) (nd : N.Nodup) (i : Nat) (no : NoAttr K C x) (h0 : σ[0]? = some (some (.ref st))) (est : H1 st = some (.ins C dx (N.zip vs))) (hx : N[i]? = some x) (hl : vs.length = i) (hi : i ≤ 100)
    (k : ∀ H2, H2 st = some (.ins C dx (N.zip (vs ++ [v]))) → Fr [st] H1 H2 → D.nx σ H2) :
    ∃ v1, σ[0]? = some (some v1) ∧ ∃ a C' dx' fs, v1 = V.ref a ∧ H1 a = some (.ins C' dx' fs) ∧ Cls K C' ∧ NoAttr K C' x ∧ fs.length < 1000 ∧ D.nx σ (upd H1 a (.ins C' dx' (putF x v fs))) := by
  have hlen : (N.zip vs).length < 1000 := by
    rw [List.length_zip]
    omega
  refine ⟨_, h0, st, C, dx, _, rfl, est, cl, no, hlen, ?_⟩
  rw [zip_add i nd hx hl]
  exact k _ upd_same (.put (by simp) (fun u z => by rw [est] at z; cases z; rfl))
def spShI (C : Addr) : Sp := fun vs H Q _ => ∃ (s dx : Addr) (b : Sh), vs = [.ref s, .int b.d, .int b.r, .int b.f, .int b.b, .int b.u] ∧ H s = some (.ins C dx []) ∧ ∀ H', Fr [s] H H' → ShAt C H' s b → Q .non H'
theorem ok_shI {f fW fP aR t0 t1 t2 t3 t4 : Addr} {fd dW dP : FuncData} {dsW : List Value} (F : Fun K "__init__" "Shape.__init__" sShI f fd) (T : ShTxt K C) (R : RTxt K mg aR t0 t1 t2 t3 t4) (mz : mg "zip" = none)
    (GW : FnOk P w K mg base CX0 1 fW dW ["thing", "low", "high"] (spWhole K)) (kW : PySem.W.keepIn K (.ref fW) = true) (gW : mg "is_whole" = some (.ref fW)) (bW : Binds K dW ["thing", "low", "high"] [])
    (DP : Df P w K mg base CX0 1 "plates_for" ["cells"] spPl fP dP) {td : Tok} (mD : mg "FIRST_DIR_shape" = some (.int 1 td)) : FnOk P w K mg base CX0 2 f fd ["self", "dirs", "rows", "files", "blocks", "users"] (spShI C) := by
  refine F.ok scShI (fun vs H Q E h => ?_) (fun cdv A outer s H vs Q E hr h => ?_)
  · obtain ⟨sa, dx, b, rfl, _⟩ := h
    rfl
  · obtain ⟨sa, dx, b, rfl, es, k⟩ := h
    have nd := scShI.nd
    refine ⟨_, pss_cons (ps_for PassesOwn.never rfl (RZ.pi_zipA (by rfl) mz (pa_cons (pe_tup (pa_cons (pv 1) (pa_cons (pv 2) (pa_cons (pv 3) (pa_cons (pv 4) (pa_cons (pv 5) pa_nil)))))) (pa_cons (pe_glob (v := .ref aR) rfl R.g rfl) pa_nil)))
        (pg_tup rfl (pgs_cons (pg_name (i := 6) nd rfl (.inl rfl)) (pgs_cons (pg_tup rfl (pgs_cons (pg_name (i := 7) nd rfl (.inl rfl)) (pgs_cons (pg_name (i := 8) nd rfl (.inl rfl)) (pgs_cons (pg_name (i := 9) nd rfl (.inl rfl)) pgs_nil)))) pgs_nil)))
        (pss_one (ps_if (pt_not (pt_val (pe_call GW hr rfl gW kW bW .nil pass0 (pa_cons (pv 6) (pa_cons (pv 8) (pa_cons (pv 9) pa_nil)))))) (pss_one ps_never) pss_nil)))
      (pss_cons (ps_fld (pv 0) (pv 1) rfl)
      (pss_cons (ps_fld (pv 0) (pv 2) rfl)
      (pss_cons (ps_fld (pv 0) (pv 3) rfl)
      (pss_cons (ps_fld (pv 0) (pv 4) rfl)
      (pss_cons (ps_fld (pv 0) (pv 5) rfl)
      (pss_cons (ps_fld (pv 0) (pe_op op_add (pe_glob (v := .int 1) rfl mD ⟨_, rfl⟩) (pe_call DP.G hr rfl DP.g DP.kp DP.b .nil pass0 (pa_cons (pv 1) pa_nil))) rfl)
      (pss_cons (ps_fld (pv 0) (pe_op op_add (pe_fld (pv 0) rfl) (pe_call DP.G hr rfl DP.g DP.kp DP.b .nil pass0 (pa_cons (pv 2) pa_nil))) rfl)
      (pss_cons (ps_fld (pv 0) (pe_op op_add (pe_fld (pv 0) rfl) (pe_call DP.G hr rfl DP.g DP.kp DP.b .nil pass0 (pa_cons (pv 5) pa_nil))) rfl)
      (pss_cons (ps_fld (pv 0) (pe_op op_add (pe_fld (pv 0) rfl) (pv 3)) rfl)
      (pss_one (ps_fld (pv 0) (pe_op op_add (pe_fld (pv 0) rfl) (pv 4)) rfl))))))))))), ?_⟩
    refine ⟨_, rfl, _, rfl, _, rfl, _, rfl, _, rfl, (by show 5 ≤ sizeLine; decide), fun u hu => ⟨u, aR, _, _, rfl, .inr ⟨SqT.of upd_same, R.r _, RZ.for_zipT (K := K) (a := u) (b := aR) (xs := [.int b.d, .int b.r, .int b.f, .int b.b, .int b.u]) (ys := [.ref t0, .ref t1, .ref t2, .ref t3, .ref t4]) rfl
      (fun i σ H' => ∃ y6 y7 y8 y9, σ = [some (.ref sa), some (.int b.d), some (.int b.r), some (.int b.f), some (.int b.b), some (.int b.u), y6, y7, y8, y9] ∧ Same (upd H u (.tup [.int b.d, .int b.r, .int b.f, .int b.b, .int b.u])) H') ⟨none, none, none, none, rfl, Same.refl _⟩ (fun i σ H' p => ?_) ?_ ?_⟩⟩⟩
    · obtain ⟨_, _, _, _, _, s1⟩ := p
      exact ⟨SqT.of (s1 _ _ upd_same), R.r _⟩
    · rintro i x y Tt σ H' hx hy ⟨y6, y7, y8, y9, rfl, s1⟩ hT
      obtain ⟨n, t, wd, lo, hi, rfl, rfl, h1, h2, ht⟩ : ∃ (n : Int) (t : Addr) (wd : Str) (lo hi : Int), x = .int n ∧ y = .ref t ∧ lo ≤ n ∧ n ≤ hi ∧ ∀ H, SqT K H t [.str wd, .int lo, .int hi] := by
        match i, hx, hy with
        | 0, hx, hy => cases hx; cases hy; exact ⟨_, _, _, _, _, rfl, rfl, b.hd.1, b.hd.2, R.r0⟩
        | 1, hx, hy => cases hx; cases hy; exact ⟨_, _, _, _, _, rfl, rfl, b.hr.1, b.hr.2, R.r1⟩
        | 2, hx, hy => cases hx; cases hy; exact ⟨_, _, _, _, _, rfl, rfl, b.hf.1, b.hf.2, R.r2⟩
        | 3, hx, hy => cases hx; cases hy; exact ⟨_, _, _, _, _, rfl, rfl, b.hb.1, b.hb.2, R.r3⟩
        | 4, hx, hy => cases hx; cases hy; exact ⟨_, _, _, _, _, rfl, rfl, b.hu.1, b.hu.2, R.r4⟩
        | i + 5, hx, hy => cases hx
      have s2 := Same.trans s1 (same_upd (o := .tup [.int n, .ref t]) hT)
      refine ⟨Tt, _, rfl, SqT.of upd_same, rfl, _, _, rfl, _, _, rfl, t, _, rfl, ht _, rfl, _, _, rfl, _, _, rfl, _, _, rfl, rfl, rfl, ?_⟩
      refine ⟨_, rfl, _, rfl, _, rfl, _, .int n, some lo, some hi, rfl, .int _, ?_⟩
      have ew : wholeB (.int n) (some lo) (some hi) = true := by
        show (decide (lo ≤ n) && decide (n ≤ hi)) = true
        rw [decide_eq_true h1, decide_eq_true h2]
        rfl
      rw [ew]
      exact ⟨_, rfl, iteF ⟨_, _, _, _, rfl, s2⟩⟩
    · rintro σ H1 ⟨y6, y7, y8, y9, rfl, s1⟩
      have sH : Same H H1 := (same_upd hu).trans s1
      have e1 : H1 sa = some (.ins C dx (ShN.zip [])) := sH _ _ es
      refine ⟨_, rfl, fld_go (N := ShN) (vs := []) T.cl shn_nodup 0 (T.no _ (by decide +kernel)) rfl e1 rfl rfl (by decide) fun H2 e2 f2 => ?_⟩
      refine ⟨_, rfl, fld_go (N := ShN) T.cl shn_nodup 1 (T.no _ (by decide +kernel)) rfl e2 rfl rfl (by decide) fun H3 e3 f3 => ?_⟩
      refine ⟨_, rfl, fld_go (N := ShN) T.cl shn_nodup 2 (T.no _ (by decide +kernel)) rfl e3 rfl rfl (by decide) fun H4 e4 f4 => ?_⟩
      refine ⟨_, rfl, fld_go (N := ShN) T.cl shn_nodup 3 (T.no _ (by decide +kernel)) rfl e4 rfl rfl (by decide) fun H5 e5 f5 => ?_⟩
      refine ⟨_, rfl, fld_go (N := ShN) T.cl shn_nodup 4 (T.no _ (by decide +kernel)) rfl e5 rfl rfl (by decide) fun H6 e6 f6 => ?_⟩
      refine ⟨_, rfl, _, rfl, _, _, rfl, rfl, fld_go (N := ShN) T.cl shn_nodup 5 (T.no _ (by decide +kernel)) rfl e6 rfl rfl (by decide) fun H7 e7 f7 => ?_⟩
      refine ⟨_, rfl, sa, C, dx, _, _, rfl, e7, T.cl, T.no _ (by decide +kernel), zip_get (i := 5) shn_nodup rfl rfl, _, rfl, _, rfl, _, _, rfl, rfl, fld_go (N := ShN) T.cl shn_nodup 6 (T.no _ (by decide +kernel)) rfl e7 rfl rfl (by decide) fun H8 e8 f8 => ?_⟩
      refine ⟨_, rfl, sa, C, dx, _, _, rfl, e8, T.cl, T.no _ (by decide +kernel), zip_get (i := 6) shn_nodup rfl rfl, _, rfl, _, rfl, _, _, rfl, rfl, fld_go (N := ShN) T.cl shn_nodup 7 (T.no _ (by decide +kernel)) rfl e8 rfl rfl (by decide) fun H9 e9 f9 => ?_⟩
      refine ⟨_, rfl, sa, C, dx, _, _, rfl, e9, T.cl, T.no _ (by decide +kernel), zip_get (i := 7) shn_nodup rfl rfl, _, rfl, _, _, rfl, rfl, fld_go (N := ShN) T.cl shn_nodup 8 (T.no _ (by decide +kernel)) rfl e9 rfl rfl (by decide) fun Ha ea fa => ?_⟩
      refine ⟨_, rfl, sa, C, dx, _, _, rfl, ea, T.cl, T.no _ (by decide +kernel), zip_get (i := 8) shn_nodup rfl rfl, _, rfl, _, _, rfl, rfl, fld_go (N := ShN) T.cl shn_nodup 9 (T.no _ (by decide +kernel)) rfl ea rfl rfl (by decide) fun Hb eb fb => ?_⟩
      exact k _ ((((((((((Fr.of sH).trans f2).trans f3).trans f4).trans f5).trans f6).trans f7).trans f8).trans f9).trans fa |>.trans fb) ⟨dx, eb⟩
theorem scDc : FnScope ["self", "number"] ["self", "number"] (defScope sDc) := ⟨rfl, rfl, rfl, by decide +kernel, rfl, by decide +kernel, by decide +kernel⟩
theorem scRc : FnScope ["self", "number"] ["self", "number"] (defScope sRc) := ⟨rfl, rfl, rfl, by decide +kernel, rfl, by decide +kernel, by decide +kernel⟩
theorem scUc : FnScope ["self", "user"] ["self", "user"] (defScope sUc) := ⟨rfl, rfl, rfl, by decide +kernel, rfl, by decide +kernel, by decide +kernel⟩
theorem scClk : FnScope ["self"] ["self"] (defScope sClk) := ⟨rfl, rfl, rfl, by decide +kernel, rfl, by decide +kernel, by decide +kernel⟩
theorem scTold : FnScope ["self"] ["self"] (defScope sTold) := ⟨rfl, rfl, rfl, by decide +kernel, rfl, by decide +kernel, by decide +kernel⟩
/-- a cell of a shape: its plate and its place there -/
def spCellN (C : Addr) (first : Sh → Int) : Sp := fun vs H Q _ => ∃ (s : Addr) (b : Sh) (n : Int), vs = [.ref s, .int n] ∧ ShAt C H s b ∧ ∀ t, H t = none → Q (.ref t) (upd H t (.tup [.int (first b + n / 8), .int (n % 8)]))
theorem ok_dcell {f : Addr} {fd : FuncData} (F : Fun K "dir_cell" "Shape.dir_cell" sDc f fd) {tw td : Tok} (mW : mg "WIDTH" = some (.int 8 tw)) (mD : mg "FIRST_DIR_shape" = some (.int 1 td)) : FnOk P w K mg base CX0 1 f fd ["self", "number"] (spCellN C fun _ => 1) := by
  refine F.ok scDc (fun vs H Q E h => ?_) (fun cdv A outer s H vs Q E hr h => ?_)
  · obtain ⟨s, b, n, rfl, _⟩ := h
    rfl
  · obtain ⟨sa, b, n, rfl, S, q⟩ := h
    refine ⟨_, pss_one (ps_ret (pe_tup (pa_cons (pe_op op_add (pe_glob (v := .int 1) rfl mD ⟨_, rfl⟩) (pe_op op_fdiv (pv 1) (pe_glob (v := .int 8) rfl mW ⟨_, rfl⟩))) (pa_cons (pe_op op_mod (pv 1) (pe_glob (v := .int 8) rfl mW ⟨_, rfl⟩)) pa_nil)))), ?_⟩
    exact ⟨_, rfl, _, _, rfl, rfl, ⟨by decide, by decide⟩, _, _, rfl, rfl, _, rfl, _, _, rfl, rfl, (by show (0 : Int) < 8; decide), (by show 2 ≤ sizeLine; decide), q⟩
theorem ok_rcell {f : Addr} {fd : FuncData} (F : Fun K "row_cell" "Shape.row_cell" sRc f fd) (T : ShTxt K C) {tw : Tok} (mW : mg "WIDTH" = some (.int 8 tw)) : FnOk P w K mg base CX0 1 f fd ["self", "number"] (spCellN C Sh.fr) := by
  refine F.ok scRc (fun vs H Q E h => ?_) (fun cdv A outer s H vs Q E hr h => ?_)
  · obtain ⟨s, b, n, rfl, _⟩ := h
    rfl
  · obtain ⟨sa, b, n, rfl, S, q⟩ := h
    refine ⟨_, pss_one (ps_ret (pe_tup (pa_cons (pe_op op_add (pe_fld (pv 0) rfl) (pe_op op_fdiv (pv 1) (pe_glob (v := .int 8) rfl mW ⟨_, rfl⟩))) (pa_cons (pe_op op_mod (pv 1) (pe_glob (v := .int 8) rfl mW ⟨_, rfl⟩)) pa_nil)))), ?_⟩
    obtain ⟨dx, e⟩ := S
    exact ⟨_, rfl, sa, C, dx, _, _, rfl, e, T.cl, T.no _ (by decide +kernel), zip_get (i := 5) shn_nodup rfl rfl, _, rfl, _, _, rfl, rfl, ⟨by decide, by decide⟩, _, _, rfl, rfl, _, rfl, _, _, rfl, rfl, (by show (0 : Int) < 8; decide), (by show 2 ≤ sizeLine; decide), q⟩
theorem ok_ucell {f : Addr} {fd : FuncData} (F : Fun K "user_cell" "Shape.user_cell" sUc f fd) (T : ShTxt K C) {tw : Tok} (mW : mg "WIDTH" = some (.int 8 tw)) : FnOk P w K mg base CX0 1 f fd ["self", "user"] (spCellN C Sh.fu) := by
  refine F.ok scUc (fun vs H Q E h => ?_) (fun cdv A outer s H vs Q E hr h => ?_)
  · obtain ⟨s, b, n, rfl, _⟩ := h
    rfl
  · obtain ⟨sa, b, n, rfl, S, q⟩ := h
    refine ⟨_, pss_one (ps_ret (pe_tup (pa_cons (pe_op op_add (pe_fld (pv 0) rfl) (pe_op op_fdiv (pv 1) (pe_glob (v := .int 8) rfl mW ⟨_, rfl⟩))) (pa_cons (pe_op op_mod (pv 1) (pe_glob (v := .int 8) rfl mW ⟨_, rfl⟩)) pa_nil)))), ?_⟩
    obtain ⟨dx, e⟩ := S
    exact ⟨_, rfl, sa, C, dx, _, _, rfl, e, T.cl, T.no _ (by decide +kernel), zip_get (i := 6) shn_nodup rfl rfl, _, rfl, _, _, rfl, rfl, ⟨by decide, by decide⟩, _, _, rfl, rfl, _, rfl, _, _, rfl, rfl, (by show (0 : Int) < 8; decide), (by show 2 ≤ sizeLine; decide), q⟩
def spClk : Sp := fun vs H Q _ => ∃ (s : Addr), vs = [.ref s] ∧ ∀ t, H t = none → Q (.ref t) (upd H t (.tup [.int 0, .int 0]))
theorem ok_clk {f : Addr} {fd : FuncData} (F : Fun K "clock_cell" "Shape.clock_cell" sClk f fd) : FnOk P w K mg base CX0 1 f fd ["self"] spClk := by
  refine F.ok scClk (fun vs H Q E h => ?_) (fun cdv A outer s H vs Q E hr h => ?_)
  · obtain ⟨s, rfl, _⟩ := h
    rfl
  · obtain ⟨sa, rfl, q⟩ := h
    exact ⟨_, pss_one (ps_ret (pe_tup (pa_cons pe_int (pa_cons pe_int pa_nil)))), (by show 2 ≤ sizeLine; decide), q⟩
def spTold (C : Addr) : Sp := fun vs H Q _ => ∃ (s : Addr) (b : Sh), vs = [.ref s] ∧ ShAt C H s b ∧ ∀ t, H t = none → Q (.ref t) (upd H t (.tup [.int b.d, .int b.r, .int b.f, .int b.b, .int b.u]))
theorem ok_told {f : Addr} {fd : FuncData} (F : Fun K "told" "Shape.told" sTold f fd) (T : ShTxt K C) : FnOk P w K mg base CX0 1 f fd ["self"] (spTold C) := by
  refine F.ok scTold (fun vs H Q E h => ?_) (fun cdv A outer s H vs Q E hr h => ?_)
  · obtain ⟨s, b, rfl, _⟩ := h
    rfl
  · obtain ⟨sa, b, rfl, S, q⟩ := h
    refine ⟨_, pss_one (ps_ret (pe_tup (pa_cons (pe_fld (pv 0) rfl) (pa_cons (pe_fld (pv 0) rfl) (pa_cons (pe_fld (pv 0) rfl) (pa_cons (pe_fld (pv 0) rfl) (pa_cons (pe_fld (pv 0) rfl) pa_nil))))))), ?_⟩
    obtain ⟨dx, e⟩ := S
    exact ⟨_, rfl, sa, C, dx, _, _, rfl, e, T.cl, T.no _ (by decide +kernel), zip_get (i := 0) shn_nodup rfl rfl, _, rfl, sa, C, dx, _, _, rfl, e, T.cl, T.no _ (by decide +kernel), zip_get (i := 1) shn_nodup rfl rfl, _, rfl, sa, C, dx, _, _, rfl, e, T.cl, T.no _ (by decide +kernel), zip_get (i := 2) shn_nodup rfl rfl,
      _, rfl, sa, C, dx, _, _, rfl, e, T.cl, T.no _ (by decide +kernel), zip_get (i := 3) shn_nodup rfl rfl, _, rfl, sa, C, dx, _, _, rfl, e, T.cl, T.no _ (by decide +kernel), zip_get (i := 4) shn_nodup rfl rfl, (by show 5 ≤ sizeLine; decide), q⟩
end
end Pf

set_option Elab.async false
set_option linter.all false
set_option maxRecDepth 100000
set_option maxHeartbeats 4000000
namespace Pf
open PySem PySem.Spec PyProof.Rows L2
section
variable {J : It} {n : Nat} {G : Hp → Prop} {Y : Nat → Hp → V → Hp → Prop}
theorem dc_it (w : Walk J n G Y) {g : TG} {tt : TT} {tk tv : TE} {vs : List Nat} {σ : L2.St} {H1 : Hp} {D : Addr} {Qd : Hp → Prop} (Pv : Nat → Hp → Prop) (h0 : Pv 0 (upd H1 D (.dK []))) (hG : ∀ i H, i ≤ n → Pv i H → G H)
    (hs : ∀ i x H H', i < n → Pv i H → Y i H x H' → g x (wipe σ vs) H' fun σ2 H2 => wipe σ2 vs = wipe σ vs ∧ tt σ2 H2 fun b H3 =>
      if b = true then tk σ2 H3 fun y H4 => tv σ2 H4 fun z H5 => ∃ kvs k, y = kV k ∧ H5 D = some (.dK kvs) ∧ kvs.length < sizeLine ∧ Pv (i + 1) (upd H5 D (.dK (putK kvs k z))) else Pv (i + 1) H3) (hd : ∀ H, Pv n H → Qd H) :
    ∃ W : Nat → Nat → Hp → Prop, (∃ m, W 0 m (upd H1 D (.dK []))) ∧ ∀ i m H, W i m H →
      (J.stop i H ∧ Qd H) ∨ (J.go i H ∧ ∃ Nx : Hp → Prop, (∀ H', Nx H' → ∃ m', m' < m ∧ W (i + 1) m' H') ∧ ∀ x H', J.yld i H x H' → g x (wipe σ vs) H' fun σ2 H2 => wipe σ2 vs = wipe σ vs ∧ tt σ2 H2 fun b H3 =>
        if b = true then tk σ2 H3 fun y H4 => tv σ2 H4 fun z H5 => ∃ kvs k, y = kV k ∧ H5 D = some (.dK kvs) ∧ kvs.length < sizeLine ∧ Nx (upd H5 D (.dK (putK kvs k z))) else Nx H3) := by
  refine ⟨fun i m H => m = n - i ∧ i ≤ n ∧ Pv i H, ⟨n, by simp, Nat.zero_le _, h0⟩, ?_⟩
  rintro i m H ⟨rfl, hi, p⟩
  have q := hG i H hi p
  by_cases hlt : i < n
  · refine .inr ⟨w.goes i H hlt q, Pv (i + 1), fun H' p' => ⟨n - (i + 1), by omega, rfl, hlt, p'⟩, fun x H' y => hs i x H H' hlt p (w.yields i H x H' hlt q y)⟩
  · have e : i = n := by omega
    subst e
    exact .inl ⟨w.stops H q, hd H p⟩
end
section
variable {X : Cx}
/-- name = {k: v for ..} on one line, the name a local -/
theorem ps_setDc {i : Nat} {y : Str} {py : Pos} {kx vx tg iter : Expr} {ifs : List Expr} {scope : Scope} {own : List (Str × Nat)} {pos spos : Pos} {wi : TI} {g : TG} {tt : TT} {tk tv : TE} (hc : X.calm = true) (hN : X.N.Nodup) (hy : X.N[i]? = some y) (hyl : X.env.scope.names.lookup y = some .local)
    (hsw : swapsWith (.DictComp kx vx [⟨tg, iter, ifs, 0⟩] scope pos) (some (.Name y py)) spos.line X.env = pure true) (hi : PI X tg iter wi) (ok : BlkOk X.N X.env.scope scope own)
    (hg : ∀ (s : Shared) (H : Hp) (C : Addr) (cl : List (Str × Addr)) (fp : List Addr), PG (X.blk s H scope (compEnvC scope cl C X.env) fp) tg g) (ht : ∀ (s : Shared) (H : Hp) (C : Addr) (cl : List (Str × Addr)) (fp : List Addr), PTs (X.blk s H scope (compEnvC scope cl C X.env) fp) ifs tt)
    (hk : ∀ (s : Shared) (H : Hp) (C : Addr) (cl : List (Str × Addr)) (fp : List Addr), PE (X.blk s H scope (compEnvC scope cl C X.env) fp) kx tk)
    (he : ∀ (s : Shared) (H : Hp) (C : Addr) (cl : List (Str × Addr)) (fp : List Addr), PE (X.blk s H scope (compEnvC scope cl C X.env) fp) vx tv) (hs : ∀ x, foldedSetIterable iter X.env x = pure x := by intro _; rfl) :
    PS X (.Assign [.Name y py] (.DictComp kx vx [⟨tg, iter, ifs, 0⟩] scope pos) spos) (tAsg (tDc wi g tt tk tv (own.map (·.2))) (gName i)) := by
  refine ⟨fun pins s σ H D I h => ?_⟩
  rw [exec_Assign_Name_used _ _ _ _ hsw]
  refine wpAny_bind (wpAny_standAt (wpAny_bind ?_))
  show wpAny _ X.A (do let _ ← comprehension (.DictComp kx vx [⟨tg, iter, ifs, 0⟩] scope pos) scope X.env (firstIterPos [⟨tg, iter, ifs, 0⟩] pos) newDict false (eval iter X.env) (some (assign (.Name y py) X.env))) _ _ s
  have h : tDc wi g tt tk tv (own.map (·.2)) σ H (fun x H1 => gName i x σ H1 D.nx) := h
  refine wpAny_bind (thn (dc_core (Qf := fun _ s' => SP X pins D .next s') hc hN I hi ok hg ht hk he hs h fun L C s' m H' I' q hn f => ?_) fun _ s' hq => wpAny_pure (wpAny_pure hq))
  show wpAny _ _ (assign (.Name y py) X.env (.ref L)) _ _ _
  refine wpAny_assign_Name (store_ok2 (v := V.ref L) I' hN hy (.inl hyl) rfl (fun s2 I2 ⟨a, sb, ha⟩ => ?_) (.inr hyl))
  obtain ⟨f0, f1, f2, f3, f4, f5⟩ := f
  have haC : C ≠ a := by
    rcases ha with z | z
    · rw [z]; exact f1
    · exact fun e => f4 y a z e.symm
  refine ⟨m, hn.sameBut sb haC, fun h3 sb3 => ?_⟩
  exact ⟨_, H', I2.turned (t' := s2.toks) (fun b o hb e => (sb3.2 b hb).trans e) f0 f1 f3 f4 f5, q⟩
theorem swD_true {kx vx : Expr} {gs : List Comprehension} {scope : Scope} {pos py : Pos} {y : Str} {l : Nat} {env : Env} (hk : env.scope.kind = .function) (hy : env.scope.names.lookup y = some .local) (hl : (py.line == pos.line) = true)
    (ha : (scope.names.any fun (n, k) => n == y && (k == .local || k == .cell)) = false) : swapsWith (.DictComp kx vx gs scope pos) (some (.Name y py)) l env = pure true := by
  have ky : env.kindOf y = some .local := hy
  have hb : env.blockKind = .function := by unfold Env.blockKind; rw [hk]; rfl
  unfold swapsWith
  simp only [hb, ky, ha, Expr.pos, hl]
  rfl
end
/-! ### homes: eight whole numbers on each of n plates -/
theorem find_putC (cs : List Ch) (k : Int) (l : List Int) (p : Int) : findC (putC cs k l) p = if p = k then some l else findC cs p := by
  have aux : ∀ cs : List Ch, (cs.any fun t => decide (t.1 = k)) = false → findC cs k = none := by
    intro cs
    induction cs with
    | nil => intro _; rfl
    | cons c cs ih =>
      intro h
      rw [List.any_cons, Bool.or_eq_false_iff] at h
      have hne : ¬ c.1 = k := of_decide_eq_false h.1
      have := ih h.2
      unfold findC at this ⊢
      rw [List.find?_cons_of_neg (by simp [hne])]
      exact this
  have app : ∀ (cs ds : List Ch) (q : Int), findC (cs ++ ds) q = match findC cs q with | some l => some l | none => findC ds q := by
    intro cs ds q
    unfold findC
    rw [List.find?_append]
    cases cs.find? (fun d => decide (d.1 = q)) <;> rfl
  have mp : ∀ cs : List Ch, findC (cs.map (fun t => if t.1 = k then (t.1, l) else t)) p = if p = k then (findC cs k).map (fun _ => l) else findC cs p := by
    intro cs
    induction cs with
    | nil =>
      by_cases e : p = k
      · rw [if_pos e]; rfl
      · rw [if_neg e]; rfl
    | cons c cs ih =>
      unfold findC at ih ⊢
      by_cases hc : c.1 = k
      · rw [List.map_cons, if_pos hc]
        by_cases e : p = k
        · rw [if_pos e, List.find?_cons_of_pos (by simp [hc, e]), List.find?_cons_of_pos (by simp [hc])]
          rfl
        · rw [if_neg e] at ih ⊢
          rw [List.find?_cons_of_neg (by simp [hc]; exact fun z => e z.symm), List.find?_cons_of_neg (by simp [hc]; exact fun z => e z.symm)]
          exact ih
      · rw [List.map_cons, if_neg hc]
        by_cases e : p = k
        · rw [if_pos e] at ih ⊢
          rw [List.find?_cons_of_neg (by simp [e, hc]), List.find?_cons_of_neg (by simp [hc])]
          exact ih
        · rw [if_neg e] at ih ⊢
          by_cases hp : c.1 = p
          · rw [List.find?_cons_of_pos (by simp [hp]), List.find?_cons_of_pos (by simp [hp])]
          · rw [List.find?_cons_of_neg (by simp [hp]), List.find?_cons_of_neg (by simp [hp])]
            exact ih
  unfold putC
  split
  · rename_i h
    rw [mp]
    by_cases e : p = k
    · rw [if_pos e, if_pos e]
      cases e2 : findC cs k with
      | some x => rfl
      | none =>
        exfalso
        obtain ⟨t, ht, hk⟩ := List.any_eq_true.mp h
        have hk' : t.1 = k := of_decide_eq_true hk
        unfold findC at e2
        cases e3 : cs.find? (fun d => decide (d.1 = k)) with
        | some x => rw [e3] at e2; cases e2
        | none =>
          have := List.find?_eq_none.mp e3 t ht
          simp [hk'] at this
    · rw [if_neg e, if_neg e]
  · rename_i h
    have h' := aux cs (Bool.eq_false_iff.mpr h)
    rw [app]
    by_cases e : p = k
    · rw [if_pos e, e, h']
      unfold findC
      rw [List.find?_cons_of_pos (by simp)]
      rfl
    · rw [if_neg e]
      cases findC cs p with
      | some x => rfl
      | none =>
        unfold findC
        rw [List.find?_cons_of_neg (by simp; exact fun z => e z.symm)]
        rfl
structure HW (cs : List Ch) (n : Int) : Prop where
  nd : (cs.map (·.1)).Nodup
  at' : ∀ p : Int, 0 ≤ p → p < n → ∃ l, findC cs p = some l ∧ l.length = 8
  len : (cs.length : Int) ≤ n
theorem HW.put {cs : List Ch} {n k : Int} {l : List Int} (h : HW cs n) (hl : l.length = 8) (h0 : 0 ≤ k) (h1 : k < n) : HW (putC cs k l) n := by
  obtain ⟨l0, e0, _⟩ := h.at' k h0 h1
  refine ⟨putC_nodup h.nd, fun p p0 p1 => ?_, ?_⟩
  · rw [find_putC]
    by_cases e : p = k
    · rw [if_pos e]; exact ⟨l, rfl, hl⟩
    · rw [if_neg e]; exact h.at' p p0 p1
  · have hany : (cs.any fun t => decide (t.1 = k)) = true := by
      unfold findC at e0
      cases e3 : cs.find? (fun d => decide (d.1 = k)) with
      | none => rw [e3] at e0; cases e0
      | some x => exact List.any_eq_true.mpr ⟨x, List.mem_of_find?_eq_some e3, by have := List.find?_some e3; exact this⟩
    have : (putC cs k l).length = cs.length := by
      unfold putC
      rw [if_pos hany, List.length_map]
    rw [this]
    exact h.len
theorem HW.more {cs : List Ch} {k : Nat} {l : List Int} (h : HW cs k) (hl : l.length = 8) : HW (putC cs k l) ((k + 1 : Nat) : Int) := by
  refine ⟨putC_nodup h.nd, fun p p0 p1 => ?_, ?_⟩
  · rw [find_putC]
    by_cases e : p = k
    · rw [if_pos e]; exact ⟨l, rfl, hl⟩
    · rw [if_neg e]; exact h.at' p p0 (by omega)
  · have := putC_len cs k l
    have := h.len
    omega
def HoAt (K : PySem.W.Frag) (H : Hp) (h : Addr) (cs : List Ch) (n : Int) : Prop := DcAt K H h cs ∧ HW cs n
theorem HoAt.fr {K : PySem.W.Frag} {H H' : Hp} {h : Addr} {cs : List Ch} {n : Int} {xs : List Addr} (A : HoAt K H h cs n) (f : Fr xs H H') (nn : h ∉ xs) : HoAt K H' h cs n := ⟨A.1.fr f nn, A.2⟩
theorem HoAt.same {K : PySem.W.Frag} {H H' : Hp} {h : Addr} {cs : List Ch} {n : Int} (A : HoAt K H h cs n) (f : Same H H') : HoAt K H' h cs n := A.fr (xs := []) (.of f) (by simp)
def rowAt (cs : List Ch) (p : Int) : List Int := (findC cs p).getD []
/-- a plate of a home, read -/
theorem HoAt.get {K : PySem.W.Frag} {H : Hp} {h : Addr} {cs : List Ch} {n : Int} (A : HoAt K H h cs n) {p : Int} (h0 : 0 ≤ p) (h1 : p < n) :
    ∃ kvs a, H h = some (.dK kvs) ∧ valV kvs (Sum.inl p) = some (.ref a) ∧ SqT K H a ((rowAt cs p).map V.int) ∧ (rowAt cs p).length = 8 := by
  obtain ⟨⟨ts, e1, e2, e3⟩, hw⟩ := A
  obtain ⟨l, f1, f2⟩ := hw.at' p h0 h1
  obtain ⟨g1, g2⟩ := find_tk ts p
  cases ev : valV (tk ts) (Sum.inl p) with
  | none =>
    have := g2 ev
    rw [e2, f1] at this
    cases this
  | some v =>
    obtain ⟨t, ht, hv, hf⟩ := g1 v ev
    rw [e2, f1] at hf
    have hl : l = t.2.2 := Option.some.inj hf
    have hd := e3 t ht
    have er : rowAt cs p = t.2.2 := by
      unfold rowAt
      rw [f1, ← hl]
      rfl
    rw [er]
    have hd' : Dp K (Tp H) v (.tuple (t.2.2.map PyData.int)) := hv ▸ hd
    cases hd' with
    | tup hs ha =>
      refine ⟨_, _, e1, ev, ?_, by rw [← hl]; exact f2⟩
      rw [dps_inv ha] at hs
      exact same_seqT tp_le hs
end Pf

set_option Elab.async false
set_option linter.all false
set_option maxRecDepth 100000
set_option maxHeartbeats 4000000
namespace Pf
open PySem PySem.Spec PyProof.Rows L2
/-! ### the blocks met -/
def blk (b p : Int) : Option Int := if 1 ≤ p ∧ p ≤ b then some (p - 1) else none
def mb (cs : List Ch) (b : Sh) : Nat → Int → List Int
  | 0, p => match blk b.b p with
    | none => []
    | some q => [q]
  | l + 1, p => match blk b.b p with
    | none => []
    | some q => q :: (rowAt cs (b.fb + q)).flatMap (mb cs b l)
def wl : Nat → Nat
  | 0 => 1
  | l + 1 => 1 + 8 * wl l
theorem blk_in {b p q : Int} (h : blk b p = some q) : 0 ≤ q ∧ q < b ∧ q = p - 1 := by
  unfold blk at h
  split at h
  · cases h
    rename_i c
    exact ⟨by omega, by omega, rfl⟩
  · cases h
theorem mb_in {cs : List Ch} {b : Sh} : ∀ (l : Nat) (p x : Int), x ∈ mb cs b l p → 0 ≤ x ∧ x < b.b
  | 0, p, x, h => by
    unfold mb at h
    split at h
    · simp at h
    · rename_i q e
      have := blk_in e
      rw [List.mem_singleton.mp h]
      exact ⟨this.1, this.2.1⟩
  | l + 1, p, x, h => by
    unfold mb at h
    split at h
    · simp at h
    · rename_i q e
      have := blk_in e
      rcases List.mem_cons.mp h with z | z
      · rw [z]
        exact ⟨this.1, this.2.1⟩
      · obtain ⟨y, _, hy⟩ := List.mem_flatMap.mp z
        exact mb_in l y x hy
theorem flat_len {α β : Type} (f : α → List β) (m : Nat) : ∀ xs : List α, (∀ x ∈ xs, (f x).length ≤ m) → (xs.flatMap f).length ≤ xs.length * m
  | [], _ => by simp
  | x :: xs, h => by
    have ih := flat_len f m xs (fun y hy => h y (List.mem_cons_of_mem _ hy))
    have h1 := h x List.mem_cons_self
    rw [List.flatMap_cons, List.length_append, List.length_cons, Nat.add_mul, Nat.one_mul]
    omega
theorem HW.row {cs : List Ch} {b : Sh} (hw : HW cs b.pl) {q : Int} (h0 : 0 ≤ q) (h1 : q < b.b) : (rowAt cs (b.fb + q)).length = 8 := by
  obtain ⟨l, e, hl⟩ := hw.at' (b.fb + q) (by have := b.bd; omega) (by have := b.bd; omega)
  unfold rowAt
  rw [e]
  exact hl
theorem mb_len {cs : List Ch} {b : Sh} (hw : HW cs b.pl) : ∀ (l : Nat) (p : Int), (mb cs b l p).length ≤ wl l
  | 0, p => by
    unfold mb
    split
    · simp [wl]
    · simp [wl]
  | l + 1, p => by
    unfold mb
    split
    · simp
    · rename_i q e
      have hq := blk_in e
      have hr := hw.row hq.1 hq.2.1
      have := flat_len (mb cs b l) (wl l) (rowAt cs (b.fb + q)) (fun x _ => mb_len hw l x)
      rw [hr] at this
      rw [List.length_cons]
      unfold wl
      omega
theorem wl_small : ∀ {l : Nat}, l ≤ 2 → wl l ≤ 73 := by
  intro l h
  match l, h with
  | 0, _ => decide
  | 1, _ => decide
  | 2, _ => decide
theorem mb_small {cs : List Ch} {b : Sh} (hw : HW cs b.pl) {l : Nat} (h : l ≤ 2) (p : Int) : (mb cs b l p).length ≤ 73 := Nat.le_trans (mb_len hw l p) (wl_small h)
theorem scBo : FnScope ["shape", "pointer"] ["shape", "pointer"] (defScope sBo) := ⟨rfl, rfl, rfl, by decide +kernel, rfl, by decide +kernel, by decide +kernel⟩
theorem scMb : FnScope ["home", "shape", "pointer", "level", "block", "blocks", "below"] ["home", "shape", "pointer", "level"] (defScope sMb) := ⟨rfl, rfl, rfl, by decide +kernel, rfl, by decide +kernel, by decide +kernel⟩
section
variable {P : Program} {w : World} {K : PySem.W.Frag} {mg : Str → Option Value} {base : Heap} {C : Addr}
def spBo (C : Addr) : Sp := fun vs H Q _ => ∃ (s : Addr) (b : Sh) (p : Int), vs = [.ref s, .int p] ∧ ShAt C H s b ∧ Q (optV (blk b.b p)) H
theorem ok_bo {f : Addr} {fd : FuncData} (F : Fun K "block_of" "block_of" sBo f fd) (T : ShTxt K C) : FnOk P w K mg base CX0 1 f fd ["shape", "pointer"] (spBo C) := by
  refine F.ok scBo (fun vs H Q E h => ?_) (fun cdv A outer s H vs Q E hr h => ?_)
  · obtain ⟨s, b, p, rfl, _⟩ := h
    rfl
  · obtain ⟨sa, b, p, rfl, S, q⟩ := h
    refine ⟨_, pss_one (ps_ret (pe_ifExp (pt_chain op_le op_le pe_int (pv 1) (pe_fld (pv 0) rfl)) (pe_op op_sub (pv 1) pe_int) pe_non)), ?_⟩
    obtain ⟨dx, e⟩ := S
    have go : ∀ k : Bool, (k = decide (1 ≤ p ∧ p ≤ b.b)) → (if k = true then tOp (rI0 fun i j => .int (i - j)) (tVar 1) (tC (.int 1)) [some (V.ref sa), some (V.int p)] H Q else tC .non [some (V.ref sa), some (V.int p)] H Q) := by
      intro k hk
      subst hk
      refine ite2 (fun c => ?_) (fun c => ?_)
      · have c' := of_decide_eq_true c
        have e : blk b.b p = some (p - 1) := if_pos c'
        rw [e] at q
        exact ⟨_, rfl, _, _, rfl, rfl, q⟩
      · have c' : ¬ (1 ≤ p ∧ p ≤ b.b) := fun z => c (decide_eq_true z)
        have e : blk b.b p = none := if_neg c'
        rw [e] at q
        exact q
    refine ⟨_, rfl, _, _, rfl, rfl, _, rfl, ite2 (fun c => ?_) (fun c => ?_)⟩
    · have c' : 1 ≤ p := of_decide_eq_true c
      refine ⟨_, rfl, sa, C, dx, _, _, rfl, e, T.cl, T.no _ (by decide +kernel), zip_get (i := 3) shn_nodup rfl rfl, _, _, rfl, rfl, _, rfl, go _ ?_⟩
      by_cases h : p ≤ b.b <;> simp [h, c']
    · have c' : ¬ 1 ≤ p := fun z => c (decide_eq_true z)
      refine ⟨_, rfl, go _ ?_⟩
      simp [c']
def spMb (K : PySem.W.Frag) (C : Addr) : Nat → Sp
  | 0 => fun _ _ _ _ => False
  | l + 1 => fun vs H Q _ => ∃ (h sa : Addr) (p : Int) (b : Sh) (cs : List Ch), vs = [.ref h, .ref sa, .int p, .int ((l : Nat) : Int)] ∧ l ≤ 2 ∧ ShAt C H sa b ∧ HoAt K H h cs b.pl ∧
    ∀ H' r, Same H H' → H r = none → H' r = some (.lst ((mb cs b l p).map V.int)) → Q (.ref r) H'
theorem ok_mb {f fB fP : Addr} {fd dB dP : FuncData} (F : Fun K "met_below" "met_below" sMb f fd) (T : ShTxt K C) (g : mg "met_below" = some (.ref f)) (kp : PySem.W.keepIn K (.ref f) = true) (bi : Binds K fd ["home", "shape", "pointer", "level"] [])
    (DB : Df P w K mg base CX0 1 "block_of" ["shape", "pointer"] (spBo C) fB dB) (MP : Me P w K mg base 1 C "block_plate" ["self", "block"] (spBp C) fP dP) : ∀ l : Nat, FnOk P w K mg base CX0 (l + 1) f fd ["home", "shape", "pointer", "level"] (spMb K C l)
  | 0 => F.ok scMb (fun vs H Q E h => h.elim) (fun cdv A outer s H vs Q E hr h => h.elim)
  | l + 1 => by
    have ih := ok_mb F T g kp bi DB MP l
    refine F.ok scMb (fun vs H Q E h => ?_) (fun cdv A outer s H vs Q E hr h => ?_)
    · obtain ⟨h, sa, p, b, cs, rfl, _⟩ := h
      rfl
    · obtain ⟨h, sa, p, b, cs, rfl, hl, S, A, k⟩ := h
      have nd := scMb.nd
      have hr1 := hr.mono (show 1 ≤ l + 1 by omega)
      refine ⟨_, pss_cons (ps_set (i := 4) nd rfl (.inl rfl) (pe_call DB.G hr1 rfl DB.g DB.kp DB.b .nil pass0 (pa_cons (pv 1) (pa_cons (pv 2) pa_nil))))
        (pss_cons (ps_if (pt_cmpR op_isN (pv 4) pe_non (nomark _)) (pss_one (ps_ret (pe_lst pa_nil))) pss_nil)
        (pss_cons (ps_set (i := 5) nd rfl (.inl rfl) (pe_lst (pa_cons (pv 4) pa_nil)))
        (pss_cons (ps_if (pt_cmpR op_gt (pv 3) pe_int (nomark _))
          (pss_one (ps_for PassesOwn.never rfl (pi_tup (pe_dget (hu_of hr) (pv 0) (pe_meth (pv 1) T.cl MP.m MP.G hr1 MP.b .nil pass0 (pa_cons (pv 4) pa_nil)) (fun _ _ => rfl))) (pg_name (i := 6) nd rfl (.inl rfl))
            (pss_one (ps_expr (pe_bm PySem.F.plainAttrs_list PySem.F.slot_list_extend PySem.F.type_list_extend mt_extend (pv 5) (pa_cons (pe_call ih hr rfl g kp bi .nil pass0 (pa_cons (pv 0) (pa_cons (pv 1) (pa_cons (pv 6) (pa_cons (pe_op op_sub (pv 3) pe_int) pa_nil))))) pa_nil)))))) pss_nil)
        (pss_one (ps_ret (pv 5)))))), ?_⟩
      refine ⟨_, rfl, _, rfl, sa, b, p, rfl, S, _, rfl, ?_⟩
      cases eb : blk b.b p with
      | none =>
        have em : mb cs b l p = [] := by cases l <;> (unfold mb; rw [eb])
        rw [em] at k
        exact ⟨rfl, _, rfl, iteT ⟨Nat.zero_le _, fun r hr' => k _ r (same_upd hr') hr' upd_same⟩⟩
      | some q =>
        obtain ⟨q0, q1, qe⟩ := blk_in eb
        refine ⟨rfl, _, rfl, iteF ⟨_, rfl, (by show 1 ≤ sizeLine; decide), fun r hr' => ?_⟩⟩
        have s1 := same_upd (o := .lst [V.int q]) hr'
        refine ⟨_, rfl, _, _, rfl, rfl, _, rfl, ?_⟩
        cases l with
        | zero =>
          have em : mb cs b 0 p = [q] := by unfold mb; rw [eb]
          rw [em] at k
          exact iteF ⟨_, rfl, k _ r s1 hr' upd_same⟩
        | succ l =>
          have em : mb cs b (l + 1) p = q :: (rowAt cs (b.fb + q)).flatMap (mb cs b l) := by unfold mb; rw [eb]
          rw [em] at k
          obtain ⟨dx, es⟩ := id S
          obtain ⟨kvs, ra, e1, e2, e3, e4⟩ := A.get (p := b.fb + q) (by have := b.bd; omega) (by have := b.bd; omega)
          refine ite2 (fun _ => ?_) (fun c => absurd (decide_eq_true (show (0 : Int) < ((l + 1 : Nat) : Int) by omega)) c)
          refine ⟨_, rfl, _, rfl, sa, dx, _, rfl, s1 _ _ es, zip_no (by decide +kernel), _, rfl, sa, b, q, rfl, S.same s1, h, .ref ra, rfl, (by rw [← e2]; exact DGet.k (k := Sum.inl (b.fb + q)) (s1 _ _ e1)), ra, rfl, ⟨_, same_seqT s1 e3⟩,
            for_tup (K := K) (a := ra) (xs := (rowAt cs (b.fb + q)).map V.int) (fun i σ H' => ∃ y6, σ = [some (.ref h), some (.ref sa), some (.int p), some (.int ((l + 1 : Nat) : Int)), some (.int q), some (.ref r), y6] ∧ Same H H' ∧ H' r = some (.lst ((q :: ((rowAt cs (b.fb + q)).take i).flatMap (mb cs b l)).map V.int)))
            ⟨none, rfl, s1, by rw [upd_same]; rfl⟩ (fun i σ H' _ z => by obtain ⟨_, _, z, _⟩ := z; exact same_seqT z e3) ?_ ?_⟩
          · rintro i x σ H' hi ⟨y6, rfl, s2, er⟩
            rw [List.getElem?_map] at hi
            cases ei : (rowAt cs (b.fb + q))[i]? with
            | none => rw [ei] at hi; cases hi
            | some y =>
            rw [ei] at hi
            cases hi
            refine ⟨_, rfl, .inl ⟨rfl, _, SqL.of er⟩, _, rfl, _, rfl, _, rfl, _, rfl, _, _, rfl, rfl, h, sa, y, b, cs, ?_, by omega, S.same s2, A.same s2, fun H2 r2 s3 n2 e5 => ⟨r, r2, _, _, rfl, rfl, s3 _ _ er, e5, ?_, ?_⟩⟩
            · show [V.ref h, V.ref sa, V.int y, V.int (((l + 1 : Nat) : Int) - 1)] = _
              rw [show (((l + 1 : Nat) : Int) - 1) = ((l : Nat) : Int) by omega]
            · have h1 := flat_len (mb cs b l) 73 ((rowAt cs (b.fb + q)).take i) (fun x _ => mb_small A.2 (by omega) x)
              have h2 := mb_small A.2 (show l ≤ 2 by omega) y
              have h3 : ((rowAt cs (b.fb + q)).take i).length ≤ 8 := by rw [List.length_take]; omega
              have h4 := Nat.mul_le_mul_right 73 h3
              rw [List.length_map, List.length_map, List.length_cons]
              exact Nat.le_of_lt (small1000 (by omega))
            · refine ⟨_, rfl, fun b' o e => ?_, ?_⟩
              · rw [upd_ne (ne_of_none e hr')]
                exact s3 _ _ (s2 _ _ e)
              · rw [upd_same, List.take_add_one, ei, List.flatMap_append, ← List.map_append]
                simp
          · rintro σ H' ⟨y6, rfl, s2, er⟩
            rw [List.length_map, List.take_length] at er
            exact ⟨_, rfl, k _ r s2 hr' er⟩
end
end Pf

set_option Elab.async false
set_option linter.all false
set_option maxRecDepth 100000
set_option maxHeartbeats 4000000
namespace Pf
open PySem PySem.Spec PyProof.Rows L2
/-! ### the pointers of a file, and what they meet -/
def LV : List Nat := [0, 0, 0, 1, 2]
def ptr (cs : List Ch) (b : Sh) (f : Int) : List Int := (rowAt cs (b.ff + f)).drop 3
def metL (cs : List Ch) (b : Sh) (f : Int) : List Int := ((ptr cs b f).zip LV).flatMap fun pl => mb cs b pl.2 pl.1
theorem metL_in {cs : List Ch} {b : Sh} {f x : Int} (h : x ∈ metL cs b f) : 0 ≤ x ∧ x < b.b := by
  obtain ⟨y, _, hy⟩ := List.mem_flatMap.mp h
  exact mb_in _ _ _ hy
theorem HW.frow {cs : List Ch} {b : Sh} (hw : HW cs b.pl) (hb : 1 ≤ b.b) {f : Int} (h0 : 0 ≤ f) (h1 : f < b.f) : (rowAt cs (b.ff + f)).length = 8 := by
  obtain ⟨l, e, hl⟩ := hw.at' (b.ff + f) (by have := b.bd; omega) (by have := b.bd; omega)
  unfold rowAt
  rw [e]
  exact hl
theorem HW.ptr {cs : List Ch} {b : Sh} (hw : HW cs b.pl) (hb : 1 ≤ b.b) {f : Int} (h0 : 0 ≤ f) (h1 : f < b.f) : (ptr cs b f).length = 5 := by
  unfold Pf.ptr
  rw [List.length_drop, hw.frow hb h0 h1]
theorem lv_two {j l : Nat} (h : LV[j]? = some l) : l ≤ 2 := by
  match j, h with
  | 0, h => cases h; decide
  | 1, h => cases h; decide
  | 2, h => cases h; decide
  | 3, h => cases h; decide
  | 4, h => cases h; decide
  | j + 5, h => cases h
theorem scPa : FnScope ["home", "shape", "file"] ["home", "shape", "file"] (defScope sPa) := ⟨rfl, rfl, rfl, by decide +kernel, rfl, by decide +kernel, by decide +kernel⟩
theorem scMet : FnScope ["home", "shape", "file", "blocks", "pointer", "level"] ["home", "shape", "file"] (defScope sMet) := ⟨rfl, rfl, rfl, by decide +kernel, rfl, by decide +kernel, by decide +kernel⟩
section
variable {P : Program} {w : World} {K : PySem.W.Frag} {mg : Str → Option Value} {base : Heap} {C : Addr}
def spPa (K : PySem.W.Frag) (C : Addr) : Sp := fun vs H Q _ => ∃ (h sa : Addr) (f : Int) (b : Sh) (cs : List Ch), vs = [.ref h, .ref sa, .int f] ∧ 0 ≤ f ∧ f < b.f ∧ 1 ≤ b.b ∧ ShAt C H sa b ∧ HoAt K H h cs b.pl ∧
  ∀ H' r (ts : List Addr), Same H H' → H r = none → H' r = some (.lst (ts.map V.ref)) → ts.length = 5 → (∀ (j : Nat) (t : Addr), ts[j]? = some t → ∃ (x : Int) (l : Nat), (ptr cs b f)[j]? = some x ∧ LV[j]? = some l ∧ H' t = some (.tup [.int x, .int ((l : Nat) : Int)])) → Q (.ref r) H'
theorem ok_pa {f fP aL : Addr} {fd dP : FuncData} (F : Fun K "pointers_at" "pointers_at" sPa f fd) (T : ShTxt K C) (MP : Me P w K mg base 1 C "file_plate" ["self", "file"] (spFp C) fP dP) {t3 : Tok} (m3 : mg "FIRST_POINTER" = some (.int 3 t3)) (gL : mg "LEVELS" = some (.ref aL)) (hL : ∀ H, SqT K H aL (LV.map fun l => V.int ((l : Nat) : Int)))
    (ml : mg "list" = none) (mz : mg "zip" = none) : FnOk P w K mg base CX0 2 f fd ["home", "shape", "file"] (spPa K C) := by
  refine F.ok scPa (fun vs H Q E h => ?_) (fun cdv A outer s H vs Q E hr h => ?_)
  · obtain ⟨h, sa, f, b, cs, rfl, _⟩ := h
    rfl
  · obtain ⟨h, sa, f, b, cs, rfl, h0, h1, hb, S, A, k⟩ := h
    refine ⟨_, pss_one (ps_ret (LZ.pe_listZip rfl (by rfl) ml boot_list (by rfl) mz (pa_cons (pe_slice sl_tupA (pe_dget (hu_of hr) (pv 0) (pe_meth (pv 1) T.cl MP.m MP.G hr MP.b .nil pass0 (pa_cons (pv 2) pa_nil)) (fun _ _ => rfl)) (po_some (pe_glob (v := .int 3) rfl m3 ⟨_, rfl⟩)) po_none) (pa_cons (pe_glob (v := .ref aL) rfl gL rfl) pa_nil)))), ?_⟩
    obtain ⟨dx, es⟩ := id S
    obtain ⟨kvs, ra, e1, e2, e3, e4⟩ := A.get (p := b.ff + f) (by have := b.bd; omega) (by have := b.bd; omega)
    refine ⟨_, rfl, _, rfl, sa, dx, _, rfl, es, zip_no (by decide +kernel), _, rfl, sa, b, f, rfl, S, h, .ref ra, rfl, (by rw [← e2]; exact DGet.k (k := Sum.inl (b.ff + f)) e1), 3, rfl, ?_⟩
    dsimp only [tNoPart]
    refine slA_use (K := K) (a := ra) (lo := some 3) (hi := none) e3 fun p H1 s1 hp => ?_
    have ec : cutV ((rowAt cs (b.ff + f)).map V.int) (some (3 : Int)) none = (ptr cs b f).map V.int := by
      rw [show (3 : Int) = ((3 : Nat) : Int) from rfl, cut_from, ← List.map_drop]
      rfl
    rw [ec] at hp
    have hl5 := A.2.ptr hb h0 h1
    refine ⟨p, aL, _, _, rfl, hp, hL _, ?_, ?_, fun H' r ts s2 n1 n2 n3 ln el ep => k H' r ts (s1.trans s2) (s1.free n1) el ?_ fun j t hj => ?_⟩
    · rw [List.length_map, List.length_map]
      exact hl5
    · rw [List.length_map]
      omega
    · rw [ln, List.length_map]
      exact hl5
    · obtain ⟨x, y, e5, e6, e7⟩ := ep j t hj
      rw [List.getElem?_map] at e5 e6
      have e5' : ((ptr cs b f)[j]?).map V.int = some x := e5
      cases ex : (ptr cs b f)[j]? with
      | none => rw [ex] at e5'; cases e5'
      | some x' =>
      cases ey : LV[j]? with
      | none => rw [ey] at e6; cases e6
      | some y' =>
      rw [ex] at e5'
      rw [ey] at e6
      cases e5'
      cases e6
      exact ⟨x', y', rfl, rfl, e7⟩
def spMbA (K : PySem.W.Frag) (C : Addr) : Sp := fun vs H Q E => ∃ l : Nat, l ≤ 2 ∧ spMb K C (l + 1) vs H Q E
theorem ok_mbA {fM : Addr} {dM : FuncData} (GM : ∀ l : Nat, FnOk P w K mg base CX0 (l + 1) fM dM ["home", "shape", "pointer", "level"] (spMb K C l)) : FnOk P w K mg base CX0 4 fM dM ["home", "shape", "pointer", "level"] (spMbA K C) :=
  ⟨fun vs H Q E ⟨l, _, h⟩ => (GM (l + 1)).len vs H Q E h, fun A outer s H args us vs Q E hr he hb hv ⟨l, hl, h⟩ => (GM (l + 1)).run A outer s H args us vs Q E (hr.mono (by omega)) he hb hv h⟩
def spMet (K : PySem.W.Frag) (C : Addr) : Sp := fun vs H Q _ => ∃ (h sa : Addr) (f : Int) (b : Sh) (cs : List Ch), vs = [.ref h, .ref sa, .int f] ∧ 0 ≤ f ∧ f < b.f ∧ 1 ≤ b.b ∧ ShAt C H sa b ∧ HoAt K H h cs b.pl ∧
  ∀ H' r, Same H H' → H r = none → H' r = some (.lst ((metL cs b f).map V.int)) → Q (.ref r) H'
theorem ok_met {f fP fM : Addr} {fd dP dM : FuncData} (F : Fun K "met" "met" sMet f fd)
    (DP : Df P w K mg base CX0 2 "pointers_at" ["home", "shape", "file"] (spPa K C) fP dP)
    (DM : Df P w K mg base CX0 4 "met_below" ["home", "shape", "pointer", "level"] (spMbA K C) fM dM) : FnOk P w K mg base CX0 5 f fd ["home", "shape", "file"] (spMet K C) := by
  refine F.ok scMet (fun vs H Q E h => ?_) (fun cdv A outer s H vs Q E hr h => ?_)
  · obtain ⟨h, sa, f, b, cs, rfl, _⟩ := h
    rfl
  · obtain ⟨h, sa, f, b, cs, rfl, h0, h1, hb, S, A, k⟩ := h
    have nd := scMet.nd
    refine ⟨_, pss_cons (ps_set (i := 3) nd rfl (.inl rfl) (pe_lst pa_nil))
      (pss_cons (ps_for PassesOwn.never rfl (pi_list (pe_call DP.G (hr.mono (by decide)) rfl DP.g DP.kp DP.b .nil pass0 (pa_cons (pv 0) (pa_cons (pv 1) (pa_cons (pv 2) pa_nil)))))
        (pg_tup rfl (pgs_cons (pg_name (i := 4) nd rfl (.inl rfl)) (pgs_cons (pg_name (i := 5) nd rfl (.inl rfl)) pgs_nil)))
        (pss_one (ps_expr (pe_bm PySem.F.plainAttrs_list PySem.F.slot_list_extend PySem.F.type_list_extend mt_extend (pv 3) (pa_cons (pe_call DM.G hr rfl DM.g DM.kp DM.b .nil pass0 (pa_cons (pv 0) (pa_cons (pv 1) (pa_cons (pv 4) (pa_cons (pv 5) pa_nil))))) pa_nil)))))
      (pss_one (ps_ret (pv 3)))), ?_⟩
    refine ⟨Nat.zero_le _, fun r hr' => ?_⟩
    have s1 := same_upd (o := .lst []) hr'
    refine ⟨_, rfl, _, rfl, _, rfl, h, sa, f, b, cs, rfl, h0, h1, hb, S.same s1, A.same s1, fun H1 L ts s2 n1 el ln ep => ?_⟩
    have hl5 := A.2.ptr hb h0 h1
    have e1r : H1 r = some (.lst []) := s2 _ _ upd_same
    have nLr : L ≠ r := fun z => by rw [z, upd_same] at n1; cases n1
    refine ⟨L, rfl, ⟨_, SqL.of el⟩, for_list (K := K) (a := L) (xs := ts.map V.ref) (fun i σ H' => ∃ y4 y5, σ = [some (.ref h), some (.ref sa), some (.int f), some (.ref r), y4, y5] ∧ Same H H' ∧ Fr [r] H1 H' ∧ H' r = some (.lst (((((ptr cs b f).zip LV).take i).flatMap fun pl => mb cs b pl.2 pl.1).map V.int)))
      ⟨none, none, rfl, s1.trans s2, .of (Same.refl _), e1r⟩ (fun i σ H' _ z => by obtain ⟨_, _, _, _, z, _⟩ := z; exact SqL.of (z.at el (by simp [nLr]))) ?_ ?_⟩
    · rintro i x σ H' hi ⟨y4, y5, rfl, s3, f3, er⟩
      rw [List.getElem?_map] at hi
      cases et : ts[i]? with
      | none => rw [et] at hi; cases hi
      | some t =>
      rw [et] at hi
      cases hi
      obtain ⟨x, l, e5, e6, e7⟩ := ep i t et
      have hl2 := lv_two e6
      have ez : ((ptr cs b f).zip LV)[i]? = some (x, l) := List.getElem?_zip_eq_some.mpr ⟨e5, e6⟩
      refine ⟨t, _, rfl, SqT.of (f3.tup e7), rfl, _, _, rfl, _, _, rfl, rfl, ?_⟩
      refine ⟨_, rfl, .inl ⟨rfl, _, SqL.of er⟩, _, rfl, _, rfl, _, rfl, _, rfl, l, hl2, h, sa, x, b, cs, rfl, hl2, S.same s3, A.same s3, fun H2 r2 s4 n2 e8 => ⟨r, r2, _, _, rfl, rfl, s4 _ _ er, e8, ?_, ?_⟩⟩
      · have g1 := flat_len (fun pl : Int × Nat => mb cs b pl.2 pl.1) 73 (((ptr cs b f).zip LV).take i) (fun y hy => by
          obtain ⟨j, hj⟩ := List.mem_iff_getElem?.mp (List.mem_of_mem_take hy)
          exact mb_small A.2 (lv_two (List.getElem?_zip_eq_some.mp hj).2) _)
        have g2 := mb_small A.2 hl2 x
        have g3 : (((ptr cs b f).zip LV).take i).length ≤ 5 := by rw [List.length_take, List.length_zip, hl5]; show min i (min 5 5) ≤ 5; omega
        have g4 := Nat.mul_le_mul_right 73 g3
        rw [List.length_map, List.length_map]
        exact Nat.le_of_lt (small1000 (by omega))
      · refine ⟨_, _, rfl, fun b' o e => ?_, (f3.trans (.of s4)).trans (.put (by simp) fun u z => by rw [s4 _ _ er] at z; cases z; rfl), ?_⟩
        · rw [upd_ne (ne_of_none e hr')]
          exact s4 _ _ (s3 _ _ e)
        · rw [upd_same, List.take_add_one, ez, List.flatMap_append, ← List.map_append]
          simp
    · rintro σ H' ⟨y4, y5, rfl, s3, f3, er⟩
      have e5 : ((ptr cs b f).zip LV).take (ts.map V.ref).length = (ptr cs b f).zip LV := List.take_of_length_le (by rw [List.length_map, ln, List.length_zip, hl5]; show min 5 5 ≤ 5; decide)
      rw [e5] at er
      exact ⟨_, rfl, k _ r s3 hr' er⟩
theorem rep_zero (n : Nat) : (List.replicate n [V.int 0]).flatten = (List.replicate n (0 : Int)).map V.int := by
  induction n with
  | zero => rfl
  | succ n ih => rw [List.replicate_succ, List.flatten_cons, ih, List.replicate_succ, List.map_cons]; rfl
end
end Pf

set_option Elab.async false
set_option linter.all false
set_option maxRecDepth 100000
set_option maxHeartbeats 4000000
namespace Pf
open PySem PySem.Spec PyProof.Rows L2
abbrev Wy := List Nat
def atW (cs : List Ch) (b : Sh) (f : Int) : Wy → Option Int
  | [] => none
  | s :: [] => blk b.b ((rowAt cs (b.ff + f)).getD s 0)
  | s :: t :: v => match atW cs b f (t :: v) with
    | none => none
    | some r => blk b.b ((rowAt cs (b.fb + r)).getD s 0)
theorem at_in {cs : List Ch} {b : Sh} {f r : Int} : ∀ {w : Wy}, atW cs b f w = some r → 0 ≤ r ∧ r < b.b
  | [], h => by cases h
  | s :: [], h => ⟨(blk_in h).1, (blk_in h).2.1⟩
  | s :: t :: v, h => by
    have h' : (match atW cs b f (t :: v) with
      | none => none
      | some r => blk b.b ((rowAt cs (b.fb + r)).getD s 0)) = some r := h
    split at h'
    · cases h'
    · exact ⟨(blk_in h').1, (blk_in h').2.1⟩
def rsp (k : Nat) : Wy := if k < 3 then [3 + k] else if k < 11 then [k - 3, 6] else [(k - 11) % 8, (k - 11) / 8, 7]
def part (cs : List Ch) (b : Sh) (f : Int) (k : Nat) : List Int := match atW cs b f (rsp k) with
  | none => List.replicate 8 0
  | some r => rowAt cs (b.fb + r)
end Pf

set_option Elab.async false
set_option linter.all false
set_option maxRecDepth 100000
set_option maxHeartbeats 4000000
namespace Pf
open PySem PySem.Spec PyProof.Rows L2
/-! ### xs.extend(t), t a tuple -/
theorem extend_tup (l b : Addr) (xs : Array Value) (n : Nat) (ys : Array Value) (m : Nat) (dd : Option Addr) (sl : Array (Option Value)) (short : ¬(!xs.isEmpty && Builtin.List.listTooLong (xs.size + ys.size)) = true) (h1 : xs.size ≤ sizeLine) (h2 : xs.size + ys.size ≤ sizeLine + 1) :
    Meets (Builtin.«list.extend» ⟨[.ref l, .ref b], []⟩) (fun _ R s => s.heap.get? l = some { cls := .type "list", dict := none, data := .seq xs n, slots := #[] } ∧ s.heap.get? b = some { cls := .type "tuple", dict := dd, data := .seq ys m, slots := sl } ∧
      R (.ok (.ret Value.none)) { s with heap := s.heap.update l (Obj.mapSeq fun x => x ++ ys), toks := s.toks }) :=
  .of_wp fun prog w A R s h => by
    obtain ⟨hp, g, d, tk, os⟩ := s
    obtain ⟨el, eb, h⟩ := h
    have c1 := AutoSeq1.idx_int; have c2 := AutoSeq1.sub_tuple_tuple; have c3 := AutoSeq1.sub_list_list; have c4 := AutoSeq1.sub_tuple_list; have c5 := AutoSeq1.sub_list_tuple
    have z : (xs ++ ys).size ≤ sizeLine + 1 := by rw [Array.size_append]; exact h2
    wp_walk using (wpAny_updateSeq el rfl (hz := h1) (_hz' := z)), wpAny_loadPart' el, wpAny_loadPart' eb
    exact ⟨_, rfl, h⟩
def rExtT (K : PySem.W.Frag) : V → List V → Hp → VK → Prop := fun x vs H Q => ∃ l b xs zs, x = .ref l ∧ vs = [.ref b] ∧ H l = some (.lst xs) ∧ SqT K H b zs ∧ xs.length + zs.length ≤ sizeLine ∧ Q .non (upd H l (.lst (xs ++ zs)))
theorem mt_extT {X : Cx} : MtM X "list.extend" (rExtT X.K) := by
  intro pins s σ H x vs v us Q I rx rv h
  obtain ⟨l, b, xs, zs, rfl, rfl, hH, hT, hz, q⟩ := h
  cases rx
  obtain ⟨u, rfl, ru⟩ := rv.one
  cases ru
  obtain ⟨z, its, n, r, hl, e⟩ := I.lstM hH
  obtain ⟨its2, r2, ⟨⟨cls, dd, data, sl⟩, ho, hc, n2, hd⟩, hs⟩ := I.tuple hT
  simp only at hc hd
  subst hc hd
  have l2 := r2.length
  have fits : its.toArray.size + its2.toArray.size ≤ sizeLine := by rw [List.size_toArray, List.size_toArray]; omega
  have short : ¬ (!its.toArray.isEmpty && Builtin.List.listTooLong (its.toArray.size + its2.toArray.size)) = true := by
    rw [notLongL fits, Bool.and_false]; exact Bool.false_ne_true
  refine call_meets F.slot_list_extend ⟨_, e, rfl⟩ F.entry_list_extend (F.args_list_extend_2 _ _)
    (extend_tup l b its.toArray n its2.toArray n2 dd sl short (by rw [List.size_toArray]; omega) (by omega)) ⟨e, ?_, ?_⟩
  · exact ho
  · refine ⟨.non, _, I.lset (its' := its ++ its2) hH e (by simp) (r.append r2) (by rw [List.length_append]; omega), rfl, q⟩
end Pf

set_option Elab.async false
set_option linter.all false
set_option maxRecDepth 100000
set_option maxHeartbeats 4000000
namespace Pf
open PySem PySem.Spec PyProof.Rows L2
/-! ### what a file holds -/
structure KC (mg : Str → Option Value) : Prop where
  W : ∃ t, mg "WIDTH" = some (.int 8 t)
  MS : ∃ t, mg "MOST_SIZE" = some (.int 600 t)
  SP : ∃ t, mg "SIZE_PLACE" = some (.int 0 t)
  FP : ∃ t, mg "FIRST_POINTER" = some (.int 3 t)
  B1 : ∃ t, mg "FIRST_BY_ONE" = some (.int 3 t)
  B2 : ∃ t, mg "FIRST_BY_TWO" = some (.int 11 t)
  MB : ∃ t, mg "MOST_BLOCKS" = some (.int 75 t)
def cellN (cs : List Ch) (p : Int) (s : Nat) : Int := (rowAt cs p).getD s 0
def sizeN (cs : List Ch) (b : Sh) (f : Int) : Int := if (if cellN cs (b.ff + f) 0 < 600 then cellN cs (b.ff + f) 0 else 600) > 0 then (if cellN cs (b.ff + f) 0 < 600 then cellN cs (b.ff + f) 0 else 600) else 0
theorem sizeN_in (cs : List Ch) (b : Sh) (f : Int) : 0 ≤ sizeN cs b f ∧ sizeN cs b f ≤ 600 := by
  unfold sizeN
  split <;> split <;> omega
def spI (k : Int) : List Int := if k < 3 then [3 + k] else if k < 11 then [3 + 3, k - 3] else [3 + 4, (k - 11) / 8, (k - 11) % 8]
theorem spI_rsp : ∀ k : Nat, k < 75 → spI (k : Int) = (rsp k).reverse.map (fun n : Nat => (n : Int)) ∧ (∀ n ∈ rsp k, n < 8) ∧ (rsp k).length ≤ 3 := by
  have h : ((List.range 75).all fun k => decide (spI (k : Int) = (rsp k).reverse.map (fun n : Nat => (n : Int)) ∧ (∀ n ∈ rsp k, n < 8) ∧ (rsp k).length ≤ 3)) = true := by decide +kernel
  intro k hk
  exact of_decide_eq_true (List.all_eq_true.mp h k (List.mem_range.mpr hk))
/-- the cell that tells the next block of a way -/
def plW (cs : List Ch) (b : Sh) (f : Int) (w : Wy) : Int := match w with
  | [] => b.ff + f
  | s :: v => b.fb + (atW cs b f (s :: v)).getD 0
theorem at_next {cs : List Ch} {b : Sh} {f : Int} {w : Wy} (h : w = [] ∨ ∃ r, atW cs b f w = some r) (s : Nat) : atW cs b f (s :: w) = blk b.b (cellN cs (plW cs b f w) s) := by
  cases w with
  | nil => rfl
  | cons t v =>
    rcases h with h | ⟨r, h⟩
    · cases h
    · show (match atW cs b f (t :: v) with
        | none => none
        | some r => blk b.b ((rowAt cs (b.fb + r)).getD s 0)) = blk b.b (cellN cs (b.fb + (atW cs b f (t :: v)).getD 0) s)
      rw [h]
      rfl
theorem at_nil {cs : List Ch} {b : Sh} {f : Int} {w : Wy} (hw : w ≠ []) (h : atW cs b f w = none) : ∀ u : Wy, atW cs b f (u ++ w) = none
  | [] => h
  | s :: u => by
    have ih := at_nil hw h u
    cases e : u ++ w with
    | nil => exact absurd (List.append_eq_nil_iff.mp e).2 hw
    | cons t v =>
      show atW cs b f (s :: (u ++ w)) = none
      rw [e] at ih ⊢
      show (match atW cs b f (t :: v) with
        | none => none
        | some r => blk b.b ((rowAt cs (b.fb + r)).getD s 0)) = none
      rw [ih]
theorem plW_in {cs : List Ch} {b : Sh} {f : Int} {w : Wy} (hb : 1 ≤ b.b) (h0 : 0 ≤ f) (h1 : f < b.f) (h : w = [] ∨ ∃ r, atW cs b f w = some r) : 0 ≤ plW cs b f w ∧ plW cs b f w < b.pl := by
  cases w with
  | nil => show 0 ≤ b.ff + f ∧ b.ff + f < b.pl; have := b.bd; omega
  | cons t v =>
    rcases h with h | ⟨r, h⟩
    · cases h
    · have := at_in h
      show 0 ≤ b.fb + (atW cs b f (t :: v)).getD 0 ∧ b.fb + (atW cs b f (t :: v)).getD 0 < b.pl
      rw [h]
      show 0 ≤ b.fb + r ∧ b.fb + r < b.pl
      have := b.bd
      omega
theorem part_len {cs : List Ch} {b : Sh} (hw : HW cs b.pl) (f : Int) (k : Nat) : (part cs b f k).length = 8 := by
  unfold part
  cases e : atW cs b f (rsp k) with
  | none => rfl
  | some r => exact hw.row (at_in e).1 (at_in e).2
theorem scFc : FnScope ["home", "shape", "file", "place"] ["home", "shape", "file", "place"] (defScope sFc) := ⟨rfl, rfl, rfl, by decide +kernel, rfl, by decide +kernel, by decide +kernel⟩
theorem scSz : FnScope ["home", "shape", "file"] ["home", "shape", "file"] (defScope sSz) := ⟨rfl, rfl, rfl, by decide +kernel, rfl, by decide +kernel, by decide +kernel⟩
theorem scSpot : FnScope ["number", "behind"] ["number"] (defScope sSpot) := ⟨rfl, rfl, rfl, by decide +kernel, rfl, by decide +kernel, by decide +kernel⟩
theorem scDb : FnScope ["home", "shape", "file", "number", "block", "plate", "place"] ["home", "shape", "file", "number"] (defScope sDb) := ⟨rfl, rfl, rfl, by decide +kernel, rfl, by decide +kernel, by decide +kernel⟩
theorem scPart : FnScope ["home", "shape", "file", "number", "block"] ["home", "shape", "file", "number"] (defScope sPart) := ⟨rfl, rfl, rfl, by decide +kernel, rfl, by decide +kernel, by decide +kernel⟩
theorem scNums : FnScope ["home", "shape", "file", "start", "end", "first", "numbers", "part", "ahead"] ["home", "shape", "file", "start", "end"] (defScope sNums) := ⟨rfl, rfl, rfl, by decide +kernel, rfl, by decide +kernel, by decide +kernel⟩
theorem scCont : FnScope ["home", "shape", "file"] ["home", "shape", "file"] (defScope sCont) := ⟨rfl, rfl, rfl, by decide +kernel, rfl, by decide +kernel, by decide +kernel⟩
theorem row_at {l : List Int} {s : Nat} (h : s < l.length) : atI (l.map V.int) (s : Int) = some (.int (l.getD s 0)) := by
  refine atI_nat ?_
  rw [List.getElem?_map, List.getElem?_eq_getElem h, List.getD_eq_getElem?_getD, List.getElem?_eq_getElem h]
  rfl
section
variable {P : Program} {w : World} {K : PySem.W.Frag} {mg : Str → Option Value} {base : Heap} {C CD : Addr}
def spFc (K : PySem.W.Frag) (C : Addr) : Sp := fun vs H Q _ => ∃ (h sa : Addr) (f : Int) (b : Sh) (s : Nat) (cs : List Ch), vs = [.ref h, .ref sa, .int f, .int (s : Int)] ∧ 0 ≤ f ∧ f < b.f ∧ s < 8 ∧ 1 ≤ b.b ∧ ShAt C H sa b ∧ HoAt K H h cs b.pl ∧ Q (.int (cellN cs (b.ff + f) s)) H
theorem ok_fc {f fP : Addr} {fd dP : FuncData} (F : Fun K "file_cell" "file_cell" sFc f fd) (T : ShTxt K C) (MP : Me P w K mg base 1 C "file_plate" ["self", "file"] (spFp C) fP dP) : FnOk P w K mg base CX0 2 f fd ["home", "shape", "file", "place"] (spFc K C) := by
  refine F.ok scFc (fun vs H Q E h => ?_) (fun cdv A outer s H vs Q E hr h => ?_)
  · obtain ⟨h, sa, f, b, s, cs, rfl, _⟩ := h
    rfl
  · obtain ⟨h, sa, f, b, s, cs, rfl, h0, h1, hs, hb, S, A, q⟩ := h
    refine ⟨_, pss_one (ps_ret (pe_ix ix_tup (pe_dget (hu_of hr) (pv 0) (pe_meth (pv 1) T.cl MP.m MP.G hr MP.b .nil pass0 (pa_cons (pv 2) pa_nil)) (fun _ _ => rfl)) (pv 3) (fun _ _ => rfl))), ?_⟩
    obtain ⟨dx, es⟩ := id S
    obtain ⟨kvs, ra, e1, e2, e3, e4⟩ := A.get (p := b.ff + f) (by have := b.bd; omega) (by have := b.bd; omega)
    exact ⟨_, rfl, _, rfl, sa, dx, _, rfl, es, zip_no (by decide +kernel), _, rfl, sa, b, f, rfl, S, h, .ref ra, rfl, (by rw [← e2]; exact DGet.k (k := Sum.inl (b.ff + f)) e1), _, rfl, ra, _, _, _, rfl, rfl, e3, row_at (by omega), q⟩
def spSz (K : PySem.W.Frag) (C : Addr) : Sp := fun vs H Q _ => ∃ (h sa : Addr) (f : Int) (b : Sh) (cs : List Ch), vs = [.ref h, .ref sa, .int f] ∧ 0 ≤ f ∧ f < b.f ∧ 1 ≤ b.b ∧ ShAt C H sa b ∧ HoAt K H h cs b.pl ∧ Q (.int (sizeN cs b f)) H
theorem ok_sz {f fF : Addr} {fd dF : FuncData} (F : Fun K "size_at" "size_at" sSz f fd) (DF : Df P w K mg base CX0 2 "file_cell" ["home", "shape", "file", "place"] (spFc K C) fF dF) (kc : KC mg) (mx : mg "max" = none) (mn : mg "min" = none) : FnOk P w K mg base CX0 3 f fd ["home", "shape", "file"] (spSz K C) := by
  refine F.ok scSz (fun vs H Q E h => ?_) (fun cdv A outer s H vs Q E hr h => ?_)
  · obtain ⟨h, sa, f, b, cs, rfl, _⟩ := h
    rfl
  · obtain ⟨h, sa, f, b, cs, rfl, h0, h1, hb, S, A, q⟩ := h
    obtain ⟨t1, m1⟩ := kc.MS
    obtain ⟨t2, m2⟩ := kc.SP
    refine ⟨_, pss_one (ps_ret (pe_callB (call_max2 rfl) (by rfl) mx (by decide +kernel) (pa_cons pe_int (pa_cons (pe_callB (call_min2 rfl) (by rfl) mn (by decide +kernel) (pa_cons (pe_glob (v := .int 600) rfl m1 ⟨_, rfl⟩) (pa_cons (pe_call DF.G hr rfl DF.g DF.kp DF.b .nil pass0 (pa_cons (pv 0) (pa_cons (pv 1) (pa_cons (pv 2) (pa_cons (pe_glob (v := .int 0) rfl m2 ⟨_, rfl⟩) pa_nil))))) pa_nil))) pa_nil)))), ?_⟩
    exact ⟨_, rfl, _, rfl, _, rfl, h, sa, f, b, 0, cs, rfl, h0, h1, by decide, hb, S, A, _, _, rfl, _, _, rfl, q⟩
def spSpot : Sp := fun vs H Q _ => ∃ k : Nat, vs = [.int (k : Int)] ∧ k < 75 ∧ ∀ H' t, Same H H' → H t = none → H' t = some (.tup ((spI (k : Int)).map V.int)) → Q (.ref t) H'
theorem ok_spot {f : Addr} {fd : FuncData} (F : Fun K "spot_of" "spot_of" sSpot f fd) (kc : KC mg) : FnOk P w K mg base CX0 1 f fd ["number"] spSpot := by
  refine F.ok scSpot (fun vs H Q E h => ?_) (fun cdv A outer s H vs Q E hr h => ?_)
  · obtain ⟨k, rfl, _⟩ := h
    rfl
  · obtain ⟨k, rfl, hk, q⟩ := h
    have nd := scSpot.nd
    obtain ⟨t1, m1⟩ := kc.FP
    obtain ⟨t2, m2⟩ := kc.B1
    obtain ⟨t3, m3⟩ := kc.B2
    obtain ⟨t4, m4⟩ := kc.W
    refine ⟨_, pss_cons (ps_if (pt_cmpR op_lt (pv 0) (pe_glob (v := .int 3) rfl m2 ⟨_, rfl⟩) (nomark _)) (pss_one (ps_ret (pe_tup (pa_cons (pe_op op_add (pe_glob (v := .int 3) rfl m1 ⟨_, rfl⟩) (pv 0)) pa_nil)))) pss_nil)
      (pss_cons (ps_if (pt_cmpR op_lt (pv 0) (pe_glob (v := .int 11) rfl m3 ⟨_, rfl⟩) (nomark _)) (pss_one (ps_ret (pe_tup (pa_cons (pe_op op_add (pe_glob (v := .int 3) rfl m1 ⟨_, rfl⟩) pe_int) (pa_cons (pe_op op_sub (pv 0) (pe_glob (v := .int 3) rfl m2 ⟨_, rfl⟩)) pa_nil))))) pss_nil)
      (pss_cons (ps_set (i := 1) nd rfl (.inl rfl) (pe_op op_sub (pv 0) (pe_glob (v := .int 11) rfl m3 ⟨_, rfl⟩)))
      (pss_one (ps_ret (pe_tup (pa_cons (pe_op op_add (pe_glob (v := .int 3) rfl m1 ⟨_, rfl⟩) pe_int) (pa_cons (pe_op op_fdiv (pv 1) (pe_glob (v := .int 8) rfl m4 ⟨_, rfl⟩)) (pa_cons (pe_op op_mod (pv 1) (pe_glob (v := .int 8) rfl m4 ⟨_, rfl⟩)) pa_nil)))))))), ?_⟩
    refine ⟨_, rfl, _, _, rfl, rfl, _, rfl, ite2 (fun c => ?_) (fun c => ?_)⟩
    · have c' : (k : Int) < 3 := of_decide_eq_true c
      have e : spI (k : Int) = [3 + (k : Int)] := if_pos c'
      rw [e] at q
      exact ⟨_, rfl, _, _, rfl, rfl, (by show 1 ≤ sizeLine; decide), fun t ht => q _ t (same_upd ht) ht upd_same⟩
    · have c' : ¬ (k : Int) < 3 := fun z => c (decide_eq_true z)
      refine ⟨_, rfl, _, _, rfl, rfl, _, rfl, ite2 (fun d => ?_) (fun d => ?_)⟩
      · have d' : (k : Int) < 11 := of_decide_eq_true d
        have e : spI (k : Int) = [3 + 3, (k : Int) - 3] := by unfold spI; rw [if_neg c', if_pos d']
        rw [e] at q
        exact ⟨_, _, rfl, rfl, _, rfl, _, _, rfl, rfl, (by show 2 ≤ sizeLine; decide), fun t ht => q _ t (same_upd ht) ht upd_same⟩
      · have d' : ¬ (k : Int) < 11 := fun z => d (decide_eq_true z)
        have e : spI (k : Int) = [3 + 4, ((k : Int) - 11) / 8, ((k : Int) - 11) % 8] := by unfold spI; rw [if_neg c', if_neg d']
        rw [e] at q
        exact ⟨_, rfl, _, _, rfl, rfl, _, _, rfl, rfl, _, rfl, _, _, rfl, rfl, ⟨by decide, by decide⟩, _, rfl, _, _, rfl, rfl, (by show (0 : Int) < 8; decide), (by show 3 ≤ sizeLine; decide), fun t ht => q _ t (same_upd ht) ht upd_same⟩
end
end Pf

set_option Elab.async false
set_option linter.all false
set_option maxRecDepth 100000
set_option maxHeartbeats 4000000
namespace Pf
open PySem PySem.Spec PyProof.Rows L2
theorem blk_plate {cs : List Ch} {b : Sh} {f r : Int} {s : Nat} {v : Wy} (h : atW cs b f (s :: v) = some r) : plW cs b f (s :: v) = b.fb + r := by
  show b.fb + (atW cs b f (s :: v)).getD 0 = _
  rw [h]
  rfl
section
variable {P : Program} {w : World} {K : PySem.W.Frag} {mg : Str → Option Value} {base : Heap} {C CD : Addr}
def spDb (K : PySem.W.Frag) (C : Addr) : Sp := fun vs H Q _ => ∃ (h sa : Addr) (f : Int) (b : Sh) (k : Nat) (cs : List Ch), vs = [.ref h, .ref sa, .int f, .int (k : Int)] ∧ 0 ≤ f ∧ f < b.f ∧ k < 75 ∧ 1 ≤ b.b ∧ ShAt C H sa b ∧ HoAt K H h cs b.pl ∧ ∀ H', Same H H' → Q (optV (atW cs b f (rsp k))) H'
abbrev NBa : List Str := ["home", "shape", "file", "spot", "block", "plate", "place"]
theorem scBa : FnScope NBa ["home", "shape", "file", "spot"] (defScope sBa) := ⟨rfl, rfl, rfl, by decide +kernel, rfl, by decide +kernel, by decide +kernel⟩
theorem scDbk : FnScope ["home", "shape", "file", "number"] ["home", "shape", "file", "number"] (defScope sDb) := ⟨rfl, rfl, rfl, by decide +kernel, rfl, by decide +kernel, by decide +kernel⟩
def spBa (K : PySem.W.Frag) (C : Addr) : Sp := fun vs H Q _ => ∃ (h sa : Addr) (f : Int) (b : Sh) (k : Nat) (cs : List Ch) (t : Addr), vs = [.ref h, .ref sa, .int f, .ref t] ∧ 0 ≤ f ∧ f < b.f ∧ k < 75 ∧ 1 ≤ b.b ∧ ShAt C H sa b ∧ HoAt K H h cs b.pl ∧ SqT K H t ((spI (k : Int)).map V.int) ∧ ∀ H', Same H H' → Q (optV (atW cs b f (rsp k))) H'
theorem ok_ba {f fF fB fP : Addr} {fd dF dB dP : FuncData} (F : Fun K "block_at" "block_at" sBa f fd) (T : ShTxt K C) (MF : Me P w K mg base 1 C "file_plate" ["self", "file"] (spFp C) fF dF) (MP : Me P w K mg base 1 C "block_plate" ["self", "block"] (spBp C) fP dP)
    (DB : Df P w K mg base CX0 1 "block_of" ["shape", "pointer"] (spBo C) fB dB) : FnOk P w K mg base CX0 2 f fd ["home", "shape", "file", "spot"] (spBa K C) := by
  refine F.ok scBa (fun vs H Q E h => ?_) (fun cdv A outer s H vs Q E hr h => ?_)
  · obtain ⟨h, sa, f, b, k, cs, t, rfl, _⟩ := h
    rfl
  · obtain ⟨h, sa, f, b, k, cs, t, rfl, h0, h1, hk, hb, S, A, hT, q⟩ := h
    have nd := scBa.nd
    refine ⟨_, pss_cons (ps_set (i := 4) nd rfl (.inl rfl) pe_non)
      (pss_cons (ps_set (i := 5) nd rfl (.inl rfl) (pe_meth (pv 1) T.cl MF.m MF.G hr MF.b .nil pass0 (pa_cons (pv 2) pa_nil)))
      (pss_cons (ps_for PassesOwn.never rfl (pi_tup (pv 3)) (pg_name (i := 6) nd rfl (.inl rfl))
        (pss_cons (ps_set (i := 4) nd rfl (.inl rfl) (pe_call DB.G hr rfl DB.g DB.kp DB.b .nil pass0 (pa_cons (pv 1) (pa_cons (pe_ix ix_tup (pe_dget (hu_of hr) (pv 0) (pv 5) (fun _ _ => rfl)) (pv 6) (fun _ _ => rfl)) pa_nil))))
        (pss_cons (ps_if (pt_cmpR op_isN (pv 4) pe_non (nomark _)) (pss_one (ps_ret pe_non)) pss_nil)
        (pss_one (ps_set (i := 5) nd rfl (.inl rfl) (pe_meth (pv 1) T.cl MP.m MP.G hr MP.b .nil pass0 (pa_cons (pv 4) pa_nil)))))))
      (pss_one (ps_ret (pv 4))))), ?_⟩
    obtain ⟨dx, es⟩ := id S
    refine ⟨_, rfl, sa, dx, _, rfl, es, zip_no (by decide +kernel), _, rfl, sa, b, f, rfl, S, ?_⟩
    obtain ⟨esp, hlt, _⟩ := spI_rsp k hk
    have espl : (spI (k : Int)).length = (rsp k).length := by rw [esp, List.length_map, List.length_reverse]
    refine ⟨_, rfl, t, rfl, ⟨_, hT⟩, for_tup (K := K) (a := t) (xs := (spI (k : Int)).map V.int) (fun i σ H' => ∃ y6, (((rsp k).reverse.take i).reverse = [] ∨ ∃ r, atW cs b f ((rsp k).reverse.take i).reverse = some r) ∧ σ = [some (.ref h), some (.ref sa), some (.int f), some (.ref t), some (optV (atW cs b f ((rsp k).reverse.take i).reverse)), some (.int (plW cs b f ((rsp k).reverse.take i).reverse)), y6] ∧ Same H H')
      ⟨none, .inl rfl, rfl, Same.refl _⟩ (fun i σ H' _ z => by obtain ⟨_, _, _, z⟩ := z; exact same_seqT z hT) ?_ ?_⟩
    · rintro i x σ H' hi ⟨y6, hor, rfl, s2⟩
      rw [esp, List.map_map, List.getElem?_map] at hi
      cases en : (rsp k).reverse[i]? with
      | none => rw [en] at hi; cases hi
      | some n =>
      rw [en] at hi
      cases hi
      have hn8 : n < 8 := hlt n (List.mem_reverse.mp (List.mem_of_getElem? en))
      have etk : ((rsp k).reverse.take (i + 1)).reverse = n :: ((rsp k).reverse.take i).reverse := by
        rw [List.take_add_one, en, List.reverse_append]
        rfl
      have epre : ∃ u : Wy, rsp k = u ++ ((rsp k).reverse.take (i + 1)).reverse := ⟨((rsp k).reverse.drop (i + 1)).reverse, by rw [← List.reverse_append, List.take_append_drop, List.reverse_reverse]⟩
      generalize ((rsp k).reverse.take i).reverse = wi at hor etk ⊢
      rw [etk] at epre
      obtain ⟨p0, p1⟩ := plW_in hb h0 h1 hor
      have S2 := S.same s2
      have A2 := A.same s2
      obtain ⟨kvs, ra, e1, e2, e3, e4⟩ := A2.get p0 p1
      refine ⟨_, rfl, _, rfl, _, rfl, h, .ref ra, rfl, (by rw [← e2]; exact DGet.k (k := Sum.inl (plW cs b f wi)) e1), _, rfl, ra, _, _, _, rfl, rfl, e3, row_at (by omega), sa, b, _, rfl, S2, _, rfl, ?_⟩
      have ean : atW cs b f (n :: wi) = blk b.b ((rowAt cs (plW cs b f wi)).getD n 0) := at_next hor n
      cases eb : blk b.b ((rowAt cs (plW cs b f wi)).getD n 0) with
      | none =>
        rw [eb] at ean
        obtain ⟨u, eu⟩ := epre
        have : atW cs b f (rsp k) = none := by
          rw [eu]
          exact at_nil (by simp) ean u
        rw [this] at q
        exact ⟨rfl, _, rfl, iteT (q _ s2)⟩
      | some r =>
        rw [eb] at ean
        obtain ⟨dx2, es2⟩ := id S2
        refine ⟨rfl, _, rfl, iteF ⟨_, rfl, sa, dx2, _, rfl, es2, zip_no (by decide +kernel), _, rfl, sa, b, r, rfl, S2, ?_⟩⟩
        rw [etk, blk_plate ean, ean]
        exact ⟨_, .inr ⟨r, rfl⟩, rfl, s2⟩
    · rintro σ H' ⟨y6, hor, rfl, s2⟩
      have ef : ((rsp k).reverse.take ((spI (k : Int)).map V.int).length).reverse = rsp k := by
        rw [List.length_map, espl, List.take_of_length_le (by rw [List.length_reverse]; exact Nat.le_refl _), List.reverse_reverse]
      rw [ef]
      exact ⟨_, rfl, q _ s2⟩
theorem ok_db {f fS fA : Addr} {fd dS dA : FuncData} (F : Fun K "data_block" "data_block" sDb f fd) (kc : KC mg)
    (DS : Df P w K mg base CX0 1 "spot_of" ["number"] spSpot fS dS) (DA : Df P w K mg base CX0 2 "block_at" ["home", "shape", "file", "spot"] (spBa K C) fA dA) : FnOk P w K mg base CX0 3 f fd ["home", "shape", "file", "number"] (spDb K C) := by
  refine F.ok scDbk (fun vs H Q E h => ?_) (fun cdv A outer s H vs Q E hr h => ?_)
  · obtain ⟨h, sa, f, b, k, cs, rfl, _⟩ := h
    rfl
  · obtain ⟨h, sa, f, b, k, cs, rfl, h0, h1, hk, hb, S, A, q⟩ := h
    have hr1 : Room 1 _ := hr.mono (by decide)
    obtain ⟨t1, m1⟩ := kc.MB
    refine ⟨_, pss_cons (ps_if (pt_not (pt_chain op_le op_lt pe_int (pv 3) (pe_glob (v := .int 75) rfl m1 ⟨_, rfl⟩))) (pss_one (ps_ret pe_non)) pss_nil)
      (pss_one (ps_ret (pe_call DA.G hr rfl DA.g DA.kp DA.b .nil pass0 (pa_cons (pv 0) (pa_cons (pv 1) (pa_cons (pv 2) (pa_cons (pe_call DS.G hr1 rfl DS.g DS.kp DS.b .nil pass0 (pa_cons (pv 3) pa_nil)) pa_nil))))))), ?_⟩
    have c1 : decide ((0 : Int) ≤ (k : Int)) = true := decide_eq_true (by omega)
    have c2 : decide ((k : Int) < 75) = true := decide_eq_true (by omega)
    refine ⟨_, rfl, _, _, rfl, rfl, _, rfl, ?_⟩
    rw [c1]
    refine iteT ⟨_, _, rfl, rfl, _, rfl, ?_⟩
    rw [c2]
    refine iteF ⟨_, rfl, _, rfl, _, rfl, _, rfl, k, rfl, hk, fun H1 t s1 nt et => ⟨h, sa, f, b, k, cs, t, rfl, h0, h1, hk, hb, S.same s1, A.same s1, SqT.of et, fun H' s2 => q _ (s1.trans s2)⟩⟩
def spPart (K : PySem.W.Frag) (C : Addr) : Sp := fun vs H Q _ => ∃ (h sa : Addr) (f : Int) (b : Sh) (k : Nat) (cs : List Ch), vs = [.ref h, .ref sa, .int f, .int (k : Int)] ∧ 0 ≤ f ∧ f < b.f ∧ k < 75 ∧ 1 ≤ b.b ∧ ShAt C H sa b ∧ HoAt K H h cs b.pl ∧ ∀ H' t, Same H H' → SqT K H' t ((part cs b f k).map V.int) → Q (.ref t) H'
theorem ok_part {f fD fP : Addr} {fd dD dP : FuncData} (F : Fun K "part_at" "part_at" sPart f fd) (T : ShTxt K C) (kc : KC mg) (MP : Me P w K mg base 1 C "block_plate" ["self", "block"] (spBp C) fP dP)
    (DD : Df P w K mg base CX0 3 "data_block" ["home", "shape", "file", "number"] (spDb K C) fD dD) : FnOk P w K mg base CX0 4 f fd ["home", "shape", "file", "number"] (spPart K C) := by
  refine F.ok scPart (fun vs H Q E h => ?_) (fun cdv A outer s H vs Q E hr h => ?_)
  · obtain ⟨h, sa, f, b, k, cs, rfl, _⟩ := h
    rfl
  · obtain ⟨h, sa, f, b, k, cs, rfl, h0, h1, hk, hb, S, A, q⟩ := h
    have nd := scPart.nd
    obtain ⟨t1, m1⟩ := kc.W
    refine ⟨_, pss_cons (ps_set (i := 4) nd rfl (.inl rfl) (pe_call DD.G hr rfl DD.g DD.kp DD.b .nil pass0 (pa_cons (pv 0) (pa_cons (pv 1) (pa_cons (pv 2) (pa_cons (pv 3) pa_nil))))))
      (pss_one (ps_ret (pe_ifExp (pt_cmpR op_isN (pv 4) pe_non (nomark _)) (pe_op op_repT (pe_tup (pa_cons pe_int pa_nil)) (pe_glob (v := .int 8) rfl m1 ⟨_, rfl⟩)) (pe_dget (hu_of hr) (pv 0) (pe_meth (pv 1) T.cl MP.m MP.G (hr.mono (by decide)) MP.b .nil pass0 (pa_cons (pv 4) pa_nil)) (fun _ _ => rfl))))), ?_⟩
    refine ⟨_, rfl, _, rfl, _, rfl, _, rfl, h, sa, f, b, k, cs, rfl, h0, h1, hk, hb, S, A, fun H1 s1 => ?_⟩
    refine ⟨_, rfl, rfl, _, rfl, ?_⟩
    cases e : atW cs b f (rsp k) with
    | none =>
      have ep : part cs b f k = List.replicate 8 0 := by unfold part; rw [e]
      rw [ep] at q
      refine iteT ⟨(by show 1 ≤ sizeLine; decide), fun u hu => ⟨u, _, _, rfl, rfl, SqT.of upd_same, by simp, (by show (2 : Int) ≤ 8; decide), (by show (8 : Int) ≤ 1000; decide), (by show 1 ≤ 1000; decide), fun p hp => q _ p (s1.trans ((same_upd hu).trans (same_upd hp))) (SqT.of ?_)⟩⟩
      exact upd_same
    | some r =>
      have ep : part cs b f k = rowAt cs (b.fb + r) := by unfold part; rw [e]
      rw [ep] at q
      obtain ⟨r0, r1⟩ := at_in e
      have S1 := S.same s1
      obtain ⟨dx, es⟩ := id S1
      obtain ⟨kvs, ra, e1, e2, e3, e4⟩ := (A.same s1).get (p := b.fb + r) (by have := b.bd; omega) (by have := b.bd; omega)
      exact iteF ⟨_, rfl, _, rfl, sa, dx, _, rfl, es, zip_no (by decide +kernel), _, rfl, sa, b, r, rfl, S1, h, .ref ra, rfl, (by rw [← e2]; exact DGet.k (k := Sum.inl (b.fb + r)) e1), q _ ra s1 e3⟩
end
end Pf

set_option Elab.async false
set_option linter.all false
set_option maxRecDepth 100000
set_option maxHeartbeats 4000000
namespace Pf
open PySem PySem.Spec PyProof.Rows L2
def numsN (cs : List Ch) (b : Sh) (f : Int) (st en : Nat) : List Int := (((List.range ((en + 7) / 8 - st / 8)).flatMap fun i => part cs b f (st / 8 + i)).drop (st - st / 8 * 8)).take (max st en - st)
def cont (cs : List Ch) (b : Sh) (f : Int) : List Int := numsN cs b f 0 (sizeN cs b f).toNat
theorem nums_same {cs cs' : List Ch} {b : Sh} {f : Int} {st en : Nat} (he : en ≤ 600) (h : ∀ k, k < 75 → part cs' b f k = part cs b f k) : numsN cs' b f st en = numsN cs b f st en := by
  have e : ((List.range ((en + 7) / 8 - st / 8)).flatMap fun i => part cs' b f (st / 8 + i)) = ((List.range ((en + 7) / 8 - st / 8)).flatMap fun i => part cs b f (st / 8 + i)) := by
    rw [List.flatMap_def, List.flatMap_def]
    congr 1
    apply List.map_congr_left
    intro i hi
    have := List.mem_range.mp hi
    exact h _ (by omega)
  unfold numsN
  rw [e]
theorem cont_same {cs cs' : List Ch} {b : Sh} {f : Int} (hs : cellN cs' (b.ff + f) 0 = cellN cs (b.ff + f) 0) (h : ∀ k, k < 75 → part cs' b f k = part cs b f k) : cont cs' b f = cont cs b f := by
  have e : sizeN cs' b f = sizeN cs b f := by unfold sizeN; rw [hs]
  have := sizeN_in cs b f
  unfold cont
  rw [e]
  exact nums_same (by omega) h
theorem cut_both (xs : List V) (a c : Nat) : cutV xs (some (a : Int)) (some (c : Int)) = (xs.drop a).take (c - a) := by
  unfold cutV
  rw [HT.sIx_nat, HT.sIx_nat]
  apply List.ext_getElem?
  intro i
  rw [List.getElem?_take, List.getElem?_take, List.getElem?_drop, List.getElem?_drop]
  by_cases h1 : a ≤ xs.length
  · rw [Nat.min_eq_left h1]
    by_cases h2 : c ≤ xs.length
    · rw [Nat.min_eq_left h2]
    · rw [Nat.min_eq_right (by omega)]
      by_cases h3 : i < xs.length - a
      · rw [if_pos h3, if_pos (by omega)]
      · rw [if_neg h3, List.getElem?_eq_none (by omega)]
        split <;> rfl
  · rw [Nat.min_eq_right (by omega : xs.length ≤ a)]
    rw [List.getElem?_eq_none (by omega : xs.length ≤ xs.length + i), List.getElem?_eq_none (by omega : xs.length ≤ a + i)]
    split <;> split <;> rfl
section
variable {P : Program} {w : World} {K : PySem.W.Frag} {mg : Str → Option Value} {base : Heap} {C CD : Addr}
def spNums (K : PySem.W.Frag) (C : Addr) : Sp := fun vs H Q _ => ∃ (h sa : Addr) (f : Int) (b : Sh) (st en : Nat) (cs : List Ch), vs = [.ref h, .ref sa, .int f, .int (st : Int), .int (en : Int)] ∧ 0 ≤ f ∧ f < b.f ∧ st ≤ 600 ∧ en ≤ 600 ∧ 1 ≤ b.b ∧ ShAt C H sa b ∧ HoAt K H h cs b.pl ∧ ∀ H' t, Same H H' → H t = none → H' t = some (.tup ((numsN cs b f st en).map V.int)) → Q (.ref t) H'
theorem ok_nums {f fA fP : Addr} {fd dA dP : FuncData} (F : Fun K "numbers_at" "numbers_at" sNums f fd) (kc : KC mg) (DP : Df P w K mg base CX0 1 "plates_for" ["cells"] spPl fP dP) (DA : Df P w K mg base CX0 4 "part_at" ["home", "shape", "file", "number"] (spPart K C) fA dA)
    (mr : mg "range" = none) (mt : mg "tuple" = none) (mx : mg "max" = none) : FnOk P w K mg base CX0 5 f fd ["home", "shape", "file", "start", "end"] (spNums K C) := by
  refine F.ok scNums (fun vs H Q E h => ?_) (fun cdv A outer s H vs Q E hr h => ?_)
  · obtain ⟨h, sa, f, b, st, en, cs, rfl, _⟩ := h
    rfl
  · obtain ⟨h, sa, f, b, st, en, cs, rfl, h0, h1, hst, hen, hb, S, A, q⟩ := h
    have nd := scNums.nd
    obtain ⟨t1, m1⟩ := kc.W
    refine ⟨_, pss_cons (ps_set (i := 5) nd rfl (.inl rfl) (pe_op op_fdiv (pv 3) (pe_glob (v := .int 8) rfl m1 ⟨_, rfl⟩)))
      (pss_cons (ps_set (i := 6) nd rfl (.inl rfl) (pe_lst pa_nil))
      (pss_cons (ps_for PassesOwn.never rfl (pi_range2 (by rfl) mr (pa_cons (pv 5) (pa_cons (pe_call DP.G (hr.mono (by decide)) rfl DP.g DP.kp DP.b .nil pass0 (pa_cons (pv 4) pa_nil)) pa_nil))) (pg_name (i := 7) nd rfl (.inl rfl))
        (pss_one (ps_expr (pe_bm PySem.F.plainAttrs_list PySem.F.slot_list_extend PySem.F.type_list_extend mt_extT (pv 6) (pa_cons (pe_call DA.G hr rfl DA.g DA.kp DA.b .nil pass0 (pa_cons (pv 0) (pa_cons (pv 1) (pa_cons (pv 2) (pa_cons (pv 7) pa_nil))))) pa_nil)))))
      (pss_cons (ps_set (i := 8) nd rfl (.inl rfl) (pe_op op_mul (pv 5) (pe_glob (v := .int 8) rfl m1 ⟨_, rfl⟩)))
      (pss_one (ps_ret (pe_callTy call_tuple_of (by rfl) mt boot_tuple (pa_cons (pe_slice sl_list (pv 6) (po_some (pe_op op_sub (pv 3) (pv 8))) (po_some (pe_op op_sub (pe_callB (call_max2 rfl) (by rfl) mx (by decide +kernel) (pa_cons (pv 3) (pa_cons (pv 4) pa_nil))) (pv 8)))) pa_nil))))))), ?_⟩
    have ef : (st : Int) / 8 = ((st / 8 : Nat) : Int) := by omega
    have el : ((en : Int) + 8 - 1) / 8 = (((en + 7) / 8 : Nat) : Int) := by omega
    refine ⟨_, rfl, _, _, rfl, rfl, ⟨by decide, by decide⟩, Nat.zero_le _, fun r hr' => ?_⟩
    have s1 := same_upd (o := .lst []) hr'
    refine ⟨_, rfl, _, rfl, (en : Int), rfl, _, _, rfl, (by omega), for_range (lo := (st : Int) / 8) (n := (((en : Int) + 8 - 1) / 8 - (st : Int) / 8).toNat) (fun i σ H' => ∃ y7, σ = [some (.ref h), some (.ref sa), some (.int f), some (.int (st : Int)), some (.int (en : Int)), some (.int ((st : Int) / 8)), some (.ref r), y7, none] ∧ Same H H' ∧
        H' r = some (.lst ((((List.range i).flatMap fun i => part cs b f (st / 8 + i))).map V.int)))
      ⟨none, rfl, s1, upd_same⟩ ?_ ?_⟩
    · rintro i σ H' hi ⟨y7, rfl, s2, er⟩
      have hk : st / 8 + i < 75 := by omega
      refine ⟨_, rfl, .inl ⟨rfl, _, SqL.of er⟩, _, rfl, _, rfl, _, rfl, _, rfl, h, sa, f, b, st / 8 + i, cs, ?_, h0, h1, hk, hb, S.same s2, A.same s2, fun H2 t s3 ht => ⟨r, t, _, _, rfl, rfl, s3 _ _ er, ht, ?_, ?_⟩⟩
      · show [V.ref h, V.ref sa, V.int f, V.int ((st : Int) / 8 + (i : Int))] = _
        rw [show (st : Int) / 8 + (i : Int) = ((st / 8 + i : Nat) : Int) by omega]
      · have g1 := flat_len (fun i => part cs b f (st / 8 + i)) 8 (List.range i) (fun k _ => Nat.le_of_eq (part_len A.2 f _))
        rw [List.length_range] at g1
        rw [List.length_map, List.length_map, part_len A.2]
        exact Nat.le_of_lt (small1000 (by omega))
      · refine ⟨_, rfl, fun b' o e => ?_, ?_⟩
        · rw [upd_ne (ne_of_none e hr')]
          exact s3 _ _ (s2 _ _ e)
        · rw [upd_same, List.range_succ, List.flatMap_append, ← List.map_append]
          simp
    · rintro σ H' ⟨y7, rfl, s2, er⟩
      have en' : (((en : Int) + 8 - 1) / 8 - (st : Int) / 8).toNat = (en + 7) / 8 - st / 8 := by omega
      rw [en'] at er
      refine ⟨_, rfl, _, _, rfl, rfl, .inr ⟨by decide, by decide⟩, _, rfl, ?_⟩
      refine ⟨_, rfl, _, rfl, _, _, rfl, rfl, _, rfl, _, rfl, _, rfl, _, _, rfl, _, rfl, _, _, rfl, rfl, _, rfl, r, _, rfl, SqL.of er, fun p hp => ?_⟩
      have s3 := same_upd (o := .lst (cutV (((List.range ((en + 7) / 8 - st / 8)).flatMap fun i => part cs b f (st / 8 + i)).map V.int) (some ((st : Int) - (st : Int) / 8 * 8)) (some ((if (en : Int) > (st : Int) then (en : Int) else (st : Int)) - (st : Int) / 8 * 8)))) hp
      refine ⟨p, _, rfl, .inl ⟨SqL.of upd_same, fun t ht => q _ t ((s2.trans s3).trans (same_upd ht)) ((s2.trans s3).free ht) ?_⟩⟩
      rw [upd_same]
      have e1 : (st : Int) - (st : Int) / 8 * 8 = ((st - st / 8 * 8 : Nat) : Int) := by omega
      have e2 : (if (en : Int) > (st : Int) then (en : Int) else (st : Int)) - (st : Int) / 8 * 8 = ((max st en - st / 8 * 8 : Nat) : Int) := by
        by_cases c : en > st
        · rw [if_pos (by omega), Nat.max_eq_right (by omega)]
          omega
        · rw [if_neg (by omega), Nat.max_eq_left (by omega)]
          omega
      have e3 : max st en - st / 8 * 8 - (st - st / 8 * 8) = max st en - st := by omega
      show some (HO.tup (cutV _ (some ((st : Int) - (st : Int) / 8 * 8)) (some ((if (en : Int) > (st : Int) then (en : Int) else (st : Int)) - (st : Int) / 8 * 8)))) = _
      rw [e1, e2, cut_both, e3, ← List.map_drop, ← List.map_take]
      rfl
def spCont (K : PySem.W.Frag) (C : Addr) : Sp := fun vs H Q _ => ∃ (h sa : Addr) (f : Int) (b : Sh) (cs : List Ch), vs = [.ref h, .ref sa, .int f] ∧ 0 ≤ f ∧ f < b.f ∧ 1 ≤ b.b ∧ ShAt C H sa b ∧ HoAt K H h cs b.pl ∧ ∀ H' t, Same H H' → H t = none → H' t = some (.tup ((cont cs b f).map V.int)) → Q (.ref t) H'
theorem ok_cont {f fN fS : Addr} {fd dN dS : FuncData} (F : Fun K "content_of" "content_of" sCont f fd) (DN : Df P w K mg base CX0 5 "numbers_at" ["home", "shape", "file", "start", "end"] (spNums K C) fN dN) (DS : Df P w K mg base CX0 3 "size_at" ["home", "shape", "file"] (spSz K C) fS dS) : FnOk P w K mg base CX0 6 f fd ["home", "shape", "file"] (spCont K C) := by
  refine F.ok scCont (fun vs H Q E h => ?_) (fun cdv A outer s H vs Q E hr h => ?_)
  · obtain ⟨h, sa, f, b, cs, rfl, _⟩ := h
    rfl
  · obtain ⟨h, sa, f, b, cs, rfl, h0, h1, hb, S, A, q⟩ := h
    refine ⟨_, pss_one (ps_ret (pe_call DN.G hr rfl DN.g DN.kp DN.b .nil pass0 (pa_cons (pv 0) (pa_cons (pv 1) (pa_cons (pv 2) (pa_cons pe_int (pa_cons (pe_call DS.G (hr.mono (by decide)) rfl DS.g DS.kp DS.b .nil pass0 (pa_cons (pv 0) (pa_cons (pv 1) (pa_cons (pv 2) pa_nil)))) pa_nil))))))), ?_⟩
    have := sizeN_in cs b f
    refine ⟨_, rfl, _, rfl, _, rfl, _, rfl, _, rfl, _, rfl, h, sa, f, b, cs, rfl, h0, h1, hb, S, A, h, sa, f, b, 0, (sizeN cs b f).toNat, cs, ?_, h0, h1, by omega, by omega, hb, S, A, q⟩
    show [V.ref h, V.ref sa, V.int f, V.int 0, V.int (sizeN cs b f)] = _
    rw [show (((sizeN cs b f).toNat : Nat) : Int) = sizeN cs b f by omega]
    rfl
end
end Pf

set_option Elab.async false
set_option linter.all false
set_option maxRecDepth 100000
set_option maxHeartbeats 4000000
namespace Pf
open PySem PySem.Spec PyProof.Rows L2
theorem scCa : FnScope ["home", "place", "plate", "at"] ["home", "place"] (defScope sCa) := ⟨rfl, rfl, rfl, by decide +kernel, rfl, by decide +kernel, by decide +kernel⟩
theorem scDa : FnScope ["home", "shape", "number", "value"] ["home", "shape", "number"] (defScope sDa) := ⟨rfl, rfl, rfl, by decide +kernel, rfl, by decide +kernel, by decide +kernel⟩
theorem scRa : FnScope ["home", "shape", "number", "value", "place"] ["home", "shape", "number"] (defScope sRa) := ⟨rfl, rfl, rfl, by decide +kernel, rfl, by decide +kernel, by decide +kernel⟩
theorem scIsD : FnScope ["home", "shape", "number"] ["home", "shape", "number"] (defScope sIsD) := ⟨rfl, rfl, rfl, by decide +kernel, rfl, by decide +kernel, by decide +kernel⟩
/-- what the cell of a directory, of a row tells -/
def NM' : Int := 475254
def dirN (cs : List Ch) (b : Sh) (n : Int) : Option (Int × Int) := if 2 ≤ n ∧ n < b.d then (if cellN cs (1 + n / 8) (n % 8).toNat < 1 then none else some ((cellN cs (1 + n / 8) (n % 8).toNat - 1) / 475254, (cellN cs (1 + n / 8) (n % 8).toNat - 1) % 475254)) else none
def rowN (cs : List Ch) (b : Sh) (n : Int) : Option (Int × Int × Int) := if 0 ≤ n ∧ n < b.r then (if cellN cs (b.fr + n / 8) (n % 8).toNat < 1 then none else
  some ((cellN cs (b.fr + n / 8) (n % 8).toNat - 1) / b.f / 475254, (cellN cs (b.fr + n / 8) (n % 8).toNat - 1) / b.f % 475254, (cellN cs (b.fr + n / 8) (n % 8).toNat - 1) % b.f)) else none
section
variable {P : Program} {w : World} {K : PySem.W.Frag} {mg : Str → Option Value} {base : Heap} {C : Addr}
def spCa (K : PySem.W.Frag) (C : Addr) : Sp := fun vs H Q _ => ∃ (h t : Addr) (p : Int) (s : Nat) (b : Sh) (cs : List Ch), vs = [.ref h, .ref t] ∧ 0 ≤ p ∧ p < b.pl ∧ s < 8 ∧ HoAt K H h cs b.pl ∧ SqT K H t [.int p, .int ((s : Nat) : Int)] ∧ Q (.int (cellN cs p s)) H
theorem ok_ca {f : Addr} {fd : FuncData} (F : Fun K "cell_at" "cell_at" sCa f fd) : FnOk P w K mg base CX0 1 f fd ["home", "place"] (spCa K C) := by
  refine F.ok scCa (fun vs H Q E h => ?_) (fun cdv A outer s H vs Q E hr h => ?_)
  · obtain ⟨h, t, p, s, b, cs, rfl, _⟩ := h
    rfl
  · obtain ⟨h, t, p, s, b, cs, rfl, p0, p1, hs, Ho, hT, q⟩ := h
    have nd := scCa.nd
    refine ⟨_, pss_cons (ps_asg (pv 1) (pg_tup rfl (pgs_cons (pg_name (i := 2) nd rfl (.inl rfl)) (pgs_cons (pg_name (i := 3) nd rfl (.inl rfl)) pgs_nil))))
      (pss_one (ps_ret (pe_ix ix_tup (pe_dget (hu_of hr) (pv 0) (pv 2) (fun _ _ => rfl)) (pv 3) (fun _ _ => rfl)))), ?_⟩
    obtain ⟨kvs, ra, e1, e2, e3, e4⟩ := Ho.get p0 p1
    exact ⟨_, rfl, t, _, rfl, hT, rfl, _, _, rfl, _, _, rfl, rfl, _, rfl, _, rfl, h, .ref ra, rfl, (by rw [← e2]; exact DGet.k (k := Sum.inl p) e1), _, rfl, ra, _, _, _, rfl, rfl, e3, row_at (by omega), q⟩
def spDa (K : PySem.W.Frag) (C : Addr) : Sp := fun vs H Q _ => ∃ (h sa : Addr) (n : Int) (b : Sh) (cs : List Ch), vs = [.ref h, .ref sa, .int n] ∧ ShAt C H sa b ∧ HoAt K H h cs b.pl ∧
  (dirN cs b n = none → ∀ H', Same H H' → Q .non H') ∧ (∀ x, dirN cs b n = some x → ∀ H' t, Same H H' → H t = none → H' t = some (.tup [.int x.1, .int x.2]) → Q (.ref t) H')
theorem ok_dirAt {f fC fD : Addr} {fd dC dD : FuncData} (F : Fun K "dir_at" "dir_at" sDa f fd) (T : ShTxt K C) (DC : Df P w K mg base CX0 1 "cell_at" ["home", "place"] (spCa K C) fC dC) (MD : Me P w K mg base 1 C "dir_cell" ["self", "number"] (spCellN C fun _ => 1) fD dD)
    {t1 t2 : Tok} (m2 : mg "FIRST_DIR_readings" = some (.int 2 t1)) (mN : mg "NAMES" = some (.int 475254 t2)) : FnOk P w K mg base CX0 2 f fd ["home", "shape", "number"] (spDa K C) := by
  refine F.ok scDa (fun vs H Q E h => ?_) (fun cdv A outer s H vs Q E hr h => ?_)
  · obtain ⟨h, sa, n, b, cs, rfl, _⟩ := h
    rfl
  · obtain ⟨h, sa, n, b, cs, rfl, S, Ho, k0, k1⟩ := h
    have nd := scDa.nd
    refine ⟨_, pss_cons (ps_if (pt_not (pt_chain op_le op_lt (pe_glob (v := .int 2) rfl m2 ⟨_, rfl⟩) (pv 2) (pe_fld (pv 1) rfl))) (pss_one (ps_ret pe_non)) pss_nil)
      (pss_cons (ps_set (i := 3) nd rfl (.inl rfl) (pe_call DC.G hr rfl DC.g DC.kp DC.b .nil pass0 (pa_cons (pv 0) (pa_cons (pe_meth (pv 1) T.cl MD.m MD.G hr MD.b .nil pass0 (pa_cons (pv 2) pa_nil)) pa_nil))))
      (pss_cons (ps_if (pt_cmpR op_lt (pv 3) pe_int (nomark _)) (pss_one (ps_ret pe_non)) pss_nil)
      (pss_one (ps_ret (pe_tup (pa_cons (pe_op op_fdiv (pe_op op_sub (pv 3) pe_int) (pe_glob (v := .int 475254) rfl mN ⟨_, rfl⟩)) (pa_cons (pe_op op_mod (pe_op op_sub (pv 3) pe_int) (pe_glob (v := .int 475254) rfl mN ⟨_, rfl⟩)) pa_nil))))))), ?_⟩
    obtain ⟨dx, es⟩ := id S
    refine ⟨_, rfl, _, _, rfl, rfl, _, rfl, ite2 (fun c => ?_) (fun c => ?_)⟩
    · have c1 : 2 ≤ n := of_decide_eq_true c
      refine ⟨_, rfl, sa, C, dx, _, _, rfl, es, T.cl, T.no _ (by decide +kernel), zip_get (i := 0) shn_nodup rfl rfl, _, _, rfl, rfl, _, rfl, ?_⟩
      by_cases c2 : n < b.d
      · rw [decide_eq_true c2]
        refine iteF ?_
        have hd := b.hd
        have hbd := b.bd
        have hp0 : 0 ≤ 1 + n / 8 := by omega
        have hp1 : 1 + n / 8 < b.pl := by
          have : 1 + n / 8 ≤ b.fr := by unfold Sh.fr; omega
          omega
        have es8 : n % 8 = (((n % 8).toNat : Nat) : Int) := by omega
        refine ⟨_, rfl, _, rfl, sa, dx, _, rfl, es, zip_no (by decide +kernel), _, rfl, sa, b, n, rfl, S, fun t ht => ?_⟩
        have s1 := same_upd (o := .tup [.int (1 + n / 8), .int (n % 8)]) ht
        refine ⟨h, t, 1 + n / 8, (n % 8).toNat, b, cs, rfl, hp0, hp1, by omega, Ho.same s1, SqT.of (by rw [upd_same, ← es8]), ?_⟩
        refine ⟨_, rfl, _, _, rfl, rfl, _, rfl, ite2 (fun c3 => ?_) (fun c3 => ?_)⟩
        · have c3' : cellN cs (1 + n / 8) (n % 8).toNat < 1 := of_decide_eq_true c3
          refine k0 ?_ _ s1
          unfold dirN
          rw [if_pos ⟨c1, c2⟩, if_pos c3']
        · have c3' : ¬ cellN cs (1 + n / 8) (n % 8).toNat < 1 := fun z => c3 (decide_eq_true z)
          refine ⟨_, rfl, _, _, rfl, rfl, _, _, rfl, rfl, ⟨by decide, by decide⟩, _, rfl, _, _, rfl, rfl, _, _, rfl, rfl, (by show (0 : Int) < 475254; decide), (by show 2 ≤ sizeLine; decide), fun u hu => ?_⟩
          have hd9 : dirN cs b n = some ((cellN cs (1 + n / 8) (n % 8).toNat - 1) / 475254, (cellN cs (1 + n / 8) (n % 8).toNat - 1) % 475254) := by
            unfold dirN
            rw [if_pos ⟨c1, c2⟩, if_neg c3']
          exact k1 _ hd9 _ u (s1.trans (same_upd hu)) (s1.free hu) upd_same
      · rw [decide_eq_false c2]
        refine iteT (k0 ?_ _ (Same.refl _))
        unfold dirN
        rw [if_neg fun z => c2 z.2]
    · have c1 : ¬ 2 ≤ n := fun z => c (decide_eq_true z)
      refine ⟨_, rfl, iteT (k0 ?_ _ (Same.refl _))⟩
      unfold dirN
      rw [if_neg fun z => c1 z.1]
end
end Pf

set_option Elab.async false
set_option linter.all false
set_option maxRecDepth 100000
set_option maxHeartbeats 4000000
namespace Pf
open PySem PySem.Spec PyProof.Rows L2
section
variable {P : Program} {w : World} {K : PySem.W.Frag} {mg : Str → Option Value} {base : Heap} {C : Addr}
def spRa (K : PySem.W.Frag) (C : Addr) : Sp := fun vs H Q _ => ∃ (h sa : Addr) (n : Int) (b : Sh) (cs : List Ch), vs = [.ref h, .ref sa, .int n] ∧ ShAt C H sa b ∧ HoAt K H h cs b.pl ∧
  (rowN cs b n = none → ∀ H', Same H H' → Q .non H') ∧ (∀ x, rowN cs b n = some x → ∀ H' t, Same H H' → H t = none → H' t = some (.tup [.int x.1, .int x.2.1, .int x.2.2]) → Q (.ref t) H')
theorem ok_rowAt {f fC fD : Addr} {fd dC dD : FuncData} (F : Fun K "row_at" "row_at" sRa f fd) (T : ShTxt K C) (DC : Df P w K mg base CX0 1 "cell_at" ["home", "place"] (spCa K C) fC dC) (MD : Me P w K mg base 1 C "row_cell" ["self", "number"] (spCellN C Sh.fr) fD dD)
    {t2 : Tok} (mN : mg "NAMES" = some (.int 475254 t2)) : FnOk P w K mg base CX0 2 f fd ["home", "shape", "number"] (spRa K C) := by
  refine F.ok scRa (fun vs H Q E h => ?_) (fun cdv A outer s H vs Q E hr h => ?_)
  · obtain ⟨h, sa, n, b, cs, rfl, _⟩ := h
    rfl
  · obtain ⟨h, sa, n, b, cs, rfl, S, Ho, k0, k1⟩ := h
    have nd := scRa.nd
    refine ⟨_, pss_cons (ps_if (pt_not (pt_chain op_le op_lt pe_int (pv 2) (pe_fld (pv 1) rfl))) (pss_one (ps_ret pe_non)) pss_nil)
      (pss_cons (ps_set (i := 3) nd rfl (.inl rfl) (pe_call DC.G hr rfl DC.g DC.kp DC.b .nil pass0 (pa_cons (pv 0) (pa_cons (pe_meth (pv 1) T.cl MD.m MD.G hr MD.b .nil pass0 (pa_cons (pv 2) pa_nil)) pa_nil))))
      (pss_cons (ps_if (pt_cmpR op_lt (pv 3) pe_int (nomark _)) (pss_one (ps_ret pe_non)) pss_nil)
      (pss_cons (ps_set (i := 4) nd rfl (.inl rfl) (pe_op op_fdiv (pe_op op_sub (pv 3) pe_int) (pe_fld (pv 1) rfl)))
      (pss_one (ps_ret (pe_tup (pa_cons (pe_op op_fdiv (pv 4) (pe_glob (v := .int 475254) rfl mN ⟨_, rfl⟩)) (pa_cons (pe_op op_mod (pv 4) (pe_glob (v := .int 475254) rfl mN ⟨_, rfl⟩)) (pa_cons (pe_op op_mod (pe_op op_sub (pv 3) pe_int) (pe_fld (pv 1) rfl)) pa_nil))))))))), ?_⟩
    obtain ⟨dx, es⟩ := id S
    have hbf := b.hf
    refine ⟨_, rfl, _, _, rfl, rfl, _, rfl, ite2 (fun c => ?_) (fun c => ?_)⟩
    · have c1 : 0 ≤ n := of_decide_eq_true c
      refine ⟨_, rfl, sa, C, dx, _, _, rfl, es, T.cl, T.no _ (by decide +kernel), zip_get (i := 1) shn_nodup rfl rfl, _, _, rfl, rfl, _, rfl, ?_⟩
      by_cases c2 : n < b.r
      · rw [decide_eq_true c2]
        refine iteF ?_
        have hd := b.hr
        have hbd := b.bd
        have hp0 : 0 ≤ b.fr + n / 8 := by omega
        have hp1 : b.fr + n / 8 < b.pl := by
          have : b.fr + n / 8 ≤ b.fu := by unfold Sh.fu; omega
          omega
        have es8 : n % 8 = (((n % 8).toNat : Nat) : Int) := by omega
        refine ⟨_, rfl, _, rfl, sa, dx, _, rfl, es, zip_no (by decide +kernel), _, rfl, sa, b, n, rfl, S, fun t ht => ?_⟩
        have s1 := same_upd (o := .tup [.int (b.fr + n / 8), .int (n % 8)]) ht
        have es1 := s1 _ _ es
        refine ⟨h, t, b.fr + n / 8, (n % 8).toNat, b, cs, rfl, hp0, hp1, by omega, Ho.same s1, SqT.of (by rw [upd_same, ← es8]), ?_⟩
        refine ⟨_, rfl, _, _, rfl, rfl, _, rfl, ite2 (fun c3 => ?_) (fun c3 => ?_)⟩
        · have c3' : cellN cs (b.fr + n / 8) (n % 8).toNat < 1 := of_decide_eq_true c3
          refine k0 ?_ _ s1
          unfold rowN
          rw [if_pos ⟨c1, c2⟩, if_pos c3']
        · have c3' : ¬ cellN cs (b.fr + n / 8) (n % 8).toNat < 1 := fun z => c3 (decide_eq_true z)
          refine ⟨_, rfl, _, _, rfl, rfl, _, rfl, sa, C, dx, _, _, rfl, es1, T.cl, T.no _ (by decide +kernel), zip_get (i := 2) shn_nodup rfl rfl, _, _, rfl, rfl, ⟨by show (0 : Int) < b.f; omega, by show b.f < 1073741824; omega⟩, ?_⟩
          refine ⟨_, rfl, _, _, rfl, rfl, ⟨by decide, by decide⟩, _, rfl, _, _, rfl, rfl, (by show (0 : Int) < 475254; decide), _, rfl, _, _, rfl, rfl, _, rfl, sa, C, dx, _, _, rfl, es1, T.cl, T.no _ (by decide +kernel), zip_get (i := 2) shn_nodup rfl rfl, _, _, rfl, rfl, (by show (0 : Int) < b.f; omega), (by show 3 ≤ sizeLine; decide), fun u hu => ?_⟩
          have hd9 : rowN cs b n = some ((cellN cs (b.fr + n / 8) (n % 8).toNat - 1) / b.f / 475254, (cellN cs (b.fr + n / 8) (n % 8).toNat - 1) / b.f % 475254, (cellN cs (b.fr + n / 8) (n % 8).toNat - 1) % b.f) := by
            unfold rowN
            rw [if_pos ⟨c1, c2⟩, if_neg c3']
          exact k1 _ hd9 _ u (s1.trans (same_upd hu)) (s1.free hu) upd_same
      · rw [decide_eq_false c2]
        refine iteT (k0 ?_ _ (Same.refl _))
        unfold rowN
        rw [if_neg fun z => c2 z.2]
    · have c1 : ¬ 0 ≤ n := fun z => c (decide_eq_true z)
      refine ⟨_, rfl, iteT (k0 ?_ _ (Same.refl _))⟩
      unfold rowN
      rw [if_neg fun z => c1 z.1]
def spIsD (K : PySem.W.Frag) (C : Addr) : Sp := fun vs H Q _ => ∃ (h sa : Addr) (n : Int) (b : Sh) (cs : List Ch), vs = [.ref h, .ref sa, .int n] ∧ ShAt C H sa b ∧ HoAt K H h cs b.pl ∧ ∀ H', Same H H' → Q (.bl (decide (n = 0 ∨ n = 1) || (dirN cs b n).isSome)) H'
theorem ok_isD {f fD : Addr} {fd dD : FuncData} (F : Fun K "is_dir" "is_dir" sIsD f fd) (DD : Df P w K mg base CX0 2 "dir_at" ["home", "shape", "number"] (spDa K C) fD dD) {t1 t2 : Tok} (m0 : mg "ROOT" = some (.int 0 t1)) (m1 : mg "FOUND" = some (.int 1 t2)) : FnOk P w K mg base CX0 3 f fd ["home", "shape", "number"] (spIsD K C) := by
  refine F.ok scIsD (fun vs H Q E h => ?_) (fun cdv A outer s H vs Q E hr h => ?_)
  · obtain ⟨h, sa, n, b, cs, rfl, _⟩ := h
    rfl
  · obtain ⟨h, sa, n, b, cs, rfl, S, Ho, k⟩ := h
    refine ⟨_, pss_one (ps_ret (pe_or (pe_cmpR op_in_seq (pv 2) (pe_tup (pa_cons (pe_glob (v := .int 0) rfl m0 ⟨_, rfl⟩) (pa_cons (pe_glob (v := .int 1) rfl m1 ⟨_, rfl⟩) pa_nil))) (by rfl)) (pe_one (pe_cmpR op_notN (pe_call DD.G hr rfl DD.g DD.kp DD.b .nil pass0 (pa_cons (pv 0) (pa_cons (pv 1) (pa_cons (pv 2) pa_nil)))) pe_non (nomark _))))), ?_⟩
    refine ⟨_, rfl, (by show 2 ≤ sizeLine; decide), fun t ht => ?_⟩
    have s1 := same_upd (o := .tup [V.int 0, V.int 1]) ht
    have hin : inV (V.int n) [V.int 0, V.int 1] = decide (n = 0 ∨ n = 1) := by
      have h0 : ∀ m : Int, eqV (V.int m) (V.int n) = decide (m = n) := fun m => by
        show (m == n) = _
        by_cases c : m = n
        · rw [decide_eq_true c]; exact beq_iff_eq.mpr c
        · rw [decide_eq_false c]; exact beq_eq_false_iff_ne.mpr c
      show (eqV (V.int 0) (V.int n) || (eqV (V.int 1) (V.int n) || false)) = _
      rw [h0, h0, Bool.or_false]
      by_cases c0 : (0 : Int) = n
      · rw [decide_eq_true c0, Bool.true_or, decide_eq_true (.inl c0.symm)]
      · by_cases c1 : (1 : Int) = n
        · rw [decide_eq_true c1, Bool.or_true, decide_eq_true (.inr c1.symm)]
        · rw [decide_eq_false c0, decide_eq_false c1, decide_eq_false (fun z => z.elim (fun y => c0 y.symm) fun y => c1 y.symm)]
          rfl
    refine ⟨t, _, rfl, .inr (SqT.of upd_same), rfl, rfl, ?_⟩
    show ∃ k, V.bl (if false = true then !inV (V.int n) [V.int 0, V.int 1] else inV (V.int n) [V.int 0, V.int 1]) = V.bl k ∧ _
    rw [if_neg (by decide), hin]
    refine ⟨_, rfl, ?_⟩
    cases e : decide (n = 0 ∨ n = 1) with
    | true =>
      refine iteT ?_
      have h := k _ s1
      rw [e, Bool.true_or] at h
      exact h
    | false =>
      refine iteF ⟨_, rfl, _, rfl, _, rfl, h, sa, n, b, cs, rfl, S.same s1, Ho.same s1, fun hno H' s2 => ⟨rfl, ?_⟩, fun x hx H' u s2 hu eu => ⟨rfl, ?_⟩⟩
      · have h := k _ (s1.trans s2)
        rw [e, hno] at h
        exact h
      · have h := k _ (s1.trans s2)
        rw [e, hx] at h
        exact h
end
end Pf

set_option Elab.async false
set_option linter.all false
set_option maxRecDepth 100000
set_option maxHeartbeats 4000000
namespace Pf
open PySem PySem.Spec PyProof.Rows L2
theorem tp_same {H H' : Hp} (s : Same H H') : Same (Tp H) (Tp H') := (Fr.of (cs := []) s).tp
theorem tp_put {H : Hp} {c : Addr} {o : HO} (ht : ∀ u, H c = some u → isT u = false) : Same (Tp H) (Tp (upd H c o)) := (Fr.put (cs := [c]) (by simp) ht).tp
/-- a list of data -/
def LsD (K : PySem.W.Frag) (H : Hp) (D : Addr) (ds : List PyData) : Prop := ∃ us, H D = some (.lst us) ∧ DpAll K (Tp H) us ds
theorem LsD.same {K : PySem.W.Frag} {H H' : Hp} {D : Addr} {ds : List PyData} (A : LsD K H D ds) (s : Same H H') : LsD K H' D ds := by
  obtain ⟨us, e, h⟩ := A
  exact ⟨us, s _ _ e, dps_same (tp_same s) _ _ h⟩
theorem LsD.push {K : PySem.W.Frag} {H : Hp} {D : Addr} {us : List V} {ds : List PyData} {y : V} {d : PyData} (e : H D = some (.lst us)) (h : DpAll K (Tp H) us ds) (hy : Dp K (Tp H) y d) : LsD K (upd H D (.lst (us ++ [y]))) D (ds ++ [d]) := by
  have tb : Same (Tp H) (Tp (upd H D (.lst (us ++ [y])))) := tp_put fun o q => by rw [e] at q; cases q; rfl
  exact ⟨_, upd_same, dps_app (dps_same tb _ _ h) (.cons (dp_same tb _ _ hy) .nil)⟩
def rowD3 (x : Int × Int × Int) : PyData := .tuple [.int x.1, .int x.2.1, .int x.2.2]
def optD3 : Option (Int × Int × Int) → PyData
  | none => .none
  | some x => rowD3 x
theorem row_dp {K : PySem.W.Frag} {H : Hp} {t : Addr} {x : Int × Int × Int} (e : H t = some (.tup [.int x.1, .int x.2.1, .int x.2.2])) : Dp K (Tp H) (.ref t) (rowD3 x) := .tup (SqT.of (tp_at e rfl)) (.cons (.int _) (.cons (.int _) (.cons (.int _) .nil)))
/-- the rows that stand, in order -/
def rowsL (cs : List Ch) (b : Sh) (k : Nat) : List (Int × Int × Int × Int) := (List.range k).filterMap fun i => (rowN cs b ((i : Nat) : Int)).map fun x => (((i : Nat) : Int), x)
def rD (x : Int × Int × Int × Int) : PyData := .tuple [.int x.1, rowD3 x.2]
theorem rows_more (cs : List Ch) (b : Sh) (k : Nat) : rowsL cs b (k + 1) = rowsL cs b k ++ (match rowN cs b ((k : Nat) : Int) with | none => [] | some x => [(((k : Nat) : Int), x)]) := by
  unfold rowsL
  rw [List.range_succ, List.filterMap_append]
  congr 1
  cases e : rowN cs b ((k : Nat) : Int) with
  | none => simp [e]
  | some x => simp [e]
theorem rows_len (cs : List Ch) (b : Sh) (k : Nat) : (rowsL cs b k).length ≤ k := by
  unfold rowsL
  exact Nat.le_trans (List.length_filterMap_le _ _) (by rw [List.length_range]; exact Nat.le_refl _)
abbrev NRo : List Str := ["home", "shape", "told", "number", "row"]
theorem scRo : FnScope NRo ["home", "shape"] (defScope sRo) := ⟨rfl, rfl, rfl, by decide +kernel, rfl, by decide +kernel, by decide +kernel⟩
section
variable {P : Program} {w : World} {K : PySem.W.Frag} {mg : Str → Option Value} {base : Heap} {C : Addr}
def spRo (K : PySem.W.Frag) (C : Addr) : Sp := fun vs H Q _ => ∃ (h sa : Addr) (b : Sh) (cs : List Ch), vs = [.ref h, .ref sa] ∧ ShAt C H sa b ∧ HoAt K H h cs b.pl ∧ ∀ L H', Same H H' → H L = none → LsD K H' L ((rowsL cs b b.r.toNat).map rD) → Q (.ref L) H'
theorem ok_rowsOf {f fR : Addr} {fd dR : FuncData} (F : Fun K "rows_of" "rows_of" sRo f fd) (T : ShTxt K C) (DR : Df P w K mg base CX0 2 "row_at" ["home", "shape", "number"] (spRa K C) fR dR) (mr : mg "range" = none) : FnOk P w K mg base CX0 3 f fd ["home", "shape"] (spRo K C) := by
  refine F.ok scRo (fun vs H Q E h => ?_) (fun cdv A outer s H vs Q E hr h => ?_)
  · obtain ⟨h, sa, b, cs, rfl, _⟩ := h
    rfl
  · obtain ⟨h, sa, b, cs, rfl, S, Ho, k⟩ := h
    have nd := scRo.nd
    refine ⟨_, pss_cons (ps_setLc (i := 2) (own := [("number", 3)]) (g := gName 3) (tt := tYes) (te := tTup (tCons (tVar 3) (tCons (tCall (spRa K C) [] E0 (tCons (tVar 0) (tCons (tVar 1) (tCons (tVar 3) tNil)))) tNil))) (by rfl) nd rfl rfl (sw_true rfl rfl rfl (by decide +kernel)) (pi_range1 (by rfl) mr (pa_cons (pe_fld (pv 1) rfl) pa_nil)) (blkOk_by (N := NRo) (sc := defScope sRo) (by decide +kernel))
          (fun _ _ _ _ _ => pg_name (i := 3) nd rfl (.inl rfl)) (fun _ _ _ _ _ => pts_nil)
          (fun _ _ _ _ _ => pe_tup (pa_cons (pv 3) (pa_cons (pe_call DR.G hr rfl DR.g DR.kp DR.b .nil pass0 (pa_cons (pv 0) (pa_cons (pv 1) (pa_cons (pv 3) pa_nil)))) pa_nil))))
      (pss_one (ps_ret (pe_lc (own := [("number", 3), ("row", 4)]) (g := gTup K 2 (gCons (gName 3) (gCons (gName 4) gNil))) (te := tTup (tCons (tVar 3) (tCons (tVar 4) tNil))) rfl nd (pi_list (pv 2)) (blkOk_by (N := NRo) (sc := defScope sRo) (by decide +kernel))
          (fun _ _ _ _ _ => pg_tup rfl (pgs_cons (pg_name (i := 3) nd rfl (.inl rfl)) (pgs_cons (pg_name (i := 4) nd rfl (.inl rfl)) pgs_nil))) (fun _ _ _ _ _ => pts_one (pt_cmpR op_notN (pv 4) pe_non (nomark _)))
          (fun _ _ _ _ _ => pe_tup (pa_cons (pv 3) (pa_cons (pv 4) pa_nil)))))), ?_⟩
    obtain ⟨dx, es⟩ := id S
    have hbr := b.hr
    refine ⟨_, rfl, sa, C, dx, _, _, rfl, es, T.cl, T.no _ (by decide +kernel), zip_get (i := 1) shn_nodup rfl rfl, b.r, rfl, by omega, by omega, fun D hD => lc_range (lo := 0) (n := b.r.toNat) (fun i H' => Same H H' ∧ LsD K H' D ((List.range i).map fun i => .tuple [.int ((i : Nat) : Int), optD3 (rowN cs b ((i : Nat) : Int))])) ⟨same_upd hD, ⟨[], upd_same, .nil⟩⟩ ?_ ?_⟩
    · rintro i H' hi ⟨s1, us, eD, dD⟩
      have hul := dps_len dD
      rw [List.length_map, List.length_range] at hul
      have ez : (0 : Int) + ((i : Nat) : Int) = ((i : Nat) : Int) := by omega
      refine ⟨rfl, tyes_go ⟨_, rfl, _, rfl, _, rfl, _, rfl, h, sa, 0 + ((i : Nat) : Int), b, cs, rfl, S.same s1, Ho.same s1, fun hno H2 s2 => ⟨(by show 2 ≤ sizeLine; decide), fun t ht => ?_⟩, fun x hx H2 u s2 hu eu => ⟨(by show 2 ≤ sizeLine; decide), fun t ht => ?_⟩⟩⟩
      · have s3 := same_upd (o := .tup [.int (0 + ((i : Nat) : Int)), .non]) ht
        have s13 := (s2.trans s3)
        refine ⟨us, s13 _ _ eD, by rw [sizeLine_eq]; omega, ?_, ?_⟩
        · intro c o e
          have h1 := (s1.trans s13) _ _ e
          rw [upd_ne (ne_of_none e (by have := hD; exact this))]
          exact h1
        · rw [List.range_succ, List.map_append]
          rw [ez] at hno
          refine LsD.push (s13 _ _ eD) (dps_same (tp_same s13) _ _ dD) ?_
          show Dp K _ (.ref t) (.tuple [.int ((i : Nat) : Int), optD3 (rowN cs b ((i : Nat) : Int))])
          rw [hno]
          exact .tup (SqT.of (tp_at (by rw [upd_same, ez]) rfl)) (.cons (.int _) (.cons .non .nil))
      · have s3 := same_upd (o := .tup [.int (0 + ((i : Nat) : Int)), .ref u]) ht
        have s13 := (s2.trans s3)
        refine ⟨us, s13 _ _ eD, by rw [sizeLine_eq]; omega, ?_, ?_⟩
        · intro c o e
          have h1 := (s1.trans s13) _ _ e
          rw [upd_ne (ne_of_none e (by have := hD; exact this))]
          exact h1
        · rw [List.range_succ, List.map_append]
          rw [ez] at hx
          refine LsD.push (s13 _ _ eD) (dps_same (tp_same s13) _ _ dD) ?_
          show Dp K _ (.ref t) (.tuple [.int ((i : Nat) : Int), optD3 (rowN cs b ((i : Nat) : Int))])
          rw [hx]
          exact .tup (SqT.of (tp_at (by rw [upd_same, ez]) rfl)) (.cons (.int _) (.cons (row_dp (s3 _ _ eu)) .nil))
    · rintro H' ⟨s1, us, eD, dD⟩
      refine ⟨_, rfl, D, rfl, ⟨us, SqL.of eD⟩, fun D2 hD2 => lc_list (K := K) (a := D) (xs := us) (fun i H2 => Same H' H2 ∧ LsD K H2 D2 ((rowsL cs b i).map rD)) ⟨same_upd hD2, ⟨[], upd_same, .nil⟩⟩ (fun i H2 _ z => SqL.of (z.1 _ _ eD)) ?_ ?_⟩
      · rintro i x H2 hi ⟨s2, vs, eV, dV'⟩
        obtain ⟨e, he, hd⟩ := dps_get dD hi
        have hvl := dps_len dV'
        rw [List.length_map] at hvl
        have hrl := rows_len cs b i
        have hil : i < b.r.toNat := by
          have h9 := (List.getElem?_eq_some_iff.mp he).1
          rw [List.length_map, List.length_range] at h9
          exact h9
        rw [List.getElem?_map, List.getElem?_range hil] at he
        have he' : e = .tuple [.int ((i : Nat) : Int), optD3 (rowN cs b ((i : Nat) : Int))] := (Option.some.inj he).symm
        subst he'
        cases hd with
        | @tup a xs _ hb hxs =>
        cases hxs with
        | @cons v0 _ _ _ h1 h2 =>
        cases h1 with
        | int =>
        cases h2 with
        | @cons v1 _ _ _ h3 h4 =>
        cases h4
        have hb2 := same_seqT tp_le (same_seqT (tp_same s2) hb)
        refine ⟨a, _, rfl, hb2, rfl, _, _, rfl, _, _, rfl, rfl, rfl, _, rfl, rfl, _, rfl, ?_⟩
        cases er : rowN cs b ((i : Nat) : Int) with
        | none =>
          rw [er] at h3
          have h3' : Dp K (Tp H') v1 .none := h3
          cases h3'
          refine iteF ⟨s2, ?_⟩
          rw [rows_more, er, List.append_nil]
          exact ⟨vs, eV, dV'⟩
        | some y =>
          rw [er] at h3
          have h3' : Dp K (Tp H') v1 (.tuple [.int y.1, .int y.2.1, .int y.2.2]) := h3
          have hr1 : ∃ u, v1 = .ref u := by cases h3' with | tup _ _ => exact ⟨_, rfl⟩
          obtain ⟨u, rfl⟩ := hr1
          refine iteT ⟨_, rfl, _, rfl, (by show 2 ≤ sizeLine; decide), fun t ht => ?_⟩
          have s3 := same_upd (o := .tup [V.int ((i : Nat) : Int), .ref u]) ht
          refine ⟨vs, s3 _ _ eV, by rw [sizeLine_eq]; omega, fun c o ec => ?_, ?_⟩
          · rw [upd_ne (ne_of_none ec hD2)]
            exact (s2.trans s3) _ _ ec
          · rw [rows_more, er, List.map_append]
            exact LsD.push (s3 _ _ eV) (dps_same (tp_same s3) _ _ dV') (.tup (SqT.of (tp_at upd_same rfl)) (.cons (.int _) (.cons (dp_same (tp_same (s2.trans s3)) _ _ h3') .nil)))
      · rintro H2 ⟨s2, L2'⟩
        have hul := dps_len dD
        rw [List.length_map, List.length_range] at hul
        rw [hul] at L2'
        exact k D2 H2 (s1.trans s2) (s1.free hD2) L2'
end
end Pf

set_option Elab.async false
set_option linter.all false
set_option maxRecDepth 100000
set_option maxHeartbeats 4000000
namespace Pf
open PySem PySem.Spec PyProof.Rows L2
def filesN (cs : List Ch) (b : Sh) : List Int := (rowsL cs b b.r.toNat).map fun x => x.2.2.2
def namedL (cs : List Ch) (b : Sh) (k : Nat) : List Int := ((List.range k).filter fun i => decide (((i : Nat) : Int) ∈ filesN cs b)).map fun i => ((i : Nat) : Int)
theorem named_more (cs : List Ch) (b : Sh) (k : Nat) : namedL cs b (k + 1) = namedL cs b k ++ (if ((k : Nat) : Int) ∈ filesN cs b then [((k : Nat) : Int)] else []) := by
  unfold namedL
  rw [List.range_succ, List.filter_append, List.map_append]
  congr 1
  by_cases c : ((k : Nat) : Int) ∈ filesN cs b
  · rw [if_pos c, List.filter_cons_of_pos (by exact decide_eq_true c)]
    rfl
  · rw [if_neg c, List.filter_cons_of_neg (by rw [decide_eq_false c]; decide)]
    rfl
theorem named_len (cs : List Ch) (b : Sh) (k : Nat) : (namedL cs b k).length ≤ k := by
  unfold namedL
  rw [List.length_map]
  exact Nat.le_trans (List.length_filter_le _ _) (by rw [List.length_range]; exact Nat.le_refl _)
theorem inV_ints (n : Int) : ∀ xs : List Int, inV (V.int n) (xs.map V.int) = decide (n ∈ xs)
  | [] => rfl
  | x :: xs => by
    have ih := inV_ints n xs
    unfold inV at ih ⊢
    rw [List.map_cons, List.any_cons, ih]
    show ((x == n) || _) = _
    by_cases c : n = x
    · rw [show (x == n) = true from beq_iff_eq.mpr c.symm, Bool.true_or, decide_eq_true (by rw [c]; exact List.mem_cons_self)]
    · rw [show (x == n) = false from beq_eq_false_iff_ne.mpr fun z => c z.symm, Bool.false_or]
      exact decide_eq_decide.mpr ⟨List.mem_cons_of_mem _, fun z => (List.mem_cons.mp z).elim (fun y => absurd y c) id⟩
abbrev NNf : List Str := ["home", "shape", "named", "row", "number", "file"]
theorem scNf : FnScope NNf ["home", "shape"] (defScope sNf) := ⟨rfl, rfl, rfl, by decide +kernel, rfl, by decide +kernel, by decide +kernel⟩
theorem scOw : FnScope ["home", "shape", "file", "owner"] ["home", "shape", "file"] (defScope sOw) := ⟨rfl, rfl, rfl, by decide +kernel, rfl, by decide +kernel, by decide +kernel⟩
section
variable {P : Program} {w : World} {K : PySem.W.Frag} {mg : Str → Option Value} {base : Heap} {C : Addr}
def spNf (K : PySem.W.Frag) (C : Addr) : Sp := fun vs H Q _ => ∃ (h sa : Addr) (b : Sh) (cs : List Ch), vs = [.ref h, .ref sa] ∧ ShAt C H sa b ∧ HoAt K H h cs b.pl ∧ ∀ L H', Same H H' → H L = none → H' L = some (.lst ((namedL cs b b.f.toNat).map V.int)) → Q (.ref L) H'
theorem ok_named {f fR : Addr} {fd dR : FuncData} (F : Fun K "named_files" "named_files" sNf f fd) (T : ShTxt K C) (DR : Df P w K mg base CX0 3 "rows_of" ["home", "shape"] (spRo K C) fR dR) (mr : mg "range" = none) : FnOk P w K mg base CX0 4 f fd ["home", "shape"] (spNf K C) := by
  refine F.ok scNf (fun vs H Q E h => ?_) (fun cdv A outer s H vs Q E hr h => ?_)
  · obtain ⟨h, sa, b, cs, rfl, _⟩ := h
    rfl
  · obtain ⟨h, sa, b, cs, rfl, S, Ho, k⟩ := h
    have nd := scNf.nd
    refine ⟨_, pss_cons (ps_set (i := 2) nd rfl (.inr rfl) (pe_lc (own := [("number", 4), ("row", 3)]) (g := gTup K 2 (gCons (gName 4) (gCons (gName 3) gNil))) (tt := tYes) (te := tOp (rIxT K) (tVar 3) (tC (.int 2))) rfl nd (pi_list (pe_call DR.G hr rfl DR.g DR.kp DR.b .nil pass0 (pa_cons (pv 0) (pa_cons (pv 1) pa_nil)))) (blkOk_by (N := NNf) (sc := defScope sNf) (by decide +kernel))
          (fun _ _ _ _ _ => pg_tup rfl (pgs_cons (pg_name (i := 4) nd rfl (.inl rfl)) (pgs_cons (pg_name (i := 3) nd rfl (.inl rfl)) pgs_nil))) (fun _ _ _ _ _ => pts_nil)
          (fun _ _ _ _ _ => pe_ix ix_tup (pv 3) pe_int (fun _ _ => rfl))))
      (pss_one (ps_ret (pe_lc (own := [("file", 5)]) (g := gName 5) (tt := tTest (tOp (rIn K false) (tVar 5) (tVar 2))) (te := tVar 5) rfl nd (pi_range1 (by rfl) mr (pa_cons (pe_fld (pv 1) rfl) pa_nil)) (blkOk_by (N := NNf) (sc := defScope sNf) (by decide +kernel))
          (fun _ _ _ _ _ => pg_name (i := 5) nd rfl (.inl rfl)) (fun _ _ _ _ _ => pts_one (pt_cmpR op_in_seq (pv 5) (pv 2) (by rfl)))
          (fun _ _ _ _ _ => pv 5)))), ?_⟩
    have hbr := b.hr
    have hbf := b.hf
    refine ⟨_, rfl, _, rfl, h, sa, b, cs, rfl, S, Ho, fun L H1 s1 hL1 LL => ?_⟩
    obtain ⟨us, eL, dL⟩ := LL
    have hrl := rows_len cs b b.r.toNat
    have hul := dps_len dL
    rw [List.length_map] at hul
    refine ⟨L, rfl, ⟨us, SqL.of eL⟩, fun D hD => lc_list (K := K) (a := L) (xs := us) (fun i H2 => Same H1 H2 ∧ H2 D = some (.lst (((filesN cs b).take i).map V.int))) ⟨same_upd hD, upd_same⟩ (fun i H2 _ z => SqL.of (z.1 _ _ eL)) ?_ ?_⟩
    · rintro i x H2 hi ⟨s2, eD⟩
      obtain ⟨e, he, hd⟩ := dps_get dL hi
      rw [List.getElem?_map] at he
      cases er : (rowsL cs b b.r.toNat)[i]? with
      | none => rw [er] at he; cases he
      | some y =>
      rw [er] at he
      have he' : e = .tuple [.int y.1, .tuple [.int y.2.1, .int y.2.2.1, .int y.2.2.2]] := (Option.some.inj he).symm
      subst he'
      cases hd with
      | @tup a xs _ hb hxs =>
      cases hxs with
      | @cons v0 _ _ _ h1 h2 =>
      cases h1 with
      | int =>
      cases h2 with
      | @cons v1 _ _ _ h3 h4 =>
      cases h4
      cases h3 with
      | @tup a2 xs2 _ hb2 hxs2 =>
      cases hxs2 with
      | cons g1 g2 =>
      cases g1 with
      | int =>
      cases g2 with
      | cons g3 g4 =>
      cases g3 with
      | int =>
      cases g4 with
      | cons g5 g6 =>
      cases g5 with
      | int =>
      cases g6
      have hb' := same_seqT tp_le (same_seqT (tp_same s2) hb)
      have hb2' := same_seqT tp_le (same_seqT (tp_same s2) hb2)
      have hil := (List.getElem?_eq_some_iff.mp er).1
      refine ⟨a, _, rfl, hb', rfl, _, _, rfl, _, _, rfl, rfl, rfl, tyes_go ⟨_, rfl, a2, _, 2, _, rfl, rfl, hb2', atI_nat (j := 2) rfl, _, eD, by rw [List.length_map, List.length_take, sizeLine_eq]; omega, fun c o ec => ?_, ?_⟩⟩
      · rw [upd_ne (ne_of_none ec hD)]
        exact s2 _ _ ec
      · have ef : (filesN cs b)[i]? = some y.2.2.2 := by unfold filesN; rw [List.getElem?_map, er]; rfl
        rw [upd_same, List.take_add_one, ef, List.map_append]
        rfl
    · rintro H2 ⟨s2, eD⟩
      have efl : (filesN cs b).length = us.length := by unfold filesN; rw [List.length_map]; omega
      rw [← efl, List.take_length] at eD
      obtain ⟨dx, es⟩ := (S.same s1).same s2
      refine ⟨_, rfl, sa, C, dx, _, _, rfl, es, T.cl, T.no _ (by decide +kernel), zip_get (i := 2) shn_nodup rfl rfl, b.f, rfl, by omega, by omega, fun D2 hD2 => lc_range (lo := 0) (n := b.f.toNat) (fun i H3 => Same H2 H3 ∧ H3 D2 = some (.lst ((namedL cs b i).map V.int))) ⟨same_upd hD2, upd_same⟩ ?_ ?_⟩
      · rintro i H3 hi ⟨s3, e2⟩
        have ez : (0 : Int) + ((i : Nat) : Int) = ((i : Nat) : Int) := by omega
        have hnl := named_len cs b i
        refine ⟨rfl, _, rfl, _, rfl, D, _, rfl, .inl (SqL.of (s3 _ _ eD)), rfl, ?_, ?_⟩
        · rw [List.all_map]
          exact List.all_eq_true.mpr fun _ _ => rfl
        show ∃ k, V.bl (if false = true then !inV (V.int (0 + ((i : Nat) : Int))) ((filesN cs b).map V.int) else inV (V.int (0 + ((i : Nat) : Int))) ((filesN cs b).map V.int)) = V.bl k ∧ _
        rw [if_neg (by decide), inV_ints, ez]
        refine ⟨_, rfl, ?_⟩
        by_cases c : ((i : Nat) : Int) ∈ filesN cs b
        · rw [decide_eq_true c]
          refine iteT ⟨_, rfl, _, e2, by rw [List.length_map, sizeLine_eq]; omega, fun c o ec => ?_, ?_⟩
          · rw [upd_ne (ne_of_none ec hD2)]
            exact s3 _ _ ec
          · rw [upd_same, named_more, if_pos c, List.map_append]
            rfl
        · rw [decide_eq_false c]
          refine iteF ⟨s3, ?_⟩
          rw [named_more, if_neg c, List.append_nil]
          exact e2
      · rintro H3 ⟨s3, e2⟩
        exact k D2 H3 ((s1.trans s2).trans s3) ((s1.trans s2).free hD2) e2
def ownerN (cs : List Ch) (b : Sh) (f : Int) : Int := if 0 ≤ cellN cs (b.ff + f) 1 ∧ cellN cs (b.ff + f) 1 < b.u then cellN cs (b.ff + f) 1 else 0
def spOw (K : PySem.W.Frag) (C : Addr) : Sp := fun vs H Q _ => ∃ (h sa : Addr) (f : Int) (b : Sh) (cs : List Ch), vs = [.ref h, .ref sa, .int f] ∧ 0 ≤ f ∧ f < b.f ∧ ShAt C H sa b ∧ HoAt K H h cs b.pl ∧ Q (.int (ownerN cs b f)) H
theorem ok_owner {f fF : Addr} {fd dF : FuncData} (F : Fun K "owner_at" "owner_at" sOw f fd) (T : ShTxt K C) (DF : Df P w K mg base CX0 2 "file_cell" ["home", "shape", "file", "place"] (spFc K C) fF dF) {t1 : Tok} (m1 : mg "OWNER_PLACE" = some (.int 1 t1)) : FnOk P w K mg base CX0 3 f fd ["home", "shape", "file"] (spOw K C) := by
  refine F.ok scOw (fun vs H Q E h => ?_) (fun cdv A outer s H vs Q E hr h => ?_)
  · obtain ⟨h, sa, f, b, cs, rfl, _⟩ := h
    rfl
  · obtain ⟨h, sa, f, b, cs, rfl, h0, h1, S, Ho, q⟩ := h
    have nd := scOw.nd
    refine ⟨_, pss_cons (ps_set (i := 3) nd rfl (.inl rfl) (pe_call DF.G hr rfl DF.g DF.kp DF.b .nil pass0 (pa_cons (pv 0) (pa_cons (pv 1) (pa_cons (pv 2) (pa_cons (pe_glob (v := .int 1) rfl m1 ⟨_, rfl⟩) pa_nil))))))
      (pss_one (ps_ret (pe_ifExp (pt_chain op_le op_lt pe_int (pv 3) (pe_fld (pv 1) rfl)) (pv 3) pe_int))), ?_⟩
    obtain ⟨dx, es⟩ := id S
    refine ⟨_, rfl, _, rfl, _, rfl, h, sa, f, b, 1, cs, rfl, h0, h1, by decide, b.hb.1, S, Ho, ?_⟩
    refine ⟨_, rfl, _, _, rfl, rfl, _, rfl, ite2 (fun c => ?_) (fun c => ?_)⟩
    · have c1 : 0 ≤ cellN cs (b.ff + f) 1 := of_decide_eq_true c
      refine ⟨_, rfl, sa, C, dx, _, _, rfl, es, T.cl, T.no _ (by decide +kernel), zip_get (i := 4) shn_nodup rfl rfl, _, _, rfl, rfl, _, rfl, ite2 (fun c2 => ?_) (fun c2 => ?_)⟩
      · have c2' : cellN cs (b.ff + f) 1 < b.u := of_decide_eq_true c2
        have e : ownerN cs b f = cellN cs (b.ff + f) 1 := if_pos ⟨c1, c2'⟩
        rw [e] at q
        exact ⟨_, rfl, q⟩
      · have e : ownerN cs b f = 0 := if_neg fun z => c2 (decide_eq_true z.2)
        rw [e] at q
        exact q
    · have e : ownerN cs b f = 0 := if_neg fun z => c (decide_eq_true z.1)
      rw [e] at q
      exact ⟨_, rfl, iteF q⟩
end
end Pf

set_option Elab.async false
set_option linter.all false
set_option maxRecDepth 100000
set_option maxHeartbeats 8000000
namespace Pf
open PySem PySem.Spec PyProof.Rows L2
abbrev NLm : List Str := ["_law_home", "_law_shape", "_law_file", "_law_found", "_law_pointer", "_law_level", "_law_block", "_law_more", "_law_one"]
theorem scLm : FnScope NLm ["_law_home", "_law_shape", "_law_file"] (defScope sLam) := ⟨rfl, rfl, rfl, by decide +kernel, rfl, by decide +kernel, by decide +kernel⟩
theorem flat_sum (g : Int → List Int) : ∀ xs : List Int, (((xs.flatMap g).length : Nat) : Int) = (xs.map fun y => (((g y).length : Nat) : Int)).sum
  | [] => rfl
  | x :: xs => by
    have ih := flat_sum g xs
    rw [List.flatMap_cons, List.length_append, List.map_cons, List.sum_cons, ← ih]
    omega
section
variable {P : Program} {w : World} {K : PySem.W.Frag} {mg : Str → Option Value} {base : Heap} {C : Addr}
def spLm (K : PySem.W.Frag) (C : Addr) : Sp := fun vs H Q _ => ∃ (h sa : Addr) (f : Int) (b : Sh) (cs : List Ch), vs = [.ref h, .ref sa, .int f] ∧ 0 ≤ f ∧ f < b.f ∧ ShAt C H sa b ∧ HoAt K H h cs b.pl ∧ ∀ H', Same H H' → Q (.bl true) H'
theorem ok_lm {f fP fM fB fO fT : Addr} {fd dP dM dB dO dT : FuncData} (F : Fun K "_law_are_met" "_law_are_met" sLam f fd) (T : ShTxt K C) (DP : Df P w K mg base CX0 2 "pointers_at" ["home", "shape", "file"] (spPa K C) fP dP) (DM : Df P w K mg base CX0 4 "met_below" ["home", "shape", "pointer", "level"] (spMbA K C) fM dM)
    (DB : Df P w K mg base CX0 1 "block_of" ["shape", "pointer"] (spBo C) fB dB) (MP : Me P w K mg base 1 C "block_plate" ["self", "block"] (spBp C) fO dO) (DT : Df P w K mg base CX0 5 "met" ["home", "shape", "file"] (spMet K C) fT dT) (ml : mg "len" = none) (ms : mg "sum" = none) : FnOk P w K mg base CX0 6 f fd ["_law_home", "_law_shape", "_law_file"] (spLm K C) := by
  refine F.ok scLm (fun vs H Q E h => ?_) (fun cdv A outer s H vs Q E hr h => ?_)
  · obtain ⟨h, sa, f, b, cs, rfl, _⟩ := h
    rfl
  · obtain ⟨h, sa, f, b, cs, rfl, f0, f1, S, Ho, k⟩ := h
    have nd := scLm.nd
    have h1 : Room 1 _ := hr.mono (by decide)
    have h2 : Room 2 _ := hr.mono (by decide)
    have h4 : Room 4 _ := hr.mono (by decide)
    refine ⟨_, pss_cons (ps_set (i := 3) nd rfl (.inl rfl) (pe_lst pa_nil))
      (pss_cons (ps_for PassesOwn.never rfl (pi_list (pe_call DP.G h2 rfl DP.g DP.kp DP.b .nil pass0 (pa_cons (pv 0) (pa_cons (pv 1) (pa_cons (pv 2) pa_nil)))))
        (pg_tup rfl (pgs_cons (pg_name (i := 4) nd rfl (.inl rfl)) (pgs_cons (pg_name (i := 5) nd rfl (.inr rfl)) pgs_nil)))
        (pss_cons (ps_aug (i := 3) nd rfl (.inl rfl) (pe_call DM.G h4 rfl DM.g DM.kp DM.b .nil pass0 (pa_cons (pv 0) (pa_cons (pv 1) (pa_cons (pv 4) (pa_cons (pv 5) pa_nil))))) (ti := rExt2) iop_ext)
        (pss_cons (ps_set (i := 6) nd rfl (.inl rfl) (pe_call DB.G h1 rfl DB.g DB.kp DB.b .nil pass0 (pa_cons (pv 1) (pa_cons (pv 4) pa_nil))))
        (pss_cons (ps_set (i := 7) nd rfl (.inl rfl) (pe_ifExp (pt_cmpR op_isN (pv 6) pe_non (nomark _)) pe_int pe_int))
        (pss_cons (ps_if (PW.pt (pw_and (pt_cmpR op_notN (pv 6) pe_non (nomark _)) (pw_and1 (pt_cmpR op_gt (pv 5) pe_int (nomark _)))))
          (pss_one (ps_aug (i := 7) nd rfl (.inl rfl) (pe_callB (cr_sum rfl) (by rfl) ms (by decide +kernel) (pa_cons (pe_lc (own := [("_law_one", 8)]) (g := gName 8) (tt := tYes) (te := tCB (fun xs H_1 Q => ∃ p ys, xs = [V.ref p] ∧ (SqL K H_1 p ys ∨ SqT K H_1 p ys) ∧ Q (V.int ((ys.length : Nat) : Int)) H_1) (tCons (tCall (spMbA K C) [] E0 (tCons (tVar 0) (tCons (tVar 1) (tCons (tVar 8) (tCons (tOp (rI0 fun i j => .int (i - j)) (tVar 5) (tC (.int 1))) tNil))))) tNil)) rfl nd
            (pi_tup (pe_dget (hu_of hr) (pv 0) (pe_meth (pv 1) T.cl MP.m MP.G h1 MP.b .nil pass0 (pa_cons (pv 6) pa_nil)) (fun _ _ => rfl))) (blkOk_by (N := NLm) (sc := defScope sLam) (by decide +kernel))
            (fun _ _ _ _ _ => pg_name (i := 8) nd rfl (.inl rfl)) (fun _ _ _ _ _ => pts_nil)
            (fun _ _ _ _ _ => pe_callB call_len_seq (by rfl) ml boot_len (pa_cons (pe_call DM.G h4 rfl DM.g DM.kp DM.b .nil pass0 (pa_cons (pv 0) (pa_cons (pv 1) (pa_cons (pv 8) (pa_cons (pe_op op_sub (pv 5) pe_int) pa_nil))))) pa_nil))) pa_nil)) ip_add)) pss_nil)
        (pss_one (ps_if (pt_cmpR op_ne (pe_callB call_len_seq (by rfl) ml boot_len (pa_cons (pe_call DM.G h4 rfl DM.g DM.kp DM.b .nil pass0 (pa_cons (pv 0) (pa_cons (pv 1) (pa_cons (pv 4) (pa_cons (pv 5) pa_nil))))) pa_nil)) (pv 7) (nomark _)) (pss_one (ps_ret pe_bl)) pss_nil)))))))
      (pss_one (ps_ret (pe_cmpR (op_eqD hr.units) (pv 3) (pe_call DT.G (hr.mono (by decide)) rfl DT.g DT.kp DT.b .nil pass0 (pa_cons (pv 0) (pa_cons (pv 1) (pa_cons (pv 2) pa_nil)))) (nomark _))))), ?_⟩
    have hl5 := Ho.2.ptr b.hb.1 f0 f1
    refine ⟨Nat.zero_le _, fun fo hfo => ?_⟩
    have s1 := same_upd (o := .lst []) hfo
    refine ⟨_, rfl, _, rfl, _, rfl, h, sa, f, b, cs, rfl, f0, f1, b.hb.1, S.same s1, Ho.same s1, fun H1 L ts s2 n1 el ln ep => ?_⟩
    have e1r : H1 fo = some (.lst []) := s2 _ _ upd_same
    have nLr : L ≠ fo := fun z => by rw [z, upd_same] at n1; cases n1
    refine ⟨L, rfl, ⟨_, SqL.of el⟩, for_list (K := K) (a := L) (xs := ts.map V.ref) (fun i σ H' => ∃ y4 y5 y6 y7, σ = [some (.ref h), some (.ref sa), some (.int f), some (.ref fo), y4, y5, y6, y7, none] ∧ Same H H' ∧ Fr [fo] H1 H' ∧ H' fo = some (.lst (((((ptr cs b f).zip LV).take i).flatMap fun pl => mb cs b pl.2 pl.1).map V.int)))
      ⟨none, none, none, none, rfl, s1.trans s2, .of (Same.refl _), e1r⟩ (fun i σ H' _ z => by obtain ⟨_, _, _, _, _, _, z, _⟩ := z; exact SqL.of (z.at el (by simp [nLr]))) ?_ ?_⟩
    · rintro i x σ H' hi ⟨y4, y5, y6, y7, rfl, s3, f3, er⟩
      rw [List.getElem?_map] at hi
      cases et : ts[i]? with
      | none => rw [et] at hi; cases hi
      | some t =>
      rw [et] at hi
      cases hi
      obtain ⟨x, l, e5, e6, e7⟩ := ep i t et
      have hl2 := lv_two e6
      have e7' : H' t = some (.tup [.int x, .int ((l : Nat) : Int)]) := f3.at e7 (by
        intro z
        rw [List.mem_singleton.mp z, e1r] at e7
        cases e7)
      refine ⟨t, _, rfl, SqT.of e7', rfl, _, _, rfl, _, _, rfl, rfl, _, rfl, _, rfl, _, rfl, _, rfl, _, rfl, l, hl2, h, sa, x, b, cs, rfl, hl2, S.same s3, Ho.same s3, fun H2 r2 s4 n2 em => ?_⟩
      have ezl : ((ptr cs b f).zip LV)[i]? = some (x, l) := List.getElem?_zip_eq_some.mpr ⟨e5, e6⟩
      have g2 := mb_small Ho.2 hl2 x
      have g1 := flat_len (fun pl : Int × Nat => mb cs b pl.2 pl.1) 73 (((ptr cs b f).zip LV).take i) (fun y hy => by
        obtain ⟨j, hj⟩ := List.getElem?_of_mem (List.mem_of_mem_take hy)
        obtain ⟨_, q2⟩ := List.getElem?_zip_eq_some.mp hj
        exact mb_small Ho.2 (lv_two q2) _)
      have g3 : (((ptr cs b f).zip LV).take i).length ≤ 5 := by rw [List.length_take, List.length_zip, hl5]; show min i (min 5 5) ≤ 5; omega
      have g4 := Nat.mul_le_mul_right 73 g3
      refine ⟨fo, r2, _, _, rfl, rfl, s4 _ _ er, em, by rw [List.length_map, List.length_map, sizeLine_eq]; omega, ?_⟩
      have er2 : (upd H2 fo (.lst (((((ptr cs b f).zip LV).take i).flatMap fun pl => mb cs b pl.2 pl.1).map V.int ++ (mb cs b l x).map V.int))) fo = some (.lst (((((ptr cs b f).zip LV).take (i + 1)).flatMap fun pl => mb cs b pl.2 pl.1).map V.int)) := by
        rw [upd_same, List.take_add_one, ezl, List.flatMap_append, List.map_append]
        simp
      have f5 : Fr [fo] H' (upd H2 fo (.lst (((((ptr cs b f).zip LV).take i).flatMap fun pl => mb cs b pl.2 pl.1).map V.int ++ (mb cs b l x).map V.int))) := (Fr.of s4).trans (.put (by simp) fun u z => by rw [s4 _ _ er] at z; cases z; rfl)
      generalize upd H2 fo (.lst (((((ptr cs b f).zip LV).take i).flatMap fun pl => mb cs b pl.2 pl.1).map V.int ++ (mb cs b l x).map V.int)) = H3 at er2 f5 ⊢
      have s5 : Same H H3 := fun c o e => ((Fr.of (cs := [fo]) s3).trans f5).at e (by simp [ne_of_none e hfo])
      have S5 := S.same s5
      have Ho5 := Ho.same s5
      refine ⟨_, rfl, _, rfl, sa, b, x, rfl, S5, _, rfl, rfl, _, rfl, ?_⟩
      -- what is met below this pointer, counted
      cases eb : blk b.b x with
      | none =>
        have em0 : mb cs b l x = [] := by cases l <;> (unfold mb; rw [eb])
        refine iteT ⟨_, rfl, rfl, _, rfl, iteF (iteF ?_)⟩
        refine ⟨_, rfl, _, rfl, _, rfl, _, rfl, l, hl2, h, sa, x, b, cs, rfl, hl2, S5, Ho5, fun H6 r6 s6 n6 em6 => ⟨r6, _, rfl, .inl (SqL.of em6), _, rfl, rfl, _, rfl, ite2 (fun hc => ?_) (fun _ => ⟨_, _, _, _, rfl, s5.trans s6, (f3.trans f5).trans (.of s6), s6 _ _ er2⟩)⟩⟩
        have e : V.int ((((mb cs b l x).map V.int).length : Nat) : Int) = V.int 0 := by rw [em0]; rfl
        rw [decide_eq_true e] at hc
        cases hc
      | some q =>
        obtain ⟨q0, q1, qe⟩ := blk_in eb
        refine iteF ⟨_, rfl, rfl, _, rfl, ite2 (fun _ => ⟨_, rfl, _, _, rfl, rfl, _, rfl, ?_⟩) (fun hc => absurd rfl hc)⟩
        cases l with
        | zero =>
          have em0 : mb cs b 0 x = [q] := by unfold mb; rw [eb]
          refine iteF ?_
          refine ⟨_, rfl, _, rfl, _, rfl, _, rfl, 0, hl2, h, sa, x, b, cs, rfl, hl2, S5, Ho5, fun H6 r6 s6 n6 em6 => ⟨r6, _, rfl, .inl (SqL.of em6), _, rfl, rfl, _, rfl, ite2 (fun hc => ?_) (fun _ => ⟨_, _, _, _, rfl, s5.trans s6, (f3.trans f5).trans (.of s6), s6 _ _ er2⟩)⟩⟩
          have e : V.int ((((mb cs b 0 x).map V.int).length : Nat) : Int) = V.int 1 := by rw [em0]; rfl
          rw [decide_eq_true e] at hc
          cases hc
        | succ l =>
          have em0 : mb cs b (l + 1) x = q :: (rowAt cs (b.fb + q)).flatMap (mb cs b l) := by unfold mb; rw [eb]
          refine ite2 (fun _ => ?_) (fun c => absurd (decide_eq_true (show (0 : Int) < ((l + 1 : Nat) : Int) by omega)) c)
          obtain ⟨dx, es⟩ := id S5
          obtain ⟨kvs, ra, k1, k2, k3, k4⟩ := Ho5.get (p := b.fb + q) (by have := b.bd; omega) (by have := b.bd; omega)
          refine ⟨_, rfl, _, rfl, _, rfl, sa, dx, _, rfl, es, zip_no (by decide +kernel), _, rfl, sa, b, q, rfl, S5, h, .ref ra, rfl, (by rw [← k2]; exact DGet.k (k := Sum.inl (b.fb + q)) k1), ra, rfl, ⟨_, k3⟩, fun D hD => lc_tup (K := K) (a := ra) (xs := (rowAt cs (b.fb + q)).map V.int) (fun i H' => Same H3 H' ∧ H' D = some (.lst (((rowAt cs (b.fb + q)).take i).map fun y => V.int (((mb cs b l y).length : Nat) : Int)))) ⟨same_upd hD, upd_same⟩ (fun i H' _ z => same_seqT z.1 k3) ?_ ?_⟩
          · rintro j y H6 hj ⟨s6, eD⟩
            rw [List.getElem?_map] at hj
            cases ej : (rowAt cs (b.fb + q))[j]? with
            | none => rw [ej] at hj; cases hj
            | some y' =>
            rw [ej] at hj
            cases hj
            refine ⟨rfl, tyes_go ⟨_, rfl, _, rfl, _, rfl, _, rfl, _, _, rfl, rfl, l, by omega, h, sa, y', b, cs, ?_, by omega, S5.same s6, Ho5.same s6, fun H7 r7 s7 n7 em7 => ⟨r7, _, rfl, .inl (SqL.of em7), _, s7 _ _ eD, ?_, ?_, ?_⟩⟩⟩
            · show [V.ref h, V.ref sa, V.int y', V.int (((l + 1 : Nat) : Int) - 1)] = _
              rw [show (((l + 1 : Nat) : Int) - 1) = ((l : Nat) : Int) by omega]
            · rw [List.length_map, List.length_take, sizeLine_eq]; omega
            · exact fun c o e => by
                rw [upd_ne (ne_of_none e hD)]
                exact (s6.trans s7) _ _ e
            · rw [upd_same, List.take_add_one, ej, List.map_append, List.length_map]
              rfl
          · rintro H6 ⟨s6, eD⟩
            rw [List.length_map, List.take_length] at eD
            refine ⟨D, (rowAt cs (b.fb + q)).map fun y => (((mb cs b l y).length : Nat) : Int), rfl, SqL.of (by rw [eD, List.map_map]; rfl), ?_⟩
            refine ⟨_, _, rfl, rfl, ?_⟩
            refine ⟨_, rfl, _, rfl, _, rfl, _, rfl, l + 1, hl2, h, sa, x, b, cs, rfl, hl2, S5.same s6, Ho5.same s6, fun H8 r8 s8 n8 em8 => ⟨r8, _, rfl, .inl (SqL.of em8), _, rfl, rfl, _, rfl, ite2 (fun hc => ?_) (fun _ => ⟨_, _, _, _, rfl, (s5.trans s6).trans s8, (f3.trans f5).trans (.of (s6.trans s8)), s8 _ _ (s6 _ _ er2)⟩)⟩⟩
            have e : V.int ((((mb cs b (l + 1) x).map V.int).length : Nat) : Int) = V.int (1 + ((rowAt cs (b.fb + q)).map fun y => (((mb cs b l y).length : Nat) : Int)).sum) := by
              rw [List.length_map, em0, List.length_cons, ← flat_sum]
              congr 1
              omega
            rw [decide_eq_true e] at hc
            cases hc
    · rintro σ H' ⟨y4, y5, y6, y7, rfl, s3, f3, er⟩
      have hzl : ((ptr cs b f).zip LV).length = 5 := by rw [List.length_zip, hl5]; rfl
      rw [List.length_map, ln, List.take_of_length_le (by omega)] at er
      refine ⟨_, rfl, _, rfl, _, rfl, _, rfl, h, sa, f, b, cs, rfl, f0, f1, b.hb.1, S.same s3, Ho.same s3, fun H9 r9 s9 n9 e9 => ?_⟩
      have dp : ∀ (r : Addr) (Hz : Hp), Hz r = some (.lst ((metL cs b f).map V.int)) → Dp K Hz (.ref r) (.list ((metL cs b f).map PyData.int)) := fun r Hz e => .lst (SqL.of e) (dps_ints _)
      refine ⟨.list ((metL cs b f).map PyData.int), .list ((metL cs b f).map PyData.int), dp _ _ (s9 _ _ er), dp _ _ e9, shaped_list (lay_ints _) (by rw [dep_ints]; decide), shaped_list (lay_ints _) (by rw [dep_ints]; decide), ?_⟩
      have ev : PyData.eqv (.list ((metL cs b f).map PyData.int)) (.list ((metL cs b f).map PyData.int)) = true := SeqAt.eqv_refl _ (by simp only [PyData.canLay0]; exact lay_ints _)
      rw [ev]
      exact k _ (s3.trans s9)
end
end Pf

set_option Elab.async false
set_option linter.all false
set_option maxRecDepth 100000
set_option maxHeartbeats 8000000
namespace Pf
open PySem PySem.Spec PyProof.Rows L2
abbrev NLr : List Str := ["_law_home", "_law_shape", "_law_file", "_law_plate", "_law_found", "_law_number_here", "_law_block", "_law_late", "_law_place", "_law_size"]
theorem scLr : FnScope NLr ["_law_home", "_law_shape", "_law_file"] (defScope sLir) := ⟨rfl, rfl, rfl, by decide +kernel, rfl, by decide +kernel, by decide +kernel⟩
def forBody : Stmt → List Stmt
  | .For _ _ b _ _ => b
  | _ => []
abbrev stLr (j : Nat) : Stmt := (defBody sLir).getD j (.Pass ⟨0, 0, 0, 0⟩)
abbrev bLr (j : Nat) : Stmt := (forBody (stLr 1)).getD j (.Pass ⟨0, 0, 0, 0⟩)
abbrev XLr (P : Program) (w : World) (K : PySem.W.Frag) (mg : Str → Option Value) (base : Heap) (f : Addr) (cdv : Value) (A : Around) (outer : List Env) (s : Shared) (H0 : Hp) (E : XK) : Cx := (cxOf CX0 P w K mg base NLr "_law_is_read" (defScope sLir) f cdv A outer s H0 E).nox
section
variable {P : Program} {w : World} {K : PySem.W.Frag} {mg : Str → Option Value} {base : Heap} {C : Addr} {f : Addr} {cdv : Value} {A : Around} {outer : List Env} {s : Shared} {H0 : Hp} {E : XK}
theorem lr_01 {rest : List Stmt} {u : TS} {fS fP : Addr} {dS dP : FuncData} (T : ShTxt K C) (DS : Df P w K mg base CX0 1 "spot_of" ["number"] spSpot fS dS) (MP : Me P w K mg base 1 C "block_plate" ["self", "block"] (spBp C) fP dP)
    (hr : Room 5 (A.deeper (envOfC "_law_is_read" (defScope sLir) s.heap.objs.size f cdv))) (hu : PSs (XLr P w K mg base f cdv A outer s H0 E) rest u) :
    ∃ t, PSs (XLr P w K mg base f cdv A outer s H0 E) (bLr 0 :: bLr 1 :: rest) t ∧ ∀ (D : Ends) H (h sa fo pa : Addr) (f : Int) (k : Nat) (b : Sh) (cs : List Ch) (y6 y7 y8 y9 : Option V), 0 ≤ f → f < b.f → k < 75 → ShAt C H sa b → HoAt K H h cs b.pl → SqT K H pa ((rowAt cs (b.ff + f)).map V.int) →
      (∀ y7 y8 H', Same H H' → u D [some (.ref h), some (.ref sa), some (.int f), some (.ref pa), some (.ref fo), some (.int ((k : Nat) : Int)), some (optV (atW cs b f (rsp k))), y7, y8, y9] H') →
      t D [some (.ref h), some (.ref sa), some (.int f), some (.ref pa), some (.ref fo), some (.int ((k : Nat) : Int)), y6, y7, y8, y9] H := by
  have nd := scLr.nd
  have h1 : Room 1 _ := hr.mono (by decide)
  refine ⟨_, pss_cons (ps_par rfl nd (i := 6) (j := 7) rfl rfl (by decide) rfl rfl (pa_cons pe_non (pa_cons (pv 3) pa_nil)) (by rfl))
    (pss_cons (ps_for PassesOwn.never rfl (pi_tup (pe_call DS.G h1 rfl DS.g DS.kp DS.b .nil pass0 (pa_cons (pv 5) pa_nil))) (pg_name (i := 8) nd rfl (.inl rfl))
      (pss_cons (ps_set (i := 6) nd rfl (.inl rfl) (pe_ifExp (pt_chain op_le op_le pe_int (pe_ix ix_tup (pv 7) (pv 8) (fun _ _ => rfl)) (pe_fld (pv 1) rfl)) (pe_op op_sub (pe_ix ix_tup (pv 7) (pv 8) (fun _ _ => rfl)) pe_int) pe_non))
      (pss_cons (ps_if (pt_cmpR op_isN (pv 6) pe_non (nomark _)) (pss_one ps_break) pss_nil)
      (pss_one (ps_set (i := 7) nd rfl (.inl rfl) (pe_dget (hu_of hr) (pv 0) (pe_meth (pv 1) T.cl MP.m MP.G h1 MP.b .nil pass0 (pa_cons (pv 6) pa_nil)) (fun _ _ => rfl)))))))
    hu), fun D H h sa fo pa f k b cs y6 y7 y8 y9 f0 f1 hk S Ho hP nx => ?_⟩
  obtain ⟨esp, hlt, _⟩ := spI_rsp k hk
  have espl : (spI (k : Int)).length = (rsp k).length := by rw [esp, List.length_map, List.length_reverse]
  refine ⟨_, rfl, _, _, rfl, _, rfl, k, rfl, hk, fun H1 t s1 nt et => ?_⟩
  refine ⟨t, rfl, ⟨_, SqT.of et⟩, for_tup (K := K) (a := t) (xs := (spI (k : Int)).map V.int) (fun i σ H' => ∃ (la : Addr) (y8 : Option V), (((rsp k).reverse.take i).reverse = [] ∨ ∃ r, atW cs b f ((rsp k).reverse.take i).reverse = some r) ∧ σ = [some (.ref h), some (.ref sa), some (.int f), some (.ref pa), some (.ref fo), some (.int ((k : Nat) : Int)), some (optV (atW cs b f ((rsp k).reverse.take i).reverse)), some (.ref la), y8, y9] ∧ Same H1 H' ∧ SqT K H' la ((rowAt cs (plW cs b f ((rsp k).reverse.take i).reverse)).map V.int))
      ⟨pa, _, .inl rfl, rfl, Same.refl _, same_seqT s1 hP⟩ (fun i σ H' _ z => by obtain ⟨_, _, _, _, z, _⟩ := z; exact SqT.of (z _ _ et)) ?_ ?_⟩
  · rintro i x σ H' hi ⟨la, y8, hor, rfl, s2, hla⟩
    rw [esp, List.map_map, List.getElem?_map] at hi
    cases en : (rsp k).reverse[i]? with
    | none => rw [en] at hi; cases hi
    | some n =>
    rw [en] at hi
    cases hi
    have hn8 : n < 8 := hlt n (List.mem_reverse.mp (List.mem_of_getElem? en))
    have etk : ((rsp k).reverse.take (i + 1)).reverse = n :: ((rsp k).reverse.take i).reverse := by
      rw [List.take_add_one, en, List.reverse_append]
      rfl
    have epre : ∃ u : Wy, rsp k = u ++ ((rsp k).reverse.take (i + 1)).reverse := ⟨((rsp k).reverse.drop (i + 1)).reverse, by rw [← List.reverse_append, List.take_append_drop, List.reverse_reverse]⟩
    generalize ((rsp k).reverse.take i).reverse = wi at hor etk hla ⊢
    rw [etk] at epre
    obtain ⟨p0, p1⟩ := plW_in b.hb.1 f0 f1 hor
    have S2 := (S.same s1).same s2
    have A2 := (Ho.same s1).same s2
    obtain ⟨kvs, ra, e1, e2, e3, e4⟩ := A2.get p0 p1
    obtain ⟨dx, es⟩ := id S2
    have ean : atW cs b f (n :: wi) = blk b.b ((rowAt cs (plW cs b f wi)).getD n 0) := at_next hor n
    have hix := row_at (l := rowAt cs (plW cs b f wi)) (s := n) (by omega)
    generalize hp : (rowAt cs (plW cs b f wi)).getD n 0 = p at ean hix
    -- a pointer to nothing: the way ends
    have stop : blk b.b p = none → u D [some (.ref h), some (.ref sa), some (.int f), some (.ref pa), some (.ref fo), some (.int ((k : Nat) : Int)), some .non, some (.ref la), some (.int ((n : Nat) : Int)), y9] H' := fun hb0 => by
      rw [hb0] at ean
      obtain ⟨v, ev⟩ := epre
      have e0 : atW cs b f (rsp k) = none := by
        rw [ev]
        exact at_nil (by simp) ean v
      have h9 := nx (some (.ref la)) (some (.int ((n : Nat) : Int))) H' (s1.trans s2)
      rw [e0] at h9
      exact h9
    refine ⟨_, rfl, _, rfl, la, _, _, _, rfl, rfl, hla, hix, _, _, rfl, rfl, _, rfl, ite2 (fun c => ?_) (fun c => ?_)⟩
    · have c1 : 1 ≤ p := of_decide_eq_true c
      refine ⟨_, rfl, sa, C, dx, _, _, rfl, es, T.cl, T.no _ (by decide +kernel), zip_get (i := 3) shn_nodup rfl rfl, _, _, rfl, rfl, _, rfl, ite2 (fun c2 => ?_) (fun c2 => ?_)⟩
      · have c2' : p ≤ b.b := of_decide_eq_true c2
        have eb : blk b.b p = some (p - 1) := if_pos ⟨c1, c2'⟩
        rw [eb] at ean
        obtain ⟨kvs2, ra2, g1, g2, g3, g4⟩ := A2.get (p := b.fb + (p - 1)) (by have := b.bd; omega) (by have := b.bd; omega)
        refine ⟨_, rfl, _, rfl, la, _, _, _, rfl, rfl, hla, hix, _, _, rfl, rfl, _, rfl, rfl, _, rfl, ite2 (fun z => absurd z (by simp)) (fun _ => ?_)⟩
        refine ⟨_, rfl, _, rfl, sa, dx, _, rfl, es, zip_no (by decide +kernel), _, rfl, sa, b, p - 1, rfl, S2, h, .ref ra2, rfl, (by rw [← g2]; exact DGet.k (k := Sum.inl (b.fb + (p - 1))) g1), ?_⟩
        rw [etk, ean]
        exact ⟨ra2, _, .inr ⟨_, rfl⟩, rfl, s2, by rw [blk_plate ean]; exact g3⟩
      · have eb : blk b.b p = none := if_neg fun z => c2 (decide_eq_true z.2)
        exact ⟨_, rfl, rfl, _, rfl, iteT (stop eb)⟩
    · have eb : blk b.b p = none := if_neg fun z => c (decide_eq_true z.1)
      exact ⟨_, rfl, iteF ⟨_, rfl, rfl, _, rfl, iteT (stop eb)⟩⟩
  · rintro σ H' ⟨la, y8, hor, rfl, s2, hla⟩
    have ef : ((rsp k).reverse.take ((spI (k : Int)).map V.int).length).reverse = rsp k := by
      rw [List.length_map, espl, List.take_of_length_le (by rw [List.length_reverse]; exact Nat.le_refl _), List.reverse_reverse]
    rw [ef]
    exact nx _ _ _ (s1.trans s2)
end
end Pf

set_option Elab.async false
set_option linter.all false
set_option maxRecDepth 100000
set_option maxHeartbeats 8000000
namespace Pf
open PySem PySem.Spec PyProof.Rows L2
theorem part_all {cs : List Ch} {b : Sh} (hw : HW cs b.pl) (f : Int) (n : Nat) : ((List.range n).flatMap fun i => part cs b f i).length = n * 8 := by
  induction n with
  | zero => rfl
  | succ n ih =>
    rw [List.range_succ, List.flatMap_append, List.length_append, ih]
    have h := part_len hw f n
    have e : ([n].flatMap fun i => part cs b f i) = part cs b f n := by simp
    rw [e, h]
    omega
theorem part_split (cs : List Ch) (b : Sh) (f : Int) (n k : Nat) : ∃ r, ((List.range (n + k)).flatMap fun i => part cs b f i) = ((List.range n).flatMap fun i => part cs b f i) ++ r := by
  induction k with
  | zero => exact ⟨[], by simp⟩
  | succ k ih =>
    obtain ⟨r, e⟩ := ih
    refine ⟨r ++ part cs b f (n + k), ?_⟩
    rw [show n + (k + 1) = n + k + 1 by omega, List.range_succ, List.flatMap_append, e, List.append_assoc]
    congr 1
    simp
theorem nums_take {cs : List Ch} {b : Sh} (hw : HW cs b.pl) (f : Int) {en : Nat} (he : en ≤ 600) : numsN cs b f 0 en = ((List.range 75).flatMap fun i => part cs b f i).take en := by
  have h1 : (en + 7) / 8 ≤ 75 := by omega
  obtain ⟨r, e⟩ := part_split cs b f ((en + 7) / 8) (75 - (en + 7) / 8)
  rw [show (en + 7) / 8 + (75 - (en + 7) / 8) = 75 by omega] at e
  have e2 : numsN cs b f 0 en = (((List.range ((en + 7) / 8)).flatMap fun i => part cs b f i)).take en := by
    unfold numsN
    have e3 : (List.range ((en + 7) / 8 - 0 / 8)).flatMap (fun i => part cs b f (0 / 8 + i)) = (List.range ((en + 7) / 8)).flatMap fun i => part cs b f i := by
      rw [show (en + 7) / 8 - 0 / 8 = (en + 7) / 8 by omega]
      congr 1
      funext i
      rw [show 0 / 8 + i = i by omega]
    rw [e3]
    show List.take (max 0 en - 0) (List.drop (0 - 0 / 8 * 8) _) = _
    rw [show max 0 en - 0 = en by omega, show 0 - 0 / 8 * 8 = 0 by omega, List.drop_zero]
  rw [e2, e, List.take_append_of_le_length (by rw [part_all hw]; omega)]
section
variable {P : Program} {w : World} {K : PySem.W.Frag} {mg : Str → Option Value} {base : Heap} {C : Addr} {f : Addr} {cdv : Value} {A : Around} {outer : List Env} {s : Shared} {H0 : Hp} {E : XK}
theorem lr_23 {fD fP : Addr} {dD dP : FuncData} (T : ShTxt K C) (DD : Df P w K mg base CX0 3 "data_block" ["home", "shape", "file", "number"] (spDb K C) fD dD) (MP : Me P w K mg base 1 C "block_plate" ["self", "block"] (spBp C) fP dP) {tw : Tok} (mW : mg "WIDTH" = some (.int 8 tw)) (mL : mg "list" = none)
    (hr : Room 5 (A.deeper (envOfC "_law_is_read" (defScope sLir) s.heap.objs.size f cdv))) :
    ∃ t, PSs (XLr P w K mg base f cdv A outer s H0 E) [bLr 2, bLr 3] t ∧ ∀ (D : Ends) H (h sa fo pa : Addr) (f : Int) (k : Nat) (b : Sh) (cs : List Ch) (y7 y8 y9 : Option V) (ns : List Int), 0 ≤ f → f < b.f → k < 75 → ShAt C H sa b → HoAt K H h cs b.pl → H fo = some (.lst (ns.map V.int)) → ns.length ≤ 600 →
      (∀ H', Fr [fo] H H' → H' fo = some (.lst ((ns ++ part cs b f k).map V.int)) → D.nx [some (.ref h), some (.ref sa), some (.int f), some (.ref pa), some (.ref fo), some (.int ((k : Nat) : Int)), some (optV (atW cs b f (rsp k))), y7, y8, y9] H') →
      t D [some (.ref h), some (.ref sa), some (.int f), some (.ref pa), some (.ref fo), some (.int ((k : Nat) : Int)), some (optV (atW cs b f (rsp k))), y7, y8, y9] H := by
  have nd := scLr.nd
  have h1 : Room 1 _ := hr.mono (by decide)
  have h3 : Room 3 _ := hr.mono (by decide)
  refine ⟨_, pss_cons (ps_if (pt_cmpR op_ne (pe_call DD.G h3 rfl DD.g DD.kp DD.b .nil pass0 (pa_cons (pv 0) (pa_cons (pv 1) (pa_cons (pv 2) (pa_cons (pv 5) pa_nil))))) (pv 6) (nomark _)) (pss_one (ps_ret pe_bl)) pss_nil)
    (pss_one (ps_aug (i := 4) nd rfl (.inl rfl) (pe_ifExp (pt_cmpR op_isN (pv 6) pe_non (nomark _)) (pe_op op_rep (pe_lst (pa_cons pe_int pa_nil)) (pe_glob (v := .int 8) rfl mW ⟨_, rfl⟩))
      (pe_callTy call_list_of (by rfl) mL boot_list (pa_cons (pe_dget (hu_of hr) (pv 0) (pe_meth (pv 1) T.cl MP.m MP.G h1 MP.b .nil pass0 (pa_cons (pv 6) pa_nil)) (fun _ _ => rfl)) pa_nil))) (ti := rExt2) iop_ext)), fun D H h sa fo pa f k b cs y7 y8 y9 ns f0 f1 hk S Ho hfo hnl nx => ?_⟩
  refine ⟨_, rfl, _, rfl, _, rfl, _, rfl, h, sa, f, b, k, cs, rfl, f0, f1, hk, b.hb.1, S, Ho, fun H1 s1 => ?_⟩
  have hsc : scal (optV (atW cs b f (rsp k))) (optV (atW cs b f (rsp k))) = true := by cases atW cs b f (rsp k) <;> rfl
  refine ⟨_, rfl, hsc, _, rfl, ?_⟩
  have e0 : (!decide (optV (atW cs b f (rsp k)) = optV (atW cs b f (rsp k)))) = false := by rw [decide_eq_true rfl]; rfl
  rw [e0]
  refine iteF ⟨_, rfl, ?_⟩
  have S1 := S.same s1
  have Ho1 := Ho.same s1
  have hfo1 := s1 _ _ hfo
  have hpl := part_len Ho.2 f k
  refine ⟨_, rfl, rfl, _, rfl, ?_⟩
  cases e : atW cs b f (rsp k) with
  | none =>
    have ep : part cs b f k = List.replicate 8 0 := by unfold part; rw [e]
    rw [e] at nx
    refine iteT ⟨(by show 1 ≤ sizeLine; decide), fun q hq => ?_⟩
    have s2 := same_upd (o := .lst [V.int 0]) hq
    refine ⟨q, 8, _, rfl, rfl, upd_same, by decide, by decide, by decide, fun q2 hq2 => ?_⟩
    have s3 := same_upd (o := .lst (List.replicate (8 : Int).toNat [V.int 0]).flatten) hq2
    refine ⟨fo, q2, _, _, rfl, rfl, s3 _ _ (s2 _ _ hfo1), upd_same, by rw [List.length_map, sizeLine_eq]; show ns.length + 8 ≤ _; omega, ?_⟩
    refine nx _ (((Fr.of s1).trans (Fr.of (s2.trans s3))).trans (.put (by simp) fun u z => by rw [s3 _ _ (s2 _ _ hfo1)] at z; cases z; rfl)) ?_
    rw [upd_same, ep, List.map_append]
    rfl
  | some r =>
    have ep : part cs b f k = rowAt cs (b.fb + r) := by unfold part; rw [e]
    rw [e] at nx
    obtain ⟨r0, r1⟩ := at_in e
    obtain ⟨dx, es⟩ := id S1
    obtain ⟨kvs, ra, e1, e2, e3, e4⟩ := Ho1.get (p := b.fb + r) (by have := b.bd; omega) (by have := b.bd; omega)
    refine iteF ⟨_, rfl, _, rfl, sa, dx, _, rfl, es, zip_no (by decide +kernel), _, rfl, sa, b, r, rfl, S1, h, .ref ra, rfl, (by rw [← e2]; exact DGet.k (k := Sum.inl (b.fb + r)) e1), ra, _, rfl, .inr e3, fun q hq => ?_⟩
    have s2 := same_upd (o := .lst ((rowAt cs (b.fb + r)).map V.int)) hq
    refine ⟨fo, q, _, _, rfl, rfl, s2 _ _ hfo1, upd_same, by rw [List.length_map, List.length_map, sizeLine_eq]; omega, ?_⟩
    refine nx _ (((Fr.of s1).trans (Fr.of s2)).trans (.put (by simp) fun u z => by rw [s2 _ _ hfo1] at z; cases z; rfl)) ?_
    rw [upd_same, ep, List.map_append]
end
end Pf

set_option Elab.async false
set_option linter.all false
set_option maxRecDepth 100000
set_option maxHeartbeats 8000000
namespace Pf
open PySem PySem.Spec PyProof.Rows L2
/-- range(n), as a value -/
theorem cr_range1 {X : Cx} : CallR X (.type "range") (fun vs H Q => ∃ i, vs = [V.int i] ∧ ∀ p, H p = none → Q (.ref p) (upd H p (.rng 0 i))) := by
  intro pins s σ H vs us Q I r h
  obtain ⟨i, rfl, q⟩ := h
  obtain ⟨u, rfl, ru⟩ := vals1 r
  obtain ⟨t, rfl⟩ := ru
  refine call_range_1 ⟨.ref s.heap.objs.size, upd H s.heap.objs.size (.rng 0 i), I.laid (t' := s.toks + 2) (fun b o e => Heap.get?_push_of_some _ e) (Nat.le_refl _) ?_, rfl, q _ (I.hok.fresh (Nat.le_refl _))⟩
  exact ⟨_, t, _, Heap.get?_push_size _ rfl⟩
def tupI (ns : List Int) : PyData := .tuple (ns.map PyData.int)
theorem tupI_self (ns : List Int) : PyData.eqv (tupI ns) (tupI ns) = true := SeqAt.eqv_refl _ (by unfold tupI; simp only [PyData.canLay0]; exact lay_ints _)
theorem tupI_dp {K : PySem.W.Frag} {H : Hp} {t : Addr} {ns : List Int} (e : H t = some (.tup (ns.map V.int))) : Dp K H (.ref t) (tupI ns) := .tup (SqT.of e) (dps_ints _)
section
variable {P : Program} {w : World} {K : PySem.W.Frag} {mg : Str → Option Value} {base : Heap} {C : Addr}
def spLr (K : PySem.W.Frag) (C : Addr) : Sp := fun vs H Q _ => ∃ (h sa : Addr) (f : Int) (b : Sh) (cs : List Ch), vs = [.ref h, .ref sa, .int f] ∧ 0 ≤ f ∧ f < b.f ∧ ShAt C H sa b ∧ HoAt K H h cs b.pl ∧ ∀ H', Same H H' → Q (.bl true) H'
theorem ok_lr {f0 fF fS fP fD fZ fC fN fO : Addr} {fd dF dS dP dD dZ dC dN dO : FuncData} (F : Fun K "_law_is_read" "_law_is_read" sLir f0 fd) (T : ShTxt K C) (MF : Me P w K mg base 1 C "file_plate" ["self", "file"] (spFp C) fF dF) (DS : Df P w K mg base CX0 1 "spot_of" ["number"] spSpot fS dS) (MP : Me P w K mg base 1 C "block_plate" ["self", "block"] (spBp C) fP dP)
    (DD : Df P w K mg base CX0 3 "data_block" ["home", "shape", "file", "number"] (spDb K C) fD dD) (DZ : Df P w K mg base CX0 3 "size_at" ["home", "shape", "file"] (spSz K C) fZ dZ) (DC : Df P w K mg base CX0 6 "content_of" ["home", "shape", "file"] (spCont K C) fC dC) (DN : Df P w K mg base CX0 5 "numbers_at" ["home", "shape", "file", "start", "end"] (spNums K C) fN dN)
    (DO : Df P w K mg base CX0 3 "owner_at" ["home", "shape", "file"] (spOw K C) fO dO) (kc : KC mg) (mL : mg "list" = none) (mt : mg "tuple" = none) (mr : mg "range" = none) (mx : mg "max" = none) (mn : mg "min" = none) : FnOk P w K mg base CX0 7 f0 fd ["_law_home", "_law_shape", "_law_file"] (spLr K C) := by
  refine F.ok scLr (fun vs H Q E h => ?_) (fun cdv A outer s H vs Q E hr h => ?_)
  · obtain ⟨h, sa, f, b, cs, rfl, _⟩ := h
    rfl
  · obtain ⟨h, sa, f, b, cs, rfl, fl0, fl1, S, Ho, k⟩ := h
    have nd := scLr.nd
    have h1 : Room 1 _ := hr.mono (by decide)
    have h3 : Room 3 _ := hr.mono (by decide)
    have h5 : Room 5 _ := hr.mono (by decide)
    obtain ⟨t75, m75⟩ := kc.MB
    obtain ⟨t6, m6⟩ := kc.MS
    obtain ⟨t8, m8⟩ := kc.W
    obtain ⟨tb, hb, qb⟩ := lr_23 (P := P) (w := w) (K := K) (mg := mg) (base := base) (C := C) (f := f0) (cdv := cdv) (A := A) (outer := outer) (s := s) (H0 := H) (E := E) T DD MP m8 mL h5
    obtain ⟨ta, ha, qa⟩ := lr_01 T DS MP h5 hb
    refine ⟨_, pss_cons (ps_par rfl nd (i := 3) (j := 4) rfl rfl (by decide) rfl rfl (pa_cons (pe_dget (hu_of hr) (pv 0) (pe_meth (pv 1) T.cl MF.m MF.G h1 MF.b .nil pass0 (pa_cons (pv 2) pa_nil)) (fun _ _ => rfl)) (pa_cons (pe_lst pa_nil) pa_nil)) (by rfl))
      (pss_cons (ps_for PassesOwn.never rfl (pi_range1 (by rfl) mr (pa_cons (pe_glob (v := .int 75) rfl m75 ⟨_, rfl⟩) pa_nil)) (pg_name (i := 5) nd rfl (.inl rfl)) ha)
      (pss_cons (ps_set (i := 9) nd rfl (.inl rfl) (pe_callB (call_max2 rfl) (by rfl) mx (by decide +kernel) (pa_cons pe_int (pa_cons (pe_callB (call_min2 rfl) (by rfl) mn (by decide +kernel) (pa_cons (pe_ix ix_tup (pv 3) pe_int (fun _ _ => rfl)) (pa_cons (pe_glob (v := .int 600) rfl m6 ⟨_, rfl⟩) pa_nil))) pa_nil))))
      (pss_cons (ps_if (PW.pt (pw_or (pt_cmpR op_ne (pe_call DZ.G h3 rfl DZ.g DZ.kp DZ.b .nil pass0 (pa_cons (pv 0) (pa_cons (pv 1) (pa_cons (pv 2) pa_nil)))) (pv 9) (nomark _))
        (pw_or1 (pt_cmpR (op_neD hr.units) (pe_call DC.G hr rfl DC.g DC.kp DC.b .nil pass0 (pa_cons (pv 0) (pa_cons (pv 1) (pa_cons (pv 2) pa_nil)))) (pe_callTy call_tuple_of (by rfl) mt boot_tuple (pa_cons (pe_slice sl_list (pv 4) po_none (po_some (pv 9))) pa_nil)) (nomark _))))) (pss_one (ps_ret pe_bl)) pss_nil)
      (pss_one (ps_ret (pe_and (pe_cmpR (op_eqD hr.units) (pe_call DN.G h5 rfl DN.g DN.kp DN.b .nil pass0 (pa_cons (pv 0) (pa_cons (pv 1) (pa_cons (pv 2) (pa_cons pe_int (pa_cons (pe_glob (v := .int 600) rfl m6 ⟨_, rfl⟩) pa_nil)))))) (pe_callTy call_tuple_of (by rfl) mt boot_tuple (pa_cons (pv 4) pa_nil)) (nomark _))
        (pe_one (pe_cmpR op_in_rng (pe_call DO.G h3 rfl DO.g DO.kp DO.b .nil pass0 (pa_cons (pv 0) (pa_cons (pv 1) (pa_cons (pv 2) pa_nil)))) (pe_callTy cr_range1 (by rfl) mr (by decide +kernel) (pa_cons (pe_fld (pv 1) rfl) pa_nil)) (by rfl))))))))), ?_⟩
    obtain ⟨dx, es⟩ := id S
    obtain ⟨kvs, ra, e1, e2, e3, e4⟩ := Ho.get (p := b.ff + f) (by have := b.bd; omega) (by have := b.bd; omega)
    refine ⟨_, rfl, _, rfl, sa, dx, _, rfl, es, zip_no (by decide +kernel), _, rfl, sa, b, f, rfl, S, h, .ref ra, rfl, (by rw [← e2]; exact DGet.k (k := Sum.inl (b.ff + f)) e1), Nat.zero_le _, fun fo hfo => ?_⟩
    have s1 := same_upd (o := .lst []) hfo
    refine ⟨_, _, rfl, ?_⟩
    refine ⟨75, rfl, by decide, by decide, for_range (lo := 0) (n := (75 : Int).toNat) (fun i σ' H' => ∃ y5 y6 y7 y8, σ' = [some (.ref h), some (.ref sa), some (.int f), some (.ref ra), some (.ref fo), y5, y6, y7, y8, none] ∧ Same H H' ∧ H' fo = some (.lst (((List.range i).flatMap fun i => part cs b f i).map V.int)))
      ⟨none, none, none, none, rfl, s1, upd_same⟩ ?_ ?_⟩
    · rintro i σ' H' hi ⟨y5, y6, y7, y8, rfl, s2, efo⟩
      have hi75 : i < 75 := hi
      have ez : (0 : Int) + ((i : Nat) : Int) = ((i : Nat) : Int) := by omega
      rw [ez]
      refine qa _ H' h sa fo ra f i b cs y6 y7 y8 none fl0 fl1 hi75 (S.same s2) (Ho.same s2) (same_seqT s2 e3) fun y7 y8 H2 s3 => ?_
      refine qb _ H2 h sa fo ra f i b cs y7 y8 none _ fl0 fl1 hi75 ((S.same s2).same s3) ((Ho.same s2).same s3) (s3 _ _ efo) (by rw [part_all Ho.2]; omega) fun H3 f4 e5 => ⟨_, _, _, _, rfl, fun c o e => ?_, ?_⟩
      · exact f4.at (s3 _ _ (s2 _ _ e)) (by simp [ne_of_none e hfo])
      · rw [e5, List.range_succ, List.flatMap_append]
        congr 3
        simp
    · rintro σ' H' ⟨y5, y6, y7, y8, rfl, s2, efo⟩
      have efo' : H' fo = some (.lst (((List.range 75).flatMap fun i => part cs b f i).map V.int)) := efo
      have S2 := S.same s2
      have Ho2 := Ho.same s2
      have hc0 := row_at (l := rowAt cs (b.ff + f)) (s := 0) (by omega)
      have hsz := sizeN_in cs b f
      have esz : (if (if (600 : Int) < (rowAt cs (b.ff + f)).getD 0 0 then (600 : Int) else (rowAt cs (b.ff + f)).getD 0 0) > 0 then (if (600 : Int) < (rowAt cs (b.ff + f)).getD 0 0 then (600 : Int) else (rowAt cs (b.ff + f)).getD 0 0) else 0) = sizeN cs b f := by
        unfold sizeN cellN
        split <;> split <;> (try split) <;> (try split) <;> omega
      refine ⟨_, rfl, ra, _, _, _, rfl, rfl, same_seqT s2 e3, hc0, _, _, rfl, _, _, rfl, ?_⟩
      rw [esz]
      have eN : sizeN cs b f = (((sizeN cs b f).toNat : Nat) : Int) := by omega
      refine ⟨_, rfl, _, rfl, _, rfl, h, sa, f, b, cs, rfl, fl0, fl1, b.hb.1, S2, Ho2, _, rfl, rfl, _, rfl, ite2 (fun hc => ?_) (fun _ => ?_)⟩
      · rw [decide_eq_true (rfl : V.int (sizeN cs b f) = V.int (sizeN cs b f))] at hc
        cases hc
      refine ⟨_, rfl, _, rfl, _, rfl, h, sa, f, b, cs, rfl, fl0, fl1, b.hb.1, S2, Ho2, fun H3 t3 s3 n3 et3 => ?_⟩
      refine ⟨_, rfl, _, rfl, _, rfl, fo, _, rfl, SqL.of (s3 _ _ efo'), fun p hp => ?_⟩
      have ecut : cutV (((List.range 75).flatMap fun i => part cs b f i).map V.int) none (some (sizeN cs b f)) = (cont cs b f).map V.int := by
        rw [eN, cut_to, ← List.map_take]
        congr 1
        unfold cont
        rw [nums_take Ho.2 f (by omega)]
      have s4 := same_upd (o := .lst (cutV (((List.range 75).flatMap fun i => part cs b f i).map V.int) none (some (sizeN cs b f)))) hp
      have et4 := s4 _ _ et3
      have ef4 := s4 _ _ (s3 _ _ efo')
      have ep4 : (upd H3 p (.lst (cutV (((List.range 75).flatMap fun i => part cs b f i).map V.int) none (some (sizeN cs b f))))) p = some (.lst ((cont cs b f).map V.int)) := by rw [upd_same, ecut]
      have s24 := (s2.trans s3).trans s4
      rw [ecut]
      rw [ecut] at et4 ef4 ep4 s24
      generalize upd H3 p (.lst ((cont cs b f).map V.int)) = H4 at et4 ef4 ep4 s24 ⊢
      refine ⟨p, _, rfl, .inl ⟨SqL.of ep4, fun t5 ht5 => ?_⟩⟩
      have s5 := same_upd (o := .tup ((cont cs b f).map V.int)) ht5
      refine ⟨tupI (cont cs b f), tupI (cont cs b f), tupI_dp (s5 _ _ et4), tupI_dp upd_same, shaped_ints _, shaped_ints _, false, by rw [tupI_self]; rfl, iteF ?_⟩
      have s25 := s24.trans s5
      have ef5 := s5 _ _ ef4
      generalize upd H4 t5 (.tup ((cont cs b f).map V.int)) = H5 at s25 ef5 ⊢
      refine ⟨_, rfl, _, rfl, _, rfl, h, sa, f, b, 0, 600, cs, rfl, fl0, fl1, by decide, by decide, b.hb.1, S.same s25, Ho.same s25, fun H6 t6 s6 n6 et6 => ?_⟩
      refine ⟨_, rfl, fo, _, rfl, .inl ⟨SqL.of (s6 _ _ ef5), fun t7 ht7 => ?_⟩⟩
      have e600 : numsN cs b f 0 600 = (List.range 75).flatMap fun i => part cs b f i := by
        rw [nums_take Ho.2 f (by omega), List.take_of_length_le (by rw [part_all Ho.2]; omega)]
      rw [e600] at et6
      have s7 := same_upd (o := .tup (((List.range 75).flatMap fun i => part cs b f i).map V.int)) ht7
      refine ⟨tupI _, tupI _, tupI_dp (s7 _ _ et6), tupI_dp upd_same, shaped_ints _, shaped_ints _, ?_⟩
      rw [tupI_self]
      have s27 := (s25.trans s6).trans s7
      obtain ⟨dx7, es7⟩ := S.same s27
      refine ⟨_, rfl, iteT ⟨_, rfl, _, rfl, _, rfl, h, sa, f, b, cs, rfl, fl0, fl1, S.same s27, Ho.same s27, _, rfl, sa, C, dx7, _, _, rfl, es7, T.cl, T.no _ (by decide +kernel), zip_get (i := 4) shn_nodup rfl rfl, b.u, rfl, fun p8 hp8 => ⟨_, p8, 0, b.u, rfl, rfl, upd_same, ?_⟩⟩⟩
      have ow : decide (0 ≤ ownerN cs b f ∧ ownerN cs b f < b.u) = true := decide_eq_true (by
        have := b.hu
        unfold ownerN
        split <;> omega)
      rw [ow]
      exact k _ (s27.trans (same_upd hp8))
end
end Pf

set_option Elab.async false
set_option linter.all false
set_option maxRecDepth 100000
set_option maxHeartbeats 8000000
namespace Pf
open PySem PySem.Spec PyProof.Rows L2
/-- a dict whose keys are these whole numbers -/
def KsAt (H : Hp) (D : Addr) (xs : List Int) : Prop := ∃ kvs : List (Key × V), H D = some (.dK kvs) ∧ kvs.map (·.1) = xs.map Sum.inl
def addK (xs : List Int) (x : Int) : List Int := if x ∈ xs then xs else xs ++ [x]
theorem putK_keys {kvs : List (Key × V)} {xs : List Int} (h : kvs.map (·.1) = xs.map Sum.inl) (x : Int) (v : V) : (putK kvs (Sum.inl x) v).map (·.1) = (addK xs x).map Sum.inl := by
  have hany : (kvs.any fun kv => decide (kv.1 = (Sum.inl x : Key))) = decide (x ∈ xs) := by
    have h2 : (kvs.any fun kv => decide (kv.1 = (Sum.inl x : Key))) = (kvs.map (·.1)).any fun k => decide (k = (Sum.inl x : Key)) := by rw [List.any_map]; rfl
    rw [h2, h, List.any_map]
    by_cases c : x ∈ xs
    · rw [decide_eq_true c]
      exact List.any_eq_true.mpr ⟨x, c, decide_eq_true rfl⟩
    · rw [decide_eq_false c]
      refine List.any_eq_false.mpr fun y hy => ?_
      show ¬ decide ((Sum.inl y : Key) = Sum.inl x) = true
      rw [decide_eq_false (fun z => c (by injection z with z; rw [← z]; exact hy))]
      decide
  unfold putK addK
  by_cases c : x ∈ xs
  · rw [if_pos (by rw [hany, decide_eq_true c]), if_pos c, List.map_map, ← h]
    refine List.map_congr_left fun kv _ => ?_
    show (if kv.1 = (Sum.inl x : Key) then (kv.1, v) else kv).1 = kv.1
    by_cases e : kv.1 = (Sum.inl x : Key)
    · rw [if_pos e]
    · rw [if_neg e]
  · rw [if_neg (by rw [hany, decide_eq_false c]; decide), if_neg c, List.map_append, List.map_append, h]
    rfl
theorem KsAt.same {H H' : Hp} {D : Addr} {xs : List Int} (A : KsAt H D xs) (s : Same H H') : KsAt H' D xs := by
  obtain ⟨kvs, e, h⟩ := A
  exact ⟨kvs, s _ _ e, h⟩
theorem addK_mem {xs : List Int} {x y : Int} : y ∈ addK xs x ↔ y ∈ xs ∨ y = x := by
  unfold addK
  split
  · rename_i h
    exact ⟨.inl, fun z => z.elim id fun e => by rw [e]; exact h⟩
  · rw [List.mem_append, List.mem_singleton]
theorem addK_nodup {xs : List Int} {x : Int} (h : xs.Nodup) : (addK xs x).Nodup := by
  unfold addK
  split
  · exact h
  · rename_i c
    exact List.nodup_append.mpr ⟨h, List.nodup_cons.mpr ⟨fun z => (by cases z), .nil⟩, fun a ha b hb e => c (by rw [List.mem_singleton.mp hb] at e; rw [← e]; exact ha)⟩
theorem addK_len (xs : List Int) (x : Int) : (addK xs x).length ≤ xs.length + 1 := by
  unfold addK
  split
  · omega
  · rw [List.length_append]; exact Nat.le_refl _
/-- the same numbers, each once and ascending -/
theorem asc_eq {ys zs : List Int} (h1 : ys.Nodup) (h2 : zs.Nodup) (p1 : ys.Pairwise (· ≤ ·)) (p2 : zs.Pairwise (· ≤ ·)) (h : ∀ x, x ∈ ys ↔ x ∈ zs) : ys = zs :=
  List.Perm.eq_of_pairwise (le := (· ≤ ·)) (fun a b _ _ x y => Int.le_antisymm x y) p1 p2 ((List.perm_ext_iff_of_nodup h1 h2).mpr h)
theorem named_props (cs : List Ch) (b : Sh) : (namedL cs b b.f.toNat).Nodup ∧ (namedL cs b b.f.toNat).Pairwise (· ≤ ·) := by
  have h : (namedL cs b b.f.toNat).Pairwise (· < ·) := by
    unfold namedL
    refine List.pairwise_map.mpr ((List.Pairwise.sublist List.filter_sublist List.pairwise_lt_range).imp fun h => ?_)
    omega
  exact ⟨h.imp fun z => by omega, h.imp fun z => by omega⟩
theorem files_in {cs : List Ch} {b : Sh} {x : Int} (h : x ∈ filesN cs b) : 0 ≤ x ∧ x < b.f := by
  unfold filesN rowsL at h
  obtain ⟨y, hy, rfl⟩ := List.mem_map.mp h
  obtain ⟨i, hi, e⟩ := List.mem_filterMap.mp hy
  cases er : rowN cs b ((i : Nat) : Int) with
  | none => rw [er] at e; cases e
  | some z =>
  rw [er] at e
  have e' : (((i : Nat) : Int), z) = y := Option.some.inj e
  subst e'
  unfold rowN at er
  split at er
  · split at er
    · cases er
    · have ez := Option.some.inj er
      have hf := b.hf
      rw [← ez]
      exact ⟨Int.emod_nonneg _ (by omega), Int.emod_lt_of_pos _ (by omega)⟩
  · cases er
theorem named_mem {cs : List Ch} {b : Sh} {x : Int} : x ∈ namedL cs b b.f.toNat ↔ x ∈ filesN cs b := by
  unfold namedL
  constructor
  · intro h
    obtain ⟨i, hi, rfl⟩ := List.mem_map.mp h
    exact of_decide_eq_true (List.mem_filter.mp hi).2
  · intro h
    obtain ⟨h0, h1⟩ := files_in h
    refine List.mem_map.mpr ⟨x.toNat, List.mem_filter.mpr ⟨List.mem_range.mpr (by omega), decide_eq_true ?_⟩, by omega⟩
    rw [show ((x.toNat : Nat) : Int) = x by omega]
    exact h
end Pf

set_option Elab.async false
set_option linter.all false
set_option maxRecDepth 100000
set_option maxHeartbeats 8000000
namespace Pf
open PySem PySem.Spec PyProof.Rows L2
abbrev NLn : List Str := ["_law_home", "_law_shape", "_law_number_here", "_law_plate", "_law_place", "_law_value", "_law_told", "_law_files"]
theorem scLn : FnScope NLn ["_law_home", "_law_shape"] (defScope sLan) := ⟨rfl, rfl, rfl, by decide +kernel, rfl, by decide +kernel, by decide +kernel⟩
abbrev stLn (j : Nat) : Stmt := (defBody sLan).getD j (.Pass ⟨0, 0, 0, 0⟩)
abbrev XLn (P : Program) (w : World) (K : PySem.W.Frag) (mg : Str → Option Value) (base : Heap) (f : Addr) (cdv : Value) (A : Around) (outer : List Env) (s : Shared) (H0 : Hp) (E : XK) : Cx := (cxOf CX0 P w K mg base NLn "_law_are_names" (defScope sLan) f cdv A outer s H0 E).nox
theorem ne_bl {a b : Bool} (h : a = b) : (!decide (V.bl a = V.bl b)) = false := by rw [h, decide_eq_true rfl]; rfl
theorem ne_in {a b : Int} (h : a = b) : (!decide (V.int a = V.int b)) = false := by rw [h, decide_eq_true rfl]; rfl
theorem div_mod (v : Int) : (v - 1) / 475254 * 475254 + (v - 1) % 475254 + 1 = v := by omega
section
variable {P : Program} {w : World} {K : PySem.W.Frag} {mg : Str → Option Value} {base : Heap} {C : Addr} {f : Addr} {cdv : Value} {A : Around} {outer : List Env} {s : Shared} {H0 : Hp} {E : XK}
theorem ln_0 {rest : List Stmt} {u : TS} {fC fD fI : Addr} {dC dD dI : FuncData} (T : ShTxt K C) (MC : Me P w K mg base 1 C "dir_cell" ["self", "number"] (spCellN C fun _ => 1) fC dC) (DD : Df P w K mg base CX0 2 "dir_at" ["home", "shape", "number"] (spDa K C) fD dD) (DI : Df P w K mg base CX0 3 "is_dir" ["home", "shape", "number"] (spIsD K C) fI dI)
    {tn : Tok} (mN : mg "NAMES" = some (.int 475254 tn)) (mr : mg "range" = none) (hr : Room 4 (A.deeper (envOfC "_law_are_names" (defScope sLan) s.heap.objs.size f cdv))) (hu : PSs (XLn P w K mg base f cdv A outer s H0 E) rest u) :
    ∃ t, PSs (XLn P w K mg base f cdv A outer s H0 E) (stLn 0 :: rest) t ∧ ∀ (D : Ends) H (h sa : Addr) (b : Sh) (cs : List Ch), ShAt C H sa b → HoAt K H h cs b.pl →
      (∀ y2 y3 y4 y5 y6 H', Same H H' → u D [some (.ref h), some (.ref sa), y2, y3, y4, y5, y6, none] H') →
      t D (start NLn [.ref h, .ref sa]) H := by
  have nd := scLn.nd
  have h1 : Room 1 _ := hr.mono (by decide)
  have h2 : Room 2 _ := hr.mono (by decide)
  have h3 : Room 3 _ := hr.mono (by decide)
  refine ⟨_, pss_cons (ps_for PassesOwn.never rfl (pi_range2 (by rfl) mr (pa_cons pe_int (pa_cons (pe_fld (pv 1) rfl) pa_nil))) (pg_name (i := 2) nd rfl (.inl rfl))
      (pss_cons (ps_asg (pe_meth (pv 1) T.cl MC.m MC.G h1 MC.b .nil pass0 (pa_cons (pv 2) pa_nil)) (pg_tup rfl (pgs_cons (pg_name (i := 3) nd rfl (.inl rfl)) (pgs_cons (pg_name (i := 4) nd rfl (.inl rfl)) pgs_nil))))
      (pss_cons (ps_set (i := 5) nd rfl (.inl rfl) (pe_ix ix_tup (pe_dget (hu_of hr) (pv 0) (pv 3) (fun _ _ => rfl)) (pv 4) (fun _ _ => rfl)))
      (pss_cons (ps_set (i := 6) nd rfl (.inl rfl) (pe_call DD.G h2 rfl DD.g DD.kp DD.b .nil pass0 (pa_cons (pv 0) (pa_cons (pv 1) (pa_cons (pv 2) pa_nil)))))
      (pss_cons (ps_if (PW.pt (pw_or (pt_cmpR op_ne (pe_cmpR op_isN (pv 6) pe_non (nomark _)) (pe_cmpR op_lt (pv 5) pe_int (nomark _)) (nomark _))
          (pw_or1 (pt_cmpR op_ne (pe_call DI.G h3 rfl DI.g DI.kp DI.b .nil pass0 (pa_cons (pv 0) (pa_cons (pv 1) (pa_cons (pv 2) pa_nil)))) (pe_cmpR op_ge (pv 5) pe_int (nomark _)) (nomark _))))) (pss_one (ps_ret pe_bl)) pss_nil)
      (pss_one (ps_if (PW.pt (pw_and (pt_cmpR op_notN (pv 6) pe_non (nomark _))
          (pw_and1 (PW.pt (pw_or (pt_cmpR op_ne (pe_op op_add (pe_op op_add (pe_op op_mul (pe_ix ix_tup (pv 6) pe_int (fun _ _ => rfl)) (pe_glob (v := .int 475254) rfl mN ⟨_, rfl⟩)) (pe_ix ix_tup (pv 6) pe_int (fun _ _ => rfl))) pe_int) (pv 5) (nomark _))
            (pw_or1 (pt_not (pt_chain op_le op_lt pe_int (pe_ix ix_tup (pv 6) pe_int (fun _ _ => rfl)) (pe_glob (v := .int 475254) rfl mN ⟨_, rfl⟩))))))))) (pss_one (ps_ret pe_bl)) pss_nil)))))))
    hu, fun D H h sa b cs S Ho nx => ?_⟩
  obtain ⟨dx, es⟩ := id S
  have hbd := b.hd
  refine ⟨_, rfl, sa, C, dx, _, _, rfl, es, T.cl, T.no _ (by decide +kernel), zip_get (i := 0) shn_nodup rfl rfl, 2, b.d, rfl, ⟨by decide, by decide, by omega, by omega⟩, for_range (lo := 2) (n := (b.d - 2).toNat) (fun i σ' H' => ∃ y2 y3 y4 y5 y6, σ' = [some (.ref h), some (.ref sa), y2, y3, y4, y5, y6, none] ∧ Same H H') ⟨none, none, none, none, none, rfl, Same.refl _⟩ ?_ ?_⟩
  · rintro i σ' H' hi ⟨y2, y3, y4, y5, y6, rfl, s1⟩
    have S1 := S.same s1
    have Ho1 := Ho.same s1
    obtain ⟨dx1, es1⟩ := id S1
    generalize hn : (2 : Int) + ((i : Nat) : Int) = n
    have n2 : 2 ≤ n := by omega
    have nd' : n < b.d := by omega
    have hp0 : 0 ≤ 1 + n / 8 := by omega
    have hbb := b.bd
    have hp1 : 1 + n / 8 < b.pl := by
      have : 1 + n / 8 ≤ b.fr := by unfold Sh.fr; omega
      omega
    refine ⟨_, rfl, sa, dx1, _, rfl, es1, zip_no (by decide +kernel), _, rfl, sa, b, n, rfl, S1, fun t ht => ?_⟩
    have s2 := same_upd (o := .tup [.int (1 + n / 8), .int (n % 8)]) ht
    have et : (upd H' t (.tup [.int (1 + n / 8), .int (n % 8)])) t = some (.tup [.int (1 + n / 8), .int (n % 8)]) := upd_same
    generalize upd H' t (.tup [.int (1 + n / 8), .int (n % 8)]) = H2 at s2 et ⊢
    have S2 := S1.same s2
    have Ho2 := Ho1.same s2
    obtain ⟨kvs, ra, e1, e2, e3, e4⟩ := Ho2.get hp0 hp1
    have es8 : n % 8 = (((n % 8).toNat : Nat) : Int) := by omega
    have hcell := row_at (l := rowAt cs (1 + n / 8)) (s := (n % 8).toNat) (by omega)
    rw [← es8] at hcell
    refine ⟨t, _, rfl, SqT.of et, rfl, _, _, rfl, _, _, rfl, rfl, _, rfl, _, rfl, h, .ref ra, rfl, (by rw [← e2]; exact DGet.k (k := Sum.inl (1 + n / 8)) e1), _, rfl, ra, _, _, _, rfl, rfl, e3, hcell, ?_⟩
    have hdir : dirN cs b n = if cellN cs (1 + n / 8) (n % 8).toNat < 1 then none else some ((cellN cs (1 + n / 8) (n % 8).toNat - 1) / 475254, (cellN cs (1 + n / 8) (n % 8).toNat - 1) % 475254) := by
      unfold dirN
      rw [if_pos ⟨n2, nd'⟩]
    have hcv : (rowAt cs (1 + n / 8)).getD (n % 8).toNat 0 = cellN cs (1 + n / 8) (n % 8).toNat := rfl
    rw [hcv]
    generalize cellN cs (1 + n / 8) (n % 8).toNat = v at hdir
    have n01 : decide (n = 0 ∨ n = 1) = false := decide_eq_false (by omega)
    refine ⟨_, rfl, _, rfl, _, rfl, h, sa, n, b, cs, rfl, S2, Ho2, fun hno H3 s3 => ?_, fun x hx H3 u9 s3 hu9 eu => ?_⟩
    · have hv : v < 1 := by
        rw [hdir] at hno
        by_cases c : v < 1
        · exact c
        · rw [if_neg c] at hno; cases hno
      have s13 := (s1.trans s2).trans s3
      have t1 : decide (V.non = V.non) = decide (v < 1) := by rw [decide_eq_true hv]; rfl
      have t2 : (decide (n = 0 ∨ n = 1) || (dirN cs b n).isSome) = decide ((1 : Int) ≤ v) := by rw [n01, hno, decide_eq_false (show ¬ (1 : Int) ≤ v by omega)]; rfl
      refine ⟨_, rfl, rfl, _, rfl, _, _, rfl, rfl, rfl, _, rfl, ite2 (fun hc => absurd ((ne_bl t1).symm.trans hc) (by decide)) (fun _ => ?_)⟩
      refine ⟨_, rfl, _, rfl, _, rfl, h, sa, n, b, cs, rfl, S.same s13, Ho.same s13, fun H4 s4 => ⟨_, rfl, _, _, rfl, rfl, rfl, _, rfl, ite2 (fun hc => absurd ((ne_bl t2).symm.trans hc) (by decide)) (fun _ => ?_)⟩⟩
      exact ⟨_, rfl, rfl, _, rfl, iteF (iteF ⟨_, _, _, _, _, rfl, s13.trans s4⟩)⟩
    · have hv : ¬ v < 1 := fun c => by rw [hdir, if_pos c] at hx; cases hx
      have hx' : x = ((v - 1) / 475254, (v - 1) % 475254) := by
        rw [hdir, if_neg hv] at hx
        exact (Option.some.inj hx).symm
      subst hx'
      have s13 := (s1.trans s2).trans s3
      have t1 : decide (V.ref u9 = V.non) = decide (v < 1) := by rw [decide_eq_false hv]; rfl
      have t2 : (decide (n = 0 ∨ n = 1) || (dirN cs b n).isSome) = decide ((1 : Int) ≤ v) := by rw [n01, hx, decide_eq_true (show (1 : Int) ≤ v by omega)]; rfl
      refine ⟨_, rfl, rfl, _, rfl, _, _, rfl, rfl, rfl, _, rfl, ite2 (fun hc => absurd ((ne_bl t1).symm.trans hc) (by decide)) (fun _ => ?_)⟩
      refine ⟨_, rfl, _, rfl, _, rfl, h, sa, n, b, cs, rfl, S.same s13, Ho.same s13, fun H4 s4 => ⟨_, rfl, _, _, rfl, rfl, rfl, _, rfl, ite2 (fun hc => absurd ((ne_bl t2).symm.trans hc) (by decide)) (fun _ => ?_)⟩⟩
      have eu4 := s4 _ _ eu
      refine ⟨_, rfl, rfl, _, rfl, ite2 (fun _ => ?_) (fun hc => absurd rfl hc)⟩
      refine ⟨_, rfl, u9, _, 0, _, rfl, rfl, SqT.of eu4, atI_nat (j := 0) rfl, _, _, rfl, rfl, .inr ⟨by decide, by decide⟩, _, rfl, u9, _, 1, _, rfl, rfl, SqT.of eu4, atI_nat (j := 1) rfl, _, _, rfl, rfl, _, _, rfl, rfl, _, rfl, rfl, _, rfl, ite2 (fun hc => absurd ((ne_in (div_mod v)).symm.trans hc) (by decide)) (fun _ => ?_)⟩
      have m0 : 0 ≤ (v - 1) % 475254 := by omega
      have m1 : (v - 1) % 475254 < 475254 := by omega
      refine ⟨_, rfl, u9, _, 1, _, rfl, rfl, SqT.of eu4, atI_nat (j := 1) rfl, _, _, rfl, rfl, _, rfl, ite2 (fun _ => ?_) (fun hc => absurd (decide_eq_true m0) hc)⟩
      have e9 : (!decide ((v - 1) % 475254 < 475254)) = false := by rw [decide_eq_true m1]; rfl
      exact ⟨_, _, rfl, rfl, _, rfl, ite2 (fun hc => absurd (e9.symm.trans hc) (by decide)) (fun _ => ⟨_, _, _, _, _, rfl, s13.trans s4⟩)⟩
  · rintro σ' H' ⟨y2, y3, y4, y5, y6, rfl, s1⟩
    exact nx _ _ _ _ _ _ s1
end
end Pf

set_option Elab.async false
set_option linter.all false
set_option maxRecDepth 100000
set_option maxHeartbeats 8000000
namespace Pf
open PySem PySem.Spec PyProof.Rows L2
theorem row_back {v f : Int} (hf : 1 ≤ f) : 1 + ((v - 1) / f / 475254 * 475254 + (v - 1) / f % 475254) * f + (v - 1) % f = v := by
  have h1 : (v - 1) / f / 475254 * 475254 + (v - 1) / f % 475254 = (v - 1) / f := by omega
  rw [h1]
  have h2 := Int.mul_ediv_add_emod (v - 1) f
  rw [Int.mul_comm] at h2
  omega
section
variable {P : Program} {w : World} {K : PySem.W.Frag} {mg : Str → Option Value} {base : Heap} {C : Addr}
def spLn (K : PySem.W.Frag) (C : Addr) : Sp := fun vs H Q _ => ∃ (h sa : Addr) (b : Sh) (cs : List Ch), vs = [.ref h, .ref sa] ∧ ShAt C H sa b ∧ HoAt K H h cs b.pl ∧ ∀ H', Same H H' → Q (.bl true) H'
theorem ok_ln {f fC fD fI fR fW fN : Addr} {fd dC dD dI dR dW dN : FuncData} (F : Fun K "_law_are_names" "_law_are_names" sLan f fd) (T : ShTxt K C) (MC : Me P w K mg base 1 C "dir_cell" ["self", "number"] (spCellN C fun _ => 1) fC dC) (DD : Df P w K mg base CX0 2 "dir_at" ["home", "shape", "number"] (spDa K C) fD dD) (DI : Df P w K mg base CX0 3 "is_dir" ["home", "shape", "number"] (spIsD K C) fI dI)
    (DR : Df P w K mg base CX0 2 "row_at" ["home", "shape", "number"] (spRa K C) fR dR) (MR : Me P w K mg base 1 C "row_cell" ["self", "number"] (spCellN C Sh.fr) fW dW) (DN : Df P w K mg base CX0 4 "named_files" ["home", "shape"] (spNf K C) fN dN)
    {tn : Tok} (mN : mg "NAMES" = some (.int 475254 tn)) (mr : mg "range" = none) (mso : mg "sorted" = none) : FnOk P w K mg base CX0 5 f fd ["_law_home", "_law_shape"] (spLn K C) := by
  refine F.ok scLn (fun vs H Q E h => ?_) (fun cdv A outer s H vs Q E hr h => ?_)
  · obtain ⟨h, sa, b, cs, rfl, _⟩ := h
    rfl
  · obtain ⟨h, sa, b, cs, rfl, S, Ho, k⟩ := h
    have nd := scLn.nd
    have h1 : Room 1 _ := hr.mono (by decide)
    have h2 : Room 2 _ := hr.mono (by decide)
    have ht : ∃ t, PSs (XLn P w K mg base f cdv A outer s H E) [stLn 1, stLn 2, stLn 3] t ∧ ∀ (D : Ends) H1 y2 y3 y4 y5 y6, ShAt C H1 sa b → HoAt K H1 h cs b.pl → (∀ H', Same H1 H' → D.rt (.bl true) H') → t D [some (.ref h), some (.ref sa), y2, y3, y4, y5, y6, none] H1 := by
      refine ⟨_, pss_cons (ps_set (i := 7) nd rfl (.inl rfl) pe_dnewK)
        (pss_cons (ps_for PassesOwn.never rfl (pi_range1 (by rfl) mr (pa_cons (pe_fld (pv 1) rfl) pa_nil)) (pg_name (i := 2) nd rfl (.inl rfl))
          (pss_cons (ps_asg (pe_tup (pa_cons (pe_call DR.G h2 rfl DR.g DR.kp DR.b .nil pass0 (pa_cons (pv 0) (pa_cons (pv 1) (pa_cons (pv 2) pa_nil)))) (pa_cons (pe_meth (pv 1) T.cl MR.m MR.G h1 MR.b .nil pass0 (pa_cons (pv 2) pa_nil)) pa_nil)))
              (pg_tup rfl (pgs_cons (pg_name (i := 6) nd rfl (.inl rfl)) (pgs_cons (pg_tup rfl (pgs_cons (pg_name (i := 3) nd rfl (.inl rfl)) (pgs_cons (pg_name (i := 4) nd rfl (.inl rfl)) pgs_nil))) pgs_nil))))
          (pss_cons (ps_if (pt_cmpR op_ne (pe_cmpR op_isN (pv 6) pe_non (nomark _)) (pe_cmpR op_lt (pe_ix ix_tup (pe_dget (hu_of hr) (pv 0) (pv 3) (fun _ _ => rfl)) (pv 4) (fun _ _ => rfl)) pe_int (nomark _)) (nomark _)) (pss_one (ps_ret pe_bl)) pss_nil)
          (pss_one (ps_if (pt_cmpR op_notN (pv 6) pe_non (nomark _))
            (pss_cons (ps_dput (hu_of hr) (pv 7) (pe_ix ix_tup (pv 6) pe_int (fun _ _ => rfl)) pe_bl rfl)
            (pss_one (ps_if (pt_cmpR op_ne (pe_op op_add (pe_op op_add pe_int (pe_op op_mul (pe_op op_add (pe_op op_mul (pe_ix ix_tup (pv 6) pe_int (fun _ _ => rfl)) (pe_glob (v := .int 475254) rfl mN ⟨_, rfl⟩)) (pe_ix ix_tup (pv 6) pe_int (fun _ _ => rfl))) (pe_fld (pv 1) rfl))) (pe_ix ix_tup (pv 6) pe_int (fun _ _ => rfl)))
              (pe_ix ix_tup (pe_dget (hu_of hr) (pv 0) (pv 3) (fun _ _ => rfl)) (pv 4) (fun _ _ => rfl)) (nomark _)) (pss_one (ps_ret pe_bl)) pss_nil))) pss_nil)))))
        (pss_one (ps_ret (pe_cmpR (op_eqD hr.units) (pe_call DN.G hr rfl DN.g DN.kp DN.b .nil pass0 (pa_cons (pv 0) (pa_cons (pv 1) pa_nil))) (pe_callB (call_sortedDI rfl) (by rfl) mso (by decide +kernel) (pa_cons (pv 7) pa_nil)) (nomark _))))), fun D H1 y2 y3 y4 y5 y6 S1 Ho1 kk => ?_⟩
      obtain ⟨dx, es⟩ := id S1
      have hbr := b.hr
      have hbb := b.bd
      have hbf := b.hf
      refine fun D0 hD0 => ?_
      have sD := same_upd (o := .dK []) hD0
      refine ⟨_, rfl, sa, C, dx, _, _, rfl, sD _ _ es, T.cl, T.no _ (by decide +kernel), zip_get (i := 1) shn_nodup rfl rfl, b.r, rfl, by omega, by omega, for_range (lo := 0) (n := b.r.toNat) (fun i σ' H' => ∃ y2 y3 y4 y5 y6 xs, σ' = [some (.ref h), some (.ref sa), y2, y3, y4, y5, y6, some (.ref D0)] ∧ Same H1 H' ∧ KsAt H' D0 xs ∧ xs.Nodup ∧ xs.length ≤ i ∧ ∀ y, y ∈ xs ↔ y ∈ (rowsL cs b i).map fun x => x.2.2.2) ⟨_, _, _, _, _, [], rfl, sD, ⟨[], upd_same, rfl⟩, .nil, Nat.le_refl _, fun y => ⟨fun z => (by cases z), fun z => (by simp [rowsL] at z)⟩⟩ ?_ ?_⟩
      · rintro i σ' H' hi ⟨y2, y3, y4, y5, y6, xs, rfl, s1, Ks, hnd, hxl, hmem⟩
        have Si := S1.same s1
        have Hoi := Ho1.same s1
        have ez : (0 : Int) + ((i : Nat) : Int) = ((i : Nat) : Int) := by omega
        rw [ez]
        generalize hn : ((i : Nat) : Int) = n
        have n0 : 0 ≤ n := by omega
        have n1 : n < b.r := by omega
        have hp0 : 0 ≤ b.fr + n / 8 := by omega
        have hp1 : b.fr + n / 8 < b.pl := by
          have : b.fr + n / 8 ≤ b.fu := by unfold Sh.fu; omega
          omega
        have es8 : n % 8 = (((n % 8).toNat : Nat) : Int) := by omega
        obtain ⟨kvs0, ra0, _, _, _, e40⟩ := Hoi.get hp0 hp1
        have hcell := row_at (l := rowAt cs (b.fr + n / 8)) (s := (n % 8).toNat) (by omega)
        rw [← es8] at hcell
        have hcv : (rowAt cs (b.fr + n / 8)).getD (n % 8).toNat 0 = cellN cs (b.fr + n / 8) (n % 8).toNat := rfl
        rw [hcv] at hcell
        have hrow : rowN cs b n = if cellN cs (b.fr + n / 8) (n % 8).toNat < 1 then none else some ((cellN cs (b.fr + n / 8) (n % 8).toNat - 1) / b.f / 475254, (cellN cs (b.fr + n / 8) (n % 8).toNat - 1) / b.f % 475254, (cellN cs (b.fr + n / 8) (n % 8).toNat - 1) % b.f) := by
          unfold rowN
          rw [if_pos ⟨n0, n1⟩]
        generalize cellN cs (b.fr + n / 8) (n % 8).toNat = v at hrow hcell
        have hrm : ∀ y : Int, y ∈ ((rowsL cs b (i + 1)).map fun x => x.2.2.2) ↔ y ∈ ((rowsL cs b i).map fun x => x.2.2.2) ∨ (∃ x, rowN cs b n = some x ∧ y = x.2.2) := fun y => by
          rw [rows_more, hn]
          cases rowN cs b n with
          | none => simp
          | some x => simp
        refine ⟨_, rfl, _, rfl, _, rfl, h, sa, n, b, cs, rfl, Si, Hoi, fun hno H2 s2 => ?_, fun x hx H2 u9 s2 hu9 eu => ?_⟩
        · have hv : v < 1 := by
            rw [hrow] at hno
            by_cases c : v < 1
            · exact c
            · rw [if_neg c] at hno; cases hno
          obtain ⟨dx2, es2⟩ := Si.same s2
          refine ⟨_, rfl, sa, dx2, _, rfl, es2, zip_no (by decide +kernel), _, rfl, sa, b, n, rfl, Si.same s2, fun t ht => ⟨(by show 2 ≤ sizeLine; decide), fun t2 ht2 => ?_⟩⟩
          have s3 := same_upd (o := .tup [.int (b.fr + n / 8), .int (n % 8)]) ht
          have s4 := same_upd (o := .tup [V.non, .ref t]) ht2
          have et := s4 _ _ (upd_same (H := H2) (a := t) (o := .tup [.int (b.fr + n / 8), .int (n % 8)]))
          have s24 := (s2.trans s3).trans s4
          obtain ⟨kvs, ra, e1, e2, e3, e4⟩ := (Hoi.same s24).get hp0 hp1
          have t1 : decide (V.non = V.non) = decide (v < 1) := by rw [decide_eq_true hv]; rfl
          refine ⟨t2, _, rfl, SqT.of upd_same, rfl, _, _, rfl, _, _, rfl, t, _, rfl, SqT.of et, rfl, _, _, rfl, _, _, rfl, rfl, rfl, ?_⟩
          refine ⟨_, rfl, rfl, _, rfl, _, rfl, h, .ref ra, rfl, (by rw [← e2]; exact DGet.k (k := Sum.inl (b.fr + n / 8)) e1), _, rfl, ra, _, _, _, rfl, rfl, e3, hcell, _, _, rfl, rfl, rfl, _, rfl, ite2 (fun hc => absurd ((ne_bl t1).symm.trans hc) (by decide)) (fun _ => ?_)⟩
          refine ⟨_, rfl, rfl, _, rfl, iteF ⟨_, _, _, _, _, xs, rfl, s1.trans s24, Ks.same s24, hnd, by omega, fun y => ?_⟩⟩
          rw [hmem, hrm, hno]
          exact ⟨.inl, fun z => z.elim id fun ⟨x, e, _⟩ => by cases e⟩
        · have hv : ¬ v < 1 := fun c => by rw [hrow, if_pos c] at hx; cases hx
          have hx' : x = ((v - 1) / b.f / 475254, (v - 1) / b.f % 475254, (v - 1) % b.f) := by
            rw [hrow, if_neg hv] at hx
            exact (Option.some.inj hx).symm
          obtain ⟨dx2, es2⟩ := Si.same s2
          refine ⟨_, rfl, sa, dx2, _, rfl, es2, zip_no (by decide +kernel), _, rfl, sa, b, n, rfl, Si.same s2, fun t ht => ⟨(by show 2 ≤ sizeLine; decide), fun t2 ht2 => ?_⟩⟩
          have s3 := same_upd (o := .tup [.int (b.fr + n / 8), .int (n % 8)]) ht
          have s4 := same_upd (o := .tup [V.ref u9, .ref t]) ht2
          have et := s4 _ _ (upd_same (H := H2) (a := t) (o := .tup [.int (b.fr + n / 8), .int (n % 8)]))
          have s24 := (s2.trans s3).trans s4
          have eu4 := s4 _ _ (s3 _ _ eu)
          obtain ⟨kvs, ra, e1, e2, e3, e4⟩ := (Hoi.same s24).get hp0 hp1
          have t1 : decide (V.ref u9 = V.non) = decide (v < 1) := by rw [decide_eq_false hv]; rfl
          refine ⟨t2, _, rfl, SqT.of upd_same, rfl, _, _, rfl, _, _, rfl, t, _, rfl, SqT.of et, rfl, _, _, rfl, _, _, rfl, rfl, rfl, ?_⟩
          refine ⟨_, rfl, rfl, _, rfl, _, rfl, h, .ref ra, rfl, (by rw [← e2]; exact DGet.k (k := Sum.inl (b.fr + n / 8)) e1), _, rfl, ra, _, _, _, rfl, rfl, e3, hcell, _, _, rfl, rfl, rfl, _, rfl, ite2 (fun hc => absurd ((ne_bl t1).symm.trans hc) (by decide)) (fun _ => ?_)⟩
          refine ⟨_, rfl, rfl, _, rfl, ite2 (fun _ => ?_) (fun hc => absurd rfl hc)⟩
          obtain ⟨kv0, ek0, hk0⟩ := Ks.same s24
          have hkl : kv0.length = xs.length := by
            have := congrArg List.length hk0
            rw [List.length_map, List.length_map] at this
            exact this
          refine ⟨_, rfl, _, rfl, u9, _, 2, _, rfl, rfl, SqT.of eu4, atI_nat (j := 2) rfl, D0, _, rfl, DPut.k (k := Sum.inl x.2.2) ek0 (by rw [sizeLine_eq]; omega), ?_⟩
          have hnu : u9 ≠ D0 := fun z => by
            obtain ⟨k', ek, _⟩ := Ks
            rw [z, ek] at hu9
            cases hu9
          have s14 := s1.trans s24
          have hkeys := putK_keys hk0 x.2.2 (.bl true)
          generalize putK kv0 (Sum.inl x.2.2) (.bl true) = kv1 at hkeys ⊢
          have sH : Same H1 (upd (upd (upd H2 t (.tup [.int (b.fr + n / 8), .int (n % 8)])) t2 (.tup [V.ref u9, .ref t])) D0 (.dK kv1)) := fun c o e => by
            rw [upd_ne (ne_of_none e hD0)]
            exact s14 _ _ e
          have eu5 : (upd (upd (upd H2 t (.tup [.int (b.fr + n / 8), .int (n % 8)])) t2 (.tup [V.ref u9, .ref t])) D0 (.dK kv1)) u9 = some (.tup [.int x.1, .int x.2.1, .int x.2.2]) := by rw [upd_ne hnu]; exact eu4
          have ek5 : (upd (upd (upd H2 t (.tup [.int (b.fr + n / 8), .int (n % 8)])) t2 (.tup [V.ref u9, .ref t])) D0 (.dK kv1)) D0 = some (.dK kv1) := upd_same
          generalize upd (upd (upd H2 t (.tup [.int (b.fr + n / 8), .int (n % 8)])) t2 (.tup [V.ref u9, .ref t])) D0 (.dK kv1) = H5 at sH eu5 ek5 ⊢
          obtain ⟨kvs6, ra6, f1, f2, f3, f4⟩ := (Ho1.same sH).get hp0 hp1
          obtain ⟨dx6, es6⟩ := S1.same sH
          have hsum : 1 + (x.1 * 475254 + x.2.1) * b.f + x.2.2 = v := by rw [hx']; exact row_back b.hf.1
          refine ⟨_, rfl, u9, _, 0, _, rfl, rfl, SqT.of eu5, atI_nat (j := 0) rfl, _, _, rfl, rfl, .inr ⟨by decide, by decide⟩, _, rfl, u9, _, 1, _, rfl, rfl, SqT.of eu5, atI_nat (j := 1) rfl, _, _, rfl, rfl, _, rfl, sa, C, dx6, _, _, rfl, es6, T.cl, T.no _ (by decide +kernel), zip_get (i := 2) shn_nodup rfl rfl, _, _, rfl, rfl, .inr ⟨by omega, by omega⟩, _, _, rfl, rfl, _, rfl, u9, _, 2, _, rfl, rfl, SqT.of eu5, atI_nat (j := 2) rfl, _, _, rfl, rfl, ?_⟩
          refine ⟨_, rfl, _, rfl, h, .ref ra6, rfl, (by rw [← f2]; exact DGet.k (k := Sum.inl (b.fr + n / 8)) f1), _, rfl, ra6, _, _, _, rfl, rfl, f3, hcell, rfl, _, rfl, ite2 (fun hc => absurd ((ne_in hsum).symm.trans hc) (by decide)) (fun _ => ?_)⟩
          refine ⟨_, _, _, _, _, addK xs x.2.2, rfl, sH, ⟨kv1, ek5, hkeys⟩, addK_nodup hnd, by have := addK_len xs x.2.2; omega, fun y => ?_⟩
          rw [addK_mem, hmem, hrm, hx]
          exact ⟨fun z => z.elim .inl fun e => .inr ⟨x, rfl, e⟩, fun z => z.elim .inl fun ⟨x', e, e2⟩ => .inr (by rw [e2, ← Option.some.inj e])⟩
      · rintro σ' H' ⟨y2, y3, y4, y5, y6, xs, rfl, s1, Ks, hnd, hxl, hmem⟩
        obtain ⟨kv0, ek0, hk0⟩ := Ks
        refine ⟨_, rfl, _, rfl, h, sa, b, cs, rfl, S1.same s1, Ho1.same s1, fun L H2 s2 hL eL => ?_⟩
        refine ⟨_, rfl, D0, kv0, xs, rfl, .inl (s2 _ _ ek0), hk0, by omega, fun ys p hp1 hp2 hp => ?_⟩
        have s3 := same_upd (o := .lst (ys.map V.int)) hp
        have hnp := named_props cs b
        have hys : ys = namedL cs b b.f.toNat := asc_eq (hp1.nodup_iff.mpr hnd) hnp.1 hp2 hnp.2 fun y => by
          rw [hp1.mem_iff, hmem, named_mem]
          rfl
        have dp : ∀ (r : Addr) (Hz : Hp) (ns : List Int), Hz r = some (.lst (ns.map V.int)) → Dp K Hz (.ref r) (.list (ns.map PyData.int)) := fun r Hz ns e => .lst (SqL.of e) (dps_ints _)
        refine ⟨_, _, dp L _ _ (s3 _ _ eL), dp p _ ys upd_same, shaped_list (lay_ints _) (by rw [dep_ints]; decide), shaped_list (lay_ints _) (by rw [dep_ints]; decide), ?_⟩
        rw [hys]
        have ev : PyData.eqv (.list ((namedL cs b b.f.toNat).map PyData.int)) (.list ((namedL cs b b.f.toNat).map PyData.int)) = true := SeqAt.eqv_refl _ (by simp only [PyData.canLay0]; exact lay_ints _)
        rw [ev]
        exact kk _ ((s1.trans s2).trans (by rw [← hys]; exact s3))
    obtain ⟨tr, hrr, qr⟩ := ht
    obtain ⟨t0, h0, q0⟩ := ln_0 T MC DD DI mN mr hr hrr
    exact ⟨t0, h0, q0 _ H h sa b cs S Ho fun y2 y3 y4 y5 y6 H' s' => qr _ H' _ _ _ _ _ (S.same s') (Ho.same s') fun H2 s2 => k _ (s'.trans s2)⟩
end
end Pf

set_option Elab.async false
set_option linter.all false
set_option maxRecDepth 100000
set_option maxHeartbeats 8000000
namespace Pf
open PySem PySem.Spec PyProof.Rows L2
abbrev NAn : List Str := ["_law_draw", "_law_shape", "_law_kinds", "_law_home", "_law_plate", "_law_one"]
theorem scAn : FnScope NAn ["_law_draw", "_law_shape"] (defScope sAny) := ⟨rfl, rfl, rfl, by decide +kernel, rfl, by decide +kernel, by decide +kernel⟩
theorem DrawAt.ne {K : PySem.W.Frag} {H : Hp} {a sc x : Addr} {ns : List Int} (D : DrawAt K H a sc ns) (h : H x = none) : x ≠ a := fun z => by
  obtain ⟨i, e⟩ := D.1
  rw [z, e] at h
  cases h
section
variable {P : Program} {w : World} {K : PySem.W.Frag} {mg : Str → Option Value} {base : Heap} {C : Addr}
def spAn (K : PySem.W.Frag) (C : Addr) : Sp := fun vs H Q _ => ∃ (a sc sa : Addr) (ss : List Int) (b : Sh), vs = [.ref a, .ref sa] ∧ DrawAt K H a sc ss ∧ ShAt C H sa b ∧ ∀ H' h cs, But [a] H H' → DrawAt K H' a sc ss → H h = none → HoAt K H' h cs b.pl → Q (.ref h) H'
theorem ok_any {f fP : Addr} {fd dP : FuncData} (F : Fun K "_law_any" "_law_any" sAny f fd) (T : ShTxt K C) (DP : Df P w K mg base CX0 3 "_law_pick" ["_law_draw", "_law_items"] (spPick K) fP dP) {tn tw : Tok} (mN : mg "NAMES" = some (.int 475254 tn)) (mW : mg "WIDTH" = some (.int 8 tw)) (mr : mg "range" = none) (mt : mg "tuple" = none) : FnOk P w K mg base CX0 4 f fd ["_law_draw", "_law_shape"] (spAn K C) := by
  refine F.ok scAn (fun vs H Q E h => ?_) (fun cdv A outer s H vs Q E hr h => ?_)
  · obtain ⟨a, sc, sa, ss, b, rfl, _⟩ := h
    rfl
  · obtain ⟨a, sc, sa, ss, b, rfl, Dr, S, k⟩ := h
    have nd := scAn.nd
    have h3 : Room 3 _ := hr.mono (by decide)
    refine ⟨_, pss_cons (ps_set (i := 2) nd rfl (.inr rfl) (pe_lst (pa_cons pe_int (pa_cons pe_int (pa_cons pe_int (pa_cons pe_int (pa_cons pe_int (pa_cons (pe_un un_neg pe_int) (pa_cons (pe_fld (pv 1) rfl) (pa_cons (pe_op op_add (pe_fld (pv 1) rfl) pe_int)
        (pa_cons (pe_op op_add pe_int (pe_op op_mul pe_int (pe_glob (v := .int 475254) rfl mN ⟨_, rfl⟩))) (pa_cons (pe_op op_add pe_int (pe_glob (v := .int 475254) rfl mN ⟨_, rfl⟩)) (pa_cons (pe_op op_add (pe_op op_mul (pe_op op_mul pe_int (pe_glob (v := .int 475254) rfl mN ⟨_, rfl⟩)) (pe_fld (pv 1) rfl)) pe_int) (pa_cons (pe_op op_pow pe_int pe_int) (pa_cons pe_int pa_nil)))))))))))))))
      (pss_cons (ps_set (i := 3) nd rfl (.inl rfl) pe_dnewK)
      (pss_cons (ps_for PassesOwn.never rfl (pi_range1 (by rfl) mr (pa_cons (pe_fld (pv 1) rfl) pa_nil)) (pg_name (i := 4) nd rfl (.inl rfl))
        (pss_one (ps_dput (hu_of hr) (pv 3) (pv 4) (pe_callTy call_tuple_of (by rfl) mt boot_tuple (pa_cons
          (pe_lc (own := [("_law_one", 5)]) (g := gName 5) (tt := tYes) (te := tCall (spPick K) [] E0 (tCons (tVar 0) (tCons (tVar 2) tNil))) rfl nd (pi_range1 (by rfl) mr (pa_cons (pe_glob (v := .int 8) rfl mW ⟨_, rfl⟩) pa_nil)) (blkOk_by (N := NAn) (sc := defScope sAny) (by decide +kernel))
            (fun _ _ _ _ _ => pg_name (i := 5) nd rfl (.inl rfl)) (fun _ _ _ _ _ => pts_nil)
            (fun _ _ _ _ _ => pe_call DP.G h3 rfl DP.g DP.kp DP.b .nil pass0 (pa_cons (pv 0) (pa_cons (pv 2) pa_nil)))) pa_nil)) rfl)))
      (pss_one (ps_ret (pv 3))))), ?_⟩
    obtain ⟨dx, es⟩ := id S
    have hbb := b.bd
    refine ⟨_, rfl, _, rfl, sa, C, dx, _, _, rfl, es, T.cl, T.no _ (by decide +kernel), zip_get (i := 3) shn_nodup rfl rfl, _, rfl, sa, C, dx, _, _, rfl, es, T.cl, T.no _ (by decide +kernel), zip_get (i := 3) shn_nodup rfl rfl, _, _, rfl, rfl, _, _, rfl, rfl, .inr ⟨by decide, by decide⟩, _, _, rfl, rfl, _, _, rfl, rfl, _, _, rfl, rfl, .inr ⟨by decide, by decide⟩, _, rfl, sa, C, dx, _, _, rfl, es, T.cl, T.no _ (by decide +kernel), zip_get (i := 2) shn_nodup rfl rfl, ?_⟩
    have hbf := b.hf
    refine ⟨_, _, rfl, rfl, .inr ⟨by omega, by omega⟩, _, _, rfl, rfl, _, _, rfl, rfl, ⟨by decide, by decide, by decide⟩, (by show 13 ≤ sizeLine; decide), fun q hq => ?_⟩
    generalize hxs : ([V.int 0, V.int 0, V.int 1, V.int 2, V.int 3, _, _, _, _, _, _, _, V.int 40] : List V) = xs
    have hint : ∀ v ∈ xs, ∃ n : Int, v = .int n := by
      intro v hv
      rw [← hxs] at hv
      simp only [List.mem_cons, List.not_mem_nil, or_false] at hv
      rcases hv with h | h | h | h | h | h | h | h | h | h | h | h | h <;> exact ⟨_, h⟩
    have hne : xs ≠ [] := by rw [← hxs]; exact List.cons_ne_nil _ _
    clear hxs
    obtain ⟨j0, ea0⟩ := Dr.1
    have nqa : q ≠ a := Dr.ne hq
    have mkB : ∀ {H' : Hp}, (∀ c o, c ≠ a → H c = some o → H' c = some o) → But [a] H H' := fun h c o z => by
      by_cases hc : c ∈ [a]
      · rw [off_in hc] at z; cases z
      · rw [off_out hc] at z
        exact h c o (by simpa using hc) z
    have nsa : sa ≠ a := fun z => by rw [z, ea0] at es; cases es
    refine fun hh hhh => ?_
    have nhh : H hh = none := by
      by_cases e : hh = q
      · rw [e, upd_same] at hhh; cases hhh
      · rw [upd_ne e] at hhh; exact hhh
    have nhq : hh ≠ q := fun e => by rw [e, upd_same] at hhh; cases hhh
    have nha : hh ≠ a := Dr.ne nhh
    refine ⟨_, rfl, sa, C, dx, _, _, rfl, (by rw [upd_ne (ne_of_none es nhh), upd_ne (ne_of_none es hq)]; exact es), T.cl, T.no _ (by decide +kernel), zip_get (i := 9) shn_nodup rfl rfl, b.pl, rfl, by omega, by omega, for_range (lo := 0) (n := b.pl.toNat) (fun i σ' H' => ∃ y4 y5 cs, σ' = [some (.ref a), some (.ref sa), some (.ref q), some (.ref hh), y4, y5] ∧ (∀ c o, c ≠ a → H c = some o → H' c = some o) ∧ (∃ j : Int, H' a = some (.lst [.ref sc, .int j])) ∧ H' q = some (.lst xs) ∧ DcAt K H' hh cs ∧ HW cs ((i : Nat) : Int)) ⟨none, none, [], rfl, fun c o n e => by rw [upd_ne (ne_of_none e nhh), upd_ne (ne_of_none e hq)]; exact e, ⟨j0, by rw [upd_ne nha.symm, upd_ne nqa.symm]; exact ea0⟩, by rw [upd_ne nhq.symm, upd_same], ⟨[], upd_same, rfl, fun _ z => by cases z⟩, ⟨List.nodup_nil, fun p h1 h2 => by omega, by show (0 : Int) ≤ ((0 : Nat) : Int); omega⟩⟩ ?_ ?_⟩
    · rintro i σ' H' hi ⟨y4, y5, cs, rfl, hB, ⟨j1, ea1⟩, eq1, hdc, hw⟩
      refine ⟨8, rfl, by decide, by decide, fun D hD => lc_range (lo := 0) (n := (8 : Int).toNat) (fun m H2 => ∃ ns : List Int, ns.length = m ∧ H2 D = some (.lst (ns.map V.int)) ∧ (∀ c o, c ≠ a → H' c = some o → H2 c = some o) ∧ ∃ j : Int, H2 a = some (.lst [.ref sc, .int j])) ⟨[], rfl, upd_same, fun c o _ e => by rw [upd_ne (ne_of_none e hD)]; exact e, ⟨j1, by rw [upd_ne (fun z => by rw [← z, ea1] at hD; cases hD)]; exact ea1⟩⟩ ?_ ?_⟩
      · rintro m H2 hm ⟨ns, hl, eD, hB2, hj2⟩
        have nDa : D ≠ a := fun z => by rw [z, ea1] at hD; cases hD
        have hB02 : ∀ c o, c ≠ a → H c = some o → H2 c = some o := fun c o n e => hB2 c o n (hB c o n e)
        have D2 := Dr.next (mkB hB02) hj2
        refine ⟨rfl, tyes_go ⟨_, rfl, _, rfl, a, q, sc, ss, xs, rfl, D2, hB2 _ _ nqa eq1, nqa, hne, fun v H3 hv b3 D3 => ?_⟩⟩
        obtain ⟨n, rfl⟩ := hint v hv
        have eD3 := b3.at eD (by simp [nDa])
        refine ⟨_, eD3, by rw [List.length_map, sizeLine_eq]; have : m < 8 := hm; omega, ns ++ [n], by rw [List.length_append, hl]; rfl, by rw [upd_same, List.map_append]; rfl, fun c o n9 e => ?_, ?_⟩
        · have nc : c ≠ D := fun z => by rw [z, hD] at e; cases e
          rw [upd_ne nc]
          exact b3.at (hB2 c o n9 e) (by simp [n9])
        · obtain ⟨j3, e3⟩ := D3.1
          exact ⟨j3, by rw [upd_ne nDa.symm]; exact e3⟩
      · rintro H2 ⟨ns, hl, eD, hB2, ⟨j2, ea2⟩⟩
        have hl8 : ns.length = 8 := hl
        refine ⟨D, _, rfl, .inl ⟨SqL.of eD, fun t ht => ?_⟩⟩
        obtain ⟨ts, e1, e2, e3⟩ := hdc
        have e1' := hB2 _ _ nha e1
        have s3 := same_upd (o := .tup (ns.map V.int)) ht
        have e13 := s3 _ _ e1'
        have et : (upd H2 t (.tup (ns.map V.int))) t = some (.tup (ns.map V.int)) := upd_same
        have hlen := hw.len
        have e4 : (tk ts).length = cs.length := by rw [← e2]; unfold tk tc; rw [List.length_map, List.length_map]
        have ez : (0 : Int) + ((i : Nat) : Int) = ((i : Nat) : Int) := by omega
        have f9 : Fr [hh] (upd H2 t (.tup (ns.map V.int))) (upd (upd H2 t (.tup (ns.map V.int))) hh (.dK (putK (tk ts) (Sum.inl ((i : Nat) : Int)) (.ref t)))) := .put (by simp) fun u z => by rw [e13] at z; cases z; rfl
        have hTp : Same (Tp H') (Tp (upd (upd H2 t (.tup (ns.map V.int))) hh (.dK (putK (tk ts) (Sum.inl ((i : Nat) : Int)) (.ref t))))) := fun c o z => by
          obtain ⟨z1, z2⟩ := tp_some z
          have nca : c ≠ a := fun y => by rw [y, ea1] at z1; cases z1; cases z2
          exact f9.tp _ _ (tp_at (s3 _ _ (hB2 _ _ nca z1)) z2)
        have nta : t ≠ a := fun z => by rw [z, ea2] at ht; cases ht
        have nth : t ≠ hh := fun z => by rw [z, e1'] at ht; cases ht
        rw [ez]
        refine ⟨_, rfl, _, rfl, hh, _, rfl, DPut.k (k := Sum.inl ((i : Nat) : Int)) e13 (by rw [e4, sizeLine_eq]; omega), ⟨_, _, putC cs ((i : Nat) : Int) ns, rfl, fun c o n9 e => ?_, ⟨j2, ?_⟩, ?_, ⟨putT ts ((i : Nat) : Int) (.ref t) ns, by rw [upd_same, putT_tk], by rw [putT_tc, e2], putT_all (fun t' z => dp_same hTp _ _ (e3 t' z)) (dp_same f9.tp _ _ (row_tp (.tup (SqT.of et) (dps_ints _))))⟩, hw.more hl8⟩⟩
        · rw [upd_ne (ne_of_none e nhh)]
          exact s3 _ _ (hB2 _ _ n9 (hB c o n9 e))
        · rw [upd_ne nha.symm]
          exact s3 _ _ ea2
        · rw [upd_ne nhq.symm]
          exact s3 _ _ (hB2 _ _ nqa eq1)
    · rintro σ' H' ⟨y4, y5, cs, rfl, hB, hj, eq1, hdc, hw⟩
      have ep : ((b.pl.toNat : Nat) : Int) = b.pl := by omega
      rw [ep] at hw
      exact ⟨_, rfl, k H' hh cs (mkB hB) (Dr.next (mkB hB) hj) nhh ⟨hdc, hw⟩⟩
end
end Pf

set_option Elab.async false
set_option linter.all false
set_option maxRecDepth 100000
set_option maxHeartbeats 4000000
namespace L2
open PySem PySem.Spec PyProof.Rows
section
variable {X : Cx} {CX : CXT} {k : Nat} {f C : Addr} {fd : FuncData} {ps : List Str} {sp : Sp} {E : St → XK} {m : Str} {pos apos : Pos} {e o : Expr} {es : List Expr} {ta : TE} {t : TA}
/-- a method that may raise, the wish told by the slots -/
theorem pe_methX {pl : Sem Bool} (he : PE X o ta) (c : Cls X.K C) (hm : Meth X.K C m f) (F : FnOk X.prog X.w X.K X.mg X.base CX k f fd ps sp) (hr : Room k X.A) (hb : Binds X.K fd ps []) (hx : ∀ σ, PassesAt CX X σ (E σ)) (ha : PA X (e :: es) t)
    (hs : starEach (e :: es) X.env = (false, eval e X.env) :: starEach es X.env := by rfl) (hp : (backTo pos (starEach es X.env)).any (·.1) = false := by rfl)
    (ht : eval (.Call (.Attribute o m apos) (e :: es) [] pos) X.env = (do let ov ← eval o X.env; standAt apos.atName; let (f, first) ← holding [ov] (getMethod ov m pl); callWith pos f first (backTo pos (starEach (e :: es) X.env)) (backToKw pos (keywordEach [] X.env))) := by rfl) :
    PE X (.Call (.Attribute o m apos) (e :: es) [] pos) (L2H.tMethH C m sp E ta t) := ⟨fun pins s σ H Q I h => PySem.W.methodCall_KW (pl := pl) (thn (he.run pins s σ H _ I h) fun u s1 ⟨x, H1, I1, rx, a, dx, fs, ex, ea, l, q⟩ => by
      subst ex
      cases (show u = Value.ref a from rx)
      refine getmeth_ok I1 ea c hm l (PySem.W.callWith_K (first := [.ref a]) (h₀ := X.base) I.ok.mod.kin hm.kp (thn (ha.run pos pins s1 σ H1 _ I1 q) fun us s2 ⟨vs, H2, I2, r, q2⟩ => ⟨I2.kIn, ?_⟩) hs hp)
      exact run_fnS (us := .ref a :: us) (vs := .ref a :: vs) F hr hb (hx σ) I2 (.cons rfl r) q2) ht⟩
/-- a method without arguments, called while an error is handled -/
theorem pe_meth0H {pl : Sem Bool} (he : PE X o ta) (c : Cls X.K C) (hm : Meth X.K C m f) (F : L2H.FnH X.prog X.w X.K X.mg X.base CX k f fd ps sp) (hr : L2H.RoomH k X.A) (hc : L2H.HotC X) (hb : Binds X.K fd ps []) (hx : ∀ σ, PassesAt CX X σ (E σ))
    (ht : eval (.Call (.Attribute o m apos) [] [] pos) X.env = (do let ov ← eval o X.env; standAt apos.atName; let (f, first) ← holding [ov] (getMethod ov m pl); callWith pos f first (backTo pos (starEach [] X.env)) (backToKw pos (keywordEach [] X.env))) := by rfl) :
    PE X (.Call (.Attribute o m apos) [] [] pos) (L2H.tMethH C m sp E ta tNil) := ⟨fun pins s σ H Q I h => PySem.W.methodCall_KW (pl := pl) (thn (he.run pins s σ H _ I h) fun u s1 ⟨x, H1, I1, rx, a, dx, fs, ex, ea, l, q⟩ => by
      subst ex
      cases (show u = Value.ref a from rx)
      refine getmeth_ok I1 ea c hm l (PySem.W.callWith_K0 (first := [.ref a]) I1.kIn hm.kp ?_)
      exact L2H.run_fnH (us := [.ref a]) (vs := [.ref a]) F hr hc hb (hx σ) I1 (.cons rfl .nil) q) ht⟩
end
section
variable {P : Program} {w : World} {K : PySem.W.Frag} {mg : Str → Option Value} {base : Heap}
/-- a def whose error has no other one behind it -/
theorem Fun.okN {x qual : Str} {st : Stmt} {f : Addr} {fd : FuncData} {N ps : List Str} {k : Nat} {sp : Sp} (F : Fun K x qual st f fd) (S : FnScope N ps (defScope st)) (len : ∀ vs H Q E, sp vs H Q E → vs.length = ps.length)
    (body : ∀ (cdv : Value) (A : Around) (outer : List Env) (s : Shared) (H : Hp) (vs : List V) (Q : VK) (E : XK), Room k (A.deeper (envOfC qual (defScope st) s.heap.objs.size f cdv)) → sp vs H Q E →
      ∃ t, PSs (cxOf (L2N.CX P w) P w K mg base N qual (defScope st) f cdv A outer s H E) (defBody st) t ∧ t { nx := fun _ H' => Q .non H', rt := Q } (start N vs) H) : FnOk P w K mg base (L2N.CX P w) (k + 1) f fd ps sp := by
  obtain ⟨_, _, _, _, _, _, cdv, _, _, rfl, lk, hcd⟩ := F.ex
  exact fn_of lk hcd S len (body cdv)
/-- a def called while an error is handled -/
theorem Fun.okH {x qual : Str} {st : Stmt} {f : Addr} {fd : FuncData} {N ps : List Str} {k : Nat} {sp : Sp} (F : Fun K x qual st f fd) (S : FnScope N ps (defScope st)) (len : ∀ vs H Q E, sp vs H Q E → vs.length = ps.length)
    (body : ∀ (cdv : Value) (A : Around) (outer : List Env) (s : Shared) (H : Hp) (vs : List V) (Q : VK) (E : XK) (p : Addr × Obj), L2H.Hot1 A p → L2H.RoomH k (A.deeper (envOfC qual (defScope st) s.heap.objs.size f cdv)) → sp vs H Q E →
      ∃ t, PSs (L2H.cxH CX0 P w K mg base N qual (defScope st) f cdv A outer s H E p) (defBody st) t ∧ t { nx := fun _ H' => Q .non H', rt := Q } (start N vs) H) : L2H.FnH P w K mg base CX0 (k + 1) f fd ps sp := by
  obtain ⟨_, _, _, _, _, _, cdv, _, _, rfl, lk, hcd⟩ := F.ex
  exact L2H.fn_ofH lk hcd S len (body cdv)
theorem passLN {X : Cx} : Passes (L2N.CX X.prog X.w) X E0 := fun _ _ _ _ _ _ _ h => by
  obtain ⟨_, _, _, _, _, _, _, _, _, _, _, _, z⟩ := h; exact z.elim
theorem pass0H {X : Cx} {E : St → XK} : ∀ σ, PassesAt CX0 X σ (E σ) := fun _ _ _ _ _ _ _ h => h.elim
theorem takesN {X : Cx} : L2N.Takes X (fun _ _ _ _ => False) := fun _ _ x => by
  obtain ⟨_, _, _, _, _, _, _, _, _, _, _, _, _, _, _, _, _, z⟩ := x
end
end L2

set_option Elab.async false
set_option linter.all false
set_option maxRecDepth 100000
set_option maxHeartbeats 4000000
/-! # an error class of the program two steps beneath Exception, whose __init__ keeps one word: self.word = word -/
namespace PySem
namespace BsX
open PySem.W PySem.Calls PyProof.Rows PySem.HandSPX Builtin Builtin.ObjectAttr
abbrev tail2 (S : Addr) : List Value := .ref S :: ESX.exTail
def argsI (p1 p2 : Pos) : Arguments := ⟨[], [⟨"self", none, p1⟩, ⟨"word", none, p2⟩], none, [], [], none, []⟩
def bodyI (q1 q2 q3 q4 : Pos) : List Stmt := [.Assign [.Attribute (.Name "self" q1) "word" q2] (.Name "word" q3) q4]
def scopeI : Scope := ⟨.function, [(PySem.Str.ofString "self", .local), (PySem.Str.ofString "word", .local)], false, false, []⟩
/-- all that is written of the class at C, of StoreError at S, and of the class's __init__ at fI -/
structure Txt (K : Frag) (C S fI : Addr) : Prop where
  cls : ∃ nm q N bs sn sub ab col dd k0 k1 k2 k3 k5, K.lookup C = some (excClassObj nm q C N bs (tail2 S) true sn sub ab col dd k0 k1 k2 k3 k5 "Exception.__new__")
  sa : findIn K (.ref C) "__setattr__" = some (some (.builtin "object.__setattr__"))
  noW : findIn K (.ref C) "word" = some none
  iC : findIn K (.ref C) "__init__" = some (some (.ref fI))
  tI : typeIn K (.ref fI) = some (.type "function")
  kC : keepIn K (.ref C) = true
  exC : subIn K (.ref C) (.type "BaseException") = some true
  tyC : typeIn K (.ref C) = some (.type "type")
  fn : ∃ oc od doc pm an cdv ct osl p1 p2 q1 q2 q3 q4, K.lookup fI = some ⟨oc, od, .func (fnOf "__init__" "BadShape.__init__" (argsI p1 p2) (bodyI q1 q2 q3 q4) scopeI .none .none doc pm an cdv ct), osl⟩ ∧ codeIn K cdv "BadShape.__init__" = true
theorem tail2_has (S : Addr) (T : String) : (tail2 S).contains (.type T) = ESX.exTail.contains (.type T) := by
  show (Value.ref S :: ESX.exTail).contains (.type T) = _
  rw [List.contains_cons]; rfl
section
variable {prog : Program} {w : World} {A : Around} {R : Result → Shared → Prop}
/-- x.name = v, the first field of an error that is being made -/
theorem first_field {hp : Heap} {g : Array GenState} {dr : Drawn} {t : Nat} {os : OsState} {K : Frag} {nm : Str} {tk : Tok} {v : Value} {x C S : Addr} {fs : Array Value} {c : ClassData} (X : K.In hp) (hx : hp.get? x = some { cls := .ref C, data := .fields fs })
    (hc : clsIn K C = some c) (hm : c.mro = .ref C :: tail2 S) (hd : c.hasDict = true) (no : findIn K (.ref C) nm = some none)
    (end' : ∀ h' tk' dx, (∀ b o, b ≠ x → hp.get? b = some o → h'.get? b = some o) → hp.objs.size ≤ dx → dx ≠ x → h'.get? x = some { cls := .ref C, dict := some dx, data := .fields fs } → h'.Ns1 dx (fun y => if y = nm then some v else none) →
      R (.ok (.ret .none)) ⟨h', g, dr, tk', os⟩) :
    codeAny (model prog w) A (.call (.builtin "object.__setattr__") ⟨[.ref x, .str nm tk, v], []⟩) R ⟨hp, g, dr, t, os⟩ := by
  have inst : InstAt hp x { cls := .ref C, data := .fields fs } C none := ⟨hx, rfl, rfl, trivial⟩
  have out : x ≠ hp.objs.size := Nat.ne_of_lt (Heap.lt_size hx)
  have so := F.store_object
  have obj : mroIn K C (.type "object") = some true := by
    unfold mroIn; rw [hc, Option.bind_some, hm, if_neg (show ¬ (List.isEmpty (Value.ref C :: tail2 S) = true) from Bool.false_ne_true), List.contains_cons, tail2_has]; rfl
  have isO : Looks (model prog w) hp (isInstance (.ref x) (.type "object")) true := inst.type.andThen (looks_mroIn X obj)
  refine codeAny_call_builtin so.slot.plain so.entry (@W.check_slot (model prog w) _ _ ⟨hp, g, dr, t, os⟩ "object.__setattr__" "object" "__setattr__" (.ref x) [.str nm tk, v] [] _ so.kind so.split isO (so.args (.ref x) (.str nm tk) v) ?_)
  have row : Looks (model prog w) hp (mroOf (.ref C)) c.mro := (looks_clsIn X hc).andThen .now
  have free : Looks (model prog w) hp (storeTaker? none) none := .now
  have its : Looks (model prog w) hp (classData C) c := looks_clsIn X hc
  have pass : refuseLoop (.ref x) "__setattr__" c.mro = pure () := by rw [hm, refuseLoop_ref, refuseLoop_ref]; exact F.store_Exception.passes _
  rw [osa_eq, refuse_eq]
  refine wpAny_bind (wpAny_bind (inst.type.at (wpAny_bind (row.at ?_))))
  rw [pass]
  refine wpAny_pure (wpAny_bind (inst.type.at (wpAny_bind ((looks_findIn X no).at (wpAny_bind (free.at ?_))))))
  obtain ⟨a1, a2, a3, a4, a5, a6, a7, a8, a9, a10, a11⟩ := c
  dsimp only at hd
  subst hd
  show wpAny _ _ (storeInOwnDict (.ref x) (.ref C) (.str nm tk) nm v false) _ _ _
  unfold storeInOwnDict ownDictForStores
  repeat (first | with_reducible refine its.at ?_ | with_reducible refine store_in_new ?_ ?_ | with_reducible refine wpAny_loadPart_at hx ?_ | wp_step)
  · exact ⟨_, #[], _, (Heap.get?_update_ne _ _ _ _ out.symm).trans (Heap.get?_push_at rfl rfl), rfl, fun e he => absurd he (by simp), fun _ => rfl⟩
  · intro h' tk' ns kb
    have hx1 : (hp.push { cls := .type "dict", data := .dict #[] }).get? x = some { cls := .ref C, data := .fields fs } := Heap.get?_push_of_some _ hx
    exact end' h' tk' hp.objs.size (fun b o nb ho => (kb.2 b (Nat.ne_of_lt (Heap.lt_size ho))).trans ((Heap.get?_update_ne _ _ _ _ nb).trans (Heap.get?_push_of_some _ ho))) (Nat.le_refl _) out.symm ((kb.2 x out).trans (Heap.get?_update_self _ hx1 rfl)) ns
theorem load1 {M : Model} {B : Around} {Er : Value → Shared → Prop} {sh : Shared} {fn nam : Str} {sc : Scope} {loc fa : Addr} {cv val : Value} {m : Str → Option Value} {ps : Pos} {Q : Value → Shared → Prop} (n : sh.heap.Ns loc m) (e : m nam = some val) (q : Q val sh)
    (k1 : sc.kind = .function := by rfl) (k2 : (envOfC fn sc loc fa cv).kindOf nam = some .local := by rfl) (k3 : (nam == ("__debug__" : Str)) = false := by decide) : wpAny M B (eval (.Name nam ps) (envOfC fn sc loc fa cv)) Q Er sh := wpAny_Name (wpAny_loadName_local k1 k2 n e q) k3
/-- what BadShape(v) leaves: the error at e, its own dict at d -/
structure Made (h h' : Heap) (e C d : Addr) (v : Value) : Prop where
  keep : ∀ b o, h.get? b = some o → h'.get? b = some o
  eNew : h.objs.size ≤ e
  obj : ∃ oe vs, h'.get? e = some oe ∧ oe.cls = .ref C ∧ oe.dict = some d ∧ oe.data = .fields vs ∧ vs[1]? = some .none ∧ vs[2]? = some .none
  dNew : h.objs.size ≤ d
  ne : d ≠ e
  ns : h'.Ns1 d (fun y => if y = "word" then some v else none)
theorem run_init {s : Shared} {K : Frag} {C S fI : Addr} (T : Txt K C S fI) {x t0 : Addr} {v : Value} (X : K.In s.heap) (lim : s.heap.NoLimit) (hx : s.heap.get? x = some (excO C t0)) (room : A.depth < recursionLimit)
    (go : ∀ h' tk dx, (∀ b o, b ≠ x → s.heap.get? b = some o → h'.get? b = some o) → h'.get? x = some { cls := .ref C, dict := some dx, data := .fields #[.ref t0, .none, .none, .none, .bool false, .none] } → s.heap.objs.size ≤ dx → dx ≠ x → h'.Ns1 dx (fun y => if y = "word" then some v else none) →
      R (.ok (.ret .none)) { s with heap := h', toks := tk }) :
    codeAny (model prog w) A (.call (.ref fI) ⟨[.ref x, v], []⟩) R s := by
  obtain ⟨oc, od, doc, pm, an, cdv, ct, osl, p1, p2, q1, q2, q3, q4, ho, hcd⟩ := T.fn
  obtain ⟨nm, q, N, bs, sn, sub, ab, col, dd, k0, k1, k2, k3, k5, hC⟩ := T.cls
  have hc : clsIn K C = some ⟨nm, bs, .ref C :: tail2 S, N, q, true, sn, sub, ab, col, false⟩ := by unfold clsIn; rw [hC] <;> rfl
  refine Att.call_fn (binds := [("self", .ref x), ("word", v)]) X lim ho hcd room (BindsTo.of_eq (by first | rfl | with_unfolding_all rfl)) (by first | rfl | decide | with_unfolding_all rfl) (fun s1 IC => ?_) rfl rfl rfl
  obtain ⟨h1, tk1, rfl⟩ := IC.toInCall.same
  have kp := IC.toInCall.keep
  have ns := IC.toInCall.ns
  have hx1 := kp _ _ hx
  show wpAny _ _ (execs _ _) _ _ _
  refine wpAny_execs_cons (plainObj_wpAny_Assign_Attribute ?_)
  refine load1 (val := v) ns (by first | rfl | with_unfolding_all rfl | kernel_rfl) (load1 (val := .ref x) ns (by first | rfl | with_unfolding_all rfl | kernel_rfl) ?_)
  refine set_plain (X.keeps kp) (ox := excO C t0) (od := none) ⟨hx1, rfl, rfl, trivial⟩ T.sa ?_
  refine first_field (X.keeps kp) hx1 hc rfl rfl T.noW fun h3 tk3 dx k3 dn dne hx3 ns3 => ?_
  show wpAny _ _ (execs _ _) _ _ _
  exact wpAny_execs_nil (go h3 tk3 dx (fun b o nb e => k3 b o nb (kp b o e)) hx3 (Nat.le_of_lt (Nat.lt_of_lt_of_le ns.lt dn)) dne ns3)
theorem run_made {s : Shared} {K : Frag} {C S fI : Addr} (T : Txt K C S fI) {v : Value} (X : K.In s.heap) (lim : s.heap.NoLimit) (room : A.depth + 1 < recursionLimit)
    (go : ∀ h' tk e d, Made s.heap h' e C d v → R (.ok (.ret (.ref e))) { s with heap := h', toks := tk }) : codeAny (model prog w) A (.call (.ref C) ⟨[v], []⟩) R s := by
  obtain ⟨nm, q, N, bs, sn, sub, ab, col, dd, k0, k1, k2, k3, k5, hC⟩ := T.cls
  obtain ⟨hp, g, dr, tk, os⟩ := s
  have kp : ∀ b o, hp.get? b = some o → ((hp.push (kdv_tup [v])).push (excO C hp.objs.size)).get? b = some o := fun b o z => Heap.get?_push_of_some _ (Heap.get?_push_of_some _ z)
  have at' : ((hp.push (kdv_tup [v])).push (excO C hp.objs.size)).get? (hp.objs.size + 1) = some (excO C hp.objs.size) := by heap_get
  have one : [v].length ≤ sizeLine := by rw [sizeLine_eq]; exact (by decide : 1 ≤ 16777216)
  refine call_own F.excBase_Exception (tail2_has S) (X _ _ hC) (looks_findIn X T.iC) (fun self => bind_fn X self T.tI) one ?_
  refine run_init (s := ⟨(hp.push (kdv_tup [v])).push (excO C hp.objs.size), g, dr, tk, os⟩) T (X.keeps kp) (lim.keeps kp) at' ?_ fun h' tk' dx k' hx dn dne ns => ?_
  · show A.depth + 1 < recursionLimit
    exact room
  · have z : hp.objs.size + 1 + 1 ≤ dx := by
      first | exact dn | (simpa only [Heap.size_push] using dn)
    exact ⟨rfl, go h' tk' (hp.objs.size + 1) dx ⟨fun b o z => k' b o (Nat.ne_of_lt (Nat.lt_succ_of_lt (Heap.lt_size z))) (kp b o z), Nat.le_succ _, ⟨_, _, hx, rfl, rfl, rfl, rfl, rfl⟩, (show hp.objs.size ≤ dx by omega), dne, ns⟩⟩
end
end BsX
end PySem
namespace L2
open PySem PySem.Spec PyProof.Rows
section
variable {X : Cx} {C S fI : Addr}
def tBs (C : Addr) (ta : TA) : St → Hp → XK → Prop := fun σ H Q => ta σ H fun vs H1 => ∃ v, vs = [v] ∧ ∀ d, H1 d = none → Q (.ref C) (some d) (upd H1 d (.xd [(("word" : Str), v)]))
theorem pmk_bs {a : Expr} {ta : TA} {p pos : Pos} {k : Nat} (T : PySem.BsX.Txt X.K C S fI) (gC : X.mg "BadShape" = some (.ref C)) (hr : Room k X.A) (ha : PA X [a] ta) (hg : Gl X "BadShape" := by rfl)
    (he : starEach (a :: []) X.env = (false, eval a X.env) :: starEach [] X.env := by rfl) (hpl : (backTo pos (starEach [] X.env)).any (·.1) = false := by rfl) : L2N.PMk X (.Call (.Name "BadShape" p) [a] [] pos) (tBs C ta) := by
  intro pins s σ H Q I h
  refine wpAny_Call_Name_kw (ld_glob I hg gC ?_)
  refine PySem.W.callWith_K (h₀ := X.base) I.ok.mod.kin T.kC (thn (ha.run pos pins s σ H _ I h) fun us s1 ⟨vs, H1, I1, r1, v, ev, q1⟩ => ⟨I1.kIn, ?_⟩) he hpl
  subst ev
  cases r1 with
  | @cons _ v' _ us' rv rn =>
    cases rn
    show wpAny _ _ (call (.ref C) [v']) _ _ _
    have lim := I1.nolimit
    obtain ⟨hp, g, dr, tk, os⟩ := s1
    refine wpAny_call (PySem.BsX.run_made T I1.kIn lim (by have := hr.dp; omega) fun h' tk' e d M => ?_)
    show L2N.MkP X pins σ Q (.ref e) ⟨h', g, dr, tk', os⟩
    obtain ⟨oe, fv, hoe, hc, hd, hdat, h1, h2⟩ := M.obj
    obtain ⟨G, g1, g2⟩ := restrict h' fun b => decide (b ≠ e)
    have gk : ∀ b, b ≠ e → G.get? b = h'.get? b := fun b nb => g1 b (decide_eq_true nb)
    have ge : G.get? e = none := g2 e (by simp)
    have fld : ∀ f : Str, RelO (List.lookup f [(("word" : Str), v)]) (if f = "word" then some v' else none) := fun f => by
      by_cases hw : f = "word"
      · rw [if_pos hw, hw, show List.lookup ("word" : Str) [(("word" : Str), v)] = some v by simp [List.lookup]]; exact rv
      · rw [if_neg hw, show List.lookup f [(("word" : Str), v)] = none by simp [List.lookup, show (f == ("word" : Str)) = false by simpa using hw]]; trivial
    have ob : ObjOk X.prog X.w (upd H1 d (.xd [(("word" : Str), v)])) G d (.xd [(("word" : Str), v)]) := ⟨_, M.ns.at (fun o z => (gk d M.ne).trans z), fld⟩
    have J : Inv X pins σ (upd H1 d (.xd [(("word" : Str), v)])) ⟨G, g, dr, tk', os⟩ := I1.laid (t' := tk') (fun b o z => (gk b (Nat.ne_of_lt (Nat.lt_of_lt_of_le (Heap.lt_size z) M.eNew))).trans (M.keep b o z)) M.dNew ob
    refine ⟨e, oe, fv, ⟨G, g, dr, tk', os⟩, _, .ref C, some d, rfl, J, fun b o z => ?_, ge, hoe, ⟨hc, hd, fun vs z => by rw [hdat] at z; cases z; exact h2⟩, hdat, h1, ?_, rfl, I1.bare, raises_own T.exC T.tyC, q1 d (I1.hok.fresh M.dNew)⟩
    · by_cases hb : b = e
      · have z' : G.get? b = some o := z
        rw [hb, ge] at z'; cases z'
      · exact (gk b hb).symm.trans z
    · rw [upd_ne (Ne.symm M.ne)]; exact I1.hok.fresh M.eNew
theorem ps_bs {a : Expr} {ta : TA} {W : WX} {p pos pos2 : Pos} {k : Nat} (hc : X.calm = true) (T : PySem.BsX.Txt X.K C S fI) (gC : X.mg "BadShape" = some (.ref C)) (hr : Room k X.A) (tk : L2N.Takes X W) (ha : PA X [a] ta) (hg : Gl X "BadShape" := by rfl)
    (he : starEach (a :: []) X.env = (false, eval a X.env) :: starEach [] X.env := by rfl) (hpl : (backTo pos (starEach [] X.env)).any (·.1) = false := by rfl) :
    PS X (.Raise (some (.Call (.Name "BadShape" p) [a] [] pos)) none pos2) (fun _ σ H => tBs C ta σ H fun cls d H' => W cls d σ H') 
    := L2N.ps_raise hc tk (pmk_bs T gC hr ha hg he hpl)
end
end L2

set_option Elab.async false
set_option linter.all false
set_option maxRecDepth 100000
set_option maxHeartbeats 8000000
namespace Pf
open PySem PySem.Spec PyProof.Rows L2
structure BsTx (K : PySem.W.Frag) (mg : Str → Option Value) (CB S fI : Addr) : Prop where
  T : PySem.BsX.Txt K CB S fI
  g : mg "BadShape" = some (.ref CB)
/-- the names of a shape's numbers, and their ranges -/
def shW : List Str := ["dirs", "rows", "files", "blocks", "users"]
def shLo : List Int := [2, 1, 1, 1, 1]
def shHi : List Int := [40, 60, 40, 200, 4]
def spShX (K : PySem.W.Frag) (C CB : Addr) : Sp := fun vs H Q E => ∃ (s dx : Addr) (v0 v1 v2 v3 v4 : V) (ds : List PyData) (j : Nat) (wd : Str), vs = [.ref s, v0, v1, v2, v3, v4] ∧ H s = some (.ins C dx []) ∧ DpAll K H [v0, v1, v2, v3, v4] ds ∧ j < 5 ∧
  (∀ i < j, wholeB (ds.getD i .none) (some (shLo.getD i 0)) (some (shHi.getD i 0)) = true) ∧ wholeB (ds.getD j .none) (some (shLo.getD j 0)) (some (shHi.getD j 0)) = false ∧ shW[j]? = some wd ∧
  ∀ H' dd, Same H H' → H dd = none → H' dd = some (.xd [(("word" : Str), .str wd)]) → E (.ref CB) (some dd) H'
section
variable {P : Program} {w : World} {K : PySem.W.Frag} {mg : Str → Option Value} {base : Heap} {C CB S fI : Addr}
theorem ok_shX {f fW aR t0 t1 t2 t3 t4 : Addr} {fd dW : FuncData} (F : Fun K "__init__" "Shape.__init__" sShI f fd) (R : RTxt K mg aR t0 t1 t2 t3 t4) (B : BsTx K mg CB S fI) (mz : mg "zip" = none)
    (GW : FnOk P w K mg base CX0 1 fW dW ["thing", "low", "high"] (spWhole K)) (kW : PySem.W.keepIn K (.ref fW) = true) (gW : mg "is_whole" = some (.ref fW)) (bW : Binds K dW ["thing", "low", "high"] []) : FnOk P w K mg base (L2N.CX P w) 2 f fd ["self", "dirs", "rows", "files", "blocks", "users"] (spShX K C CB) := by
  refine F.okN scShI (fun vs H Q E h => ?_) (fun cdv A outer s H vs Q E hr h => ?_)
  · obtain ⟨s, dx, v0, v1, v2, v3, v4, ds, j, wd, rfl, _⟩ := h
    rfl
  · obtain ⟨sa, dx, v0, v1, v2, v3, v4, ds, j, wd, rfl, es, hd, hj5, hgood, hbad, hwd, k⟩ := h
    have nd := scShI.nd
    refine ⟨_, pss_cons (ps_for (passes_of rfl) rfl (RZ.pi_zipA (by rfl) mz (pa_cons (pe_tup (pa_cons (pv 1) (pa_cons (pv 2) (pa_cons (pv 3) (pa_cons (pv 4) (pa_cons (pv 5) pa_nil)))))) (pa_cons (pe_glob (v := .ref aR) rfl R.g rfl) pa_nil)))
        (pg_tup rfl (pgs_cons (pg_name (i := 6) nd rfl (.inl rfl)) (pgs_cons (pg_tup rfl (pgs_cons (pg_name (i := 7) nd rfl (.inl rfl)) (pgs_cons (pg_name (i := 8) nd rfl (.inl rfl)) (pgs_cons (pg_name (i := 9) nd rfl (.inl rfl)) pgs_nil)))) pgs_nil)))
        (pss_one (ps_if (pt_not (pt_val (pe_call GW (hr.mono (by decide)) rfl gW kW bW .nil pass0 (pa_cons (pv 6) (pa_cons (pv 8) (pa_cons (pv 9) pa_nil)))))) (pss_one (ps_bs rfl B.T B.g hr (L2N.takes_of rfl rfl rfl rfl) (pa_cons (pv 7) pa_nil))) pss_nil)))
      pss_never, ?_⟩
    refine ⟨_, rfl, _, rfl, _, rfl, _, rfl, _, rfl, (by show 5 ≤ sizeLine; decide), fun u hu => ⟨u, aR, _, _, rfl, .inr ⟨SqT.of upd_same, R.r _, RZ.for_zipT (K := K) (a := u) (b := aR) (xs := [v0, v1, v2, v3, v4]) (ys := [.ref t0, .ref t1, .ref t2, .ref t3, .ref t4]) rfl
      (fun i σ H' => i ≤ j ∧ ∃ y6 y7 y8 y9, σ = [some (.ref sa), some v0, some v1, some v2, some v3, some v4, y6, y7, y8, y9] ∧ Same (upd H u (.tup [v0, v1, v2, v3, v4])) H') ⟨Nat.zero_le _, none, none, none, none, rfl, Same.refl _⟩ (fun i σ H' p => ?_) ?_ ?_⟩⟩⟩
    · obtain ⟨_, _, _, _, _, _, s1⟩ := p
      exact ⟨SqT.of (s1 _ _ upd_same), R.r _⟩
    · rintro i x y Tt σ H' hx hy ⟨hij, y6, y7, y8, y9, rfl, s1⟩ hT
      obtain ⟨t, wi, rfl, hwi, ht⟩ : ∃ (t : Addr) (wi : Str), y = .ref t ∧ shW[i]? = some wi ∧ ∀ H, SqT K H t [.str wi, .int (shLo.getD i 0), .int (shHi.getD i 0)] := by
        match i, hy with
        | 0, hy => cases hy; exact ⟨_, _, rfl, rfl, R.r0⟩
        | 1, hy => cases hy; exact ⟨_, _, rfl, rfl, R.r1⟩
        | 2, hy => cases hy; exact ⟨_, _, rfl, rfl, R.r2⟩
        | 3, hy => cases hy; exact ⟨_, _, rfl, rfl, R.r3⟩
        | 4, hy => cases hy; exact ⟨_, _, rfl, rfl, R.r4⟩
        | i + 5, hy => cases hy
      have s2 := Same.trans s1 (same_upd (o := .tup [x, .ref t]) hT)
      have s02 := (same_upd hu).trans s2
      obtain ⟨d, hd1, hd2⟩ := dps_get hd hx
      have hdi : ds.getD i .none = d := by rw [List.getD_eq_getElem?_getD, hd1]; rfl
      have hd3 := dp_same s02 _ _ hd2
      refine ⟨Tt, _, rfl, SqT.of upd_same, rfl, _, _, rfl, _, _, rfl, t, _, rfl, ht _, rfl, _, _, rfl, _, _, rfl, _, _, rfl, rfl, rfl, ?_⟩
      refine ⟨_, rfl, _, rfl, _, rfl, _, d, some (shLo.getD i 0), some (shHi.getD i 0), rfl, hd3, ?_⟩
      by_cases c : i < j
      · have h9 := hgood i c
        rw [hdi] at h9
        rw [h9]
        exact ⟨_, rfl, iteF ⟨by omega, _, _, _, _, rfl, s2⟩⟩
      · have e : i = j := by omega
        subst e
        rw [hdi] at hbad
        rw [hbad]
        have ew : wi = wd := by rw [hwi] at hwd; exact Option.some.inj hwd
        subst ew
        exact ⟨_, rfl, iteT ⟨_, rfl, _, rfl, fun dd hdd => k _ dd (s02.trans (same_upd hdd)) (s02.free hdd) upd_same⟩⟩
    · rintro σ H1 ⟨hij, _⟩
      have : (5 : Nat) ≤ j := hij
      omega
end
end Pf

set_option Elab.async false
set_option linter.all false
set_option maxRecDepth 100000
set_option maxHeartbeats 4000000
namespace L2
open PySem PySem.Spec PyProof.Rows
section
variable {X : Cx} {CX : CXT} {k : Nat} {f C : Addr} {fd : FuncData} {ps : List Str} {sp : Sp} {E : St → XK} {x : Str} {p pos : Pos} {e : Expr} {es : List Expr} {t : TA}
/-- C(e, ..) where what is raised is wished for at the caller's slots -/
def tMakeS (C : Addr) (sp : Sp) (E : St → XK) (t : TA) : TE := fun σ H Q => t σ H fun vs H1 => ∀ x dx, H1 x = none → H1 dx = none → dx ≠ x →
  sp (.ref x :: vs) (upd (upd H1 dx (.own x)) x (.ins C dx [])) (fun v H2 => v = .non ∧ Q (.ref x) H2) (E σ)
theorem pe_makeS (M : Mk X.K C f) (F : FnOk X.prog X.w X.K X.mg X.base CX k f fd ps sp) (hr : Room (k + 1) X.A) (hg : Gl X x) (hm : X.mg x = some (.ref C)) (hb : Binds X.K fd ps []) (hx : ∀ σ, PassesAt CX X σ (E σ))
    (ha : PA X (e :: es) t) (hdb : (x == ("__debug__" : Str)) = false := by decide) (he : starEach (e :: es) X.env = (false, eval e X.env) :: starEach es X.env := by rfl) (hpl : (backTo pos (starEach es X.env)).any (·.1) = false := by rfl) :
    PE X (.Call (.Name x p) (e :: es) [] pos) (tMakeS C sp E t) := by
  refine ⟨fun pins s σ H Q I h => ?_⟩
  refine wpAny_Call_Name_kw (ld_glob I hg hm ?_ hdb)
  refine PySem.W.callWith_K (h₀ := X.base) I.ok.mod.kin M.kp (thn (ha.run pos pins s σ H _ I h) fun us s1 ⟨vs, H1, I1, r, q⟩ => ⟨I1.kIn, ?_⟩) he hpl
  have hq := q (s1.heap.objs.size + 1) s1.heap.objs.size (I1.hok.fresh (Nat.le_succ _)) (I1.hok.fresh (Nat.le_refl _)) (Nat.ne_of_lt (Nat.lt_succ_self _))
  have I2 := Inv.made (C := C) I1
  have r2 : Vals (V.ref (s1.heap.objs.size + 1) :: vs) (Value.ref (s1.heap.objs.size + 1) :: us) := .cons rfl r
  have hl : (Value.ref (s1.heap.objs.size + 1) :: us ++ []).length = ps.length := by
    have e := r2.length
    rw [F.len _ _ _ _ hq] at e
    rw [List.append_nil]
    exact e.symm
  refine wpAny_call (make_map (f := f) I1.kIn M.makes M.init (beq_iff_eq.mp M.fn) (codeAny_mono (F.run _ X.stack _ _ ⟨Value.ref (s1.heap.objs.size + 1) :: us, []⟩ (Value.ref (s1.heap.objs.size + 1) :: us) _ _ (E σ) (hr.make C us [])
    (I2.env0.make C us []) (by have h9 := hb _ (Value.ref (s1.heap.objs.size + 1) :: us) I2.kIn hl; rw [List.append_nil] at h9; exact h9) r2 hq) fun r s' hq' => ?_))
  cases r with
  | error e => exact hx σ pins _ _ e s' I2 hq'
  | ok fl =>
    cases fl with
    | ret u =>
      obtain ⟨v, H', I3, rv, ev, q3⟩ := I2.after hq'
      subst ev
      exact ⟨rv, ⟨V.ref (s1.heap.objs.size + 1), H', I3, rfl, q3⟩⟩
    | next => exact False.elim hq'
    | brk => exact False.elim hq'
    | cont => exact False.elim hq'
end
end L2
namespace Pf
open PySem PySem.Spec PyProof.Rows L2
abbrev NRf : List Str := ["_law_numbers", "_law_word", "_law_bad"]
theorem scRf : FnScope NRf ["_law_numbers", "_law_word"] (defScope sLrf) := ⟨rfl, rfl, rfl, by decide +kernel, rfl, by decide +kernel, by decide +kernel⟩
def spRf (K : PySem.W.Frag) : Sp := fun vs H Q _ => ∃ (p : Addr) (v0 v1 v2 v3 v4 : V) (ds : List PyData) (j : Nat) (wd : Str), vs = [.ref p, .str wd] ∧ H p = some (.lst [v0, v1, v2, v3, v4]) ∧ DpAll K H [v0, v1, v2, v3, v4] ds ∧ j < 5 ∧
  (∀ i < j, wholeB (ds.getD i .none) (some (shLo.getD i 0)) (some (shHi.getD i 0)) = true) ∧ wholeB (ds.getD j .none) (some (shLo.getD j 0)) (some (shHi.getD j 0)) = false ∧ shW[j]? = some wd ∧ ∀ H', Same H H' → Q (.bl true) H'
section
variable {P : Program} {w : World} {K : PySem.W.Frag} {mg : Str → Option Value} {base : Heap} {C CB S fI : Addr}
theorem ok_rf {f fS : Addr} {fd dS : FuncData} (F : Fun K "_law_is_refused" "_law_is_refused" sLrf f fd) (B : BsTx K mg CB S fI) (XF : XfC K CB) (mBB : PySem.W.exmOne K (.ref CB) (.ref CB) = some true) (MS : Mk K C fS) (GS : FnOk P w K mg base (L2N.CX P w) 2 fS dS ["self", "dirs", "rows", "files", "blocks", "users"] (spShX K C CB)) (gS : mg "Shape" = some (.ref C)) (bS : Binds K dS ["self", "dirs", "rows", "files", "blocks", "users"] []) : FnOk P w K mg base CX0 4 f fd ["_law_numbers", "_law_word"] (spRf K) := by
  refine F.ok scRf (fun vs H Q E h => ?_) (fun cdv A outer s H vs Q E hr h => ?_)
  · obtain ⟨p, v0, v1, v2, v3, v4, ds, j, wd, rfl, _⟩ := h
    rfl
  · obtain ⟨p, v0, v1, v2, v3, v4, ds, j, wd, rfl, ep, hd, hj, hg, hb, hw, k⟩ := h
    have nd := scRf.nd
    refine ⟨_, pss_cons (L2N.ps_try_as (i := 2) (tb := fun W => tDrop (tMakeS C (spShX K C CB) (WE W) (tCons (tOp (rIxL K) (tVar 0) (tC (.int 0))) (tCons (tOp (rIxL K) (tVar 0) (tC (.int 1))) (tCons (tOp (rIxL K) (tVar 0) (tC (.int 2))) (tCons (tOp (rIxL K) (tVar 0) (tC (.int 3))) (tCons (tOp (rIxL K) (tVar 0) (tC (.int 4))) tNil)))))))
        (ts := fun a cls d => tRet (tOp rEq (tXf a cls d CB "word" (tVar 2)) (tVar 1)))
        (Wout := fun _ _ _ _ => False) rfl rfl nd rfl rfl ⟨rfl, by decide, .inl B.g⟩ takesN
        (fun W pn xe tk _ => pss_one (ps_expr (by exact (pe_makeS MS GS (hr.mono (by decide)) rfl gS bS (fun σ => L2N.passAt tk σ) (by exact (pa_cons (pe_ix ix_list (pv 0) pe_int (fun _ _ => rfl)) (pa_cons (pe_ix ix_list (pv 0) pe_int (fun _ _ => rfl)) (pa_cons (pe_ix ix_list (pv 0) pe_int (fun _ _ => rfl)) (pa_cons (pe_ix ix_list (pv 0) pe_int (fun _ _ => rfl)) (pa_cons (pe_ix ix_list (pv 0) pe_int (fun _ _ => rfl)) pa_nil))))))))))
        (fun ax oe cls d pn hz hf => pss_one (ps_ret (pe_cmpR op_eq (pe_xf XF B.T.noW hz.zc hf (pv 2)) (pv 1) (nomark _)))))
      (pss_one (ps_ret pe_bl)), ?_⟩
    refine ⟨_, rfl, p, _, 0, _, rfl, rfl, SqL.of ep, atI_nat (j := 0) rfl, _, rfl, p, _, 1, _, rfl, rfl, SqL.of ep, atI_nat (j := 1) rfl, _, rfl, p, _, 2, _, rfl, rfl, SqL.of ep, atI_nat (j := 2) rfl, _, rfl, p, _, 3, _, rfl, rfl, SqL.of ep, atI_nat (j := 3) rfl, _, rfl, p, _, 4, _, rfl, rfl, SqL.of ep, atI_nat (j := 4) rfl, fun sx dx h1 h2 hne => ?_⟩
    have sd : Same H (upd (upd H dx (.own sx)) sx (.ins C dx [])) := fun b o z => by
      rw [upd_ne (ne_of_none z h1), upd_ne (ne_of_none z h2)]
      exact z
    refine ⟨sx, dx, v0, v1, v2, v3, v4, ds, j, wd, rfl, upd_same, dps_same sd _ _ hd, hj, hg, hb, hw, fun H' dd s' hdd edd => ⟨true, mBB, fun _ ax hax => ?_, fun z => Bool.noConfusion z⟩⟩
    refine ⟨_, rfl, rfl, rfl, dd, _, _, rfl, edd, rfl, _, rfl, rfl, ?_⟩
    rw [decide_eq_true rfl]
    exact k _ (sd.trans s')
end
end Pf

set_option Elab.async false
set_option linter.all false
set_option maxRecDepth 100000
set_option maxHeartbeats 8000000
namespace Pf
open PySem PySem.Spec PyProof.Rows L2
/-- of the heap the told tuples alone -/
def Tu (H : Hp) : Hp := fun b => match H b with
  | some (.tup xs) => some (.tup xs)
  | _ => none
theorem tu_at {H : Hp} {b : Addr} {xs : List V} (h : H b = some (.tup xs)) : Tu H b = some (.tup xs) := by unfold Tu; rw [h]
theorem tu_some {H : Hp} {b : Addr} {o : HO} (h : Tu H b = some o) : ∃ xs, o = .tup xs ∧ H b = some (.tup xs) := by
  unfold Tu at h
  split at h
  · rename_i xs e
    exact ⟨xs, (Option.some.inj h).symm, e⟩
  · cases h
theorem tu_of {H H' : Hp} (s : Same (Tp H) (Tp H')) : Same (Tu H) (Tu H') := fun b o e => by
  obtain ⟨xs, rfl, h⟩ := tu_some e
  exact tu_at (tp_some (s _ _ (tp_at h rfl))).1
def LsU (H : Hp) (D : Addr) (ds : List PyData) : Prop := ∃ us, H D = some (.lst us) ∧ DpAll [] (Tu H) us ds
theorem LsU.same {H H' : Hp} {D : Addr} {ds : List PyData} (A : LsU H D ds) (s : Same H H') : LsU H' D ds := by
  obtain ⟨us, e, h⟩ := A
  exact ⟨us, s _ _ e, dps_same (tu_of (tp_same s)) _ _ h⟩
theorem LsU.push {H : Hp} {D : Addr} {us : List V} {ds : List PyData} {y : V} {d : PyData} (e : H D = some (.lst us)) (h : DpAll [] (Tu H) us ds) (hy : Dp [] (Tu H) y d) : LsU (upd H D (.lst (us ++ [y]))) D (ds ++ [d]) := by
  have tb : Same (Tu H) (Tu (upd H D (.lst (us ++ [y])))) := tu_of (tp_put fun o q => by rw [e] at q; cases q; rfl)
  exact ⟨_, upd_same, dps_app (dps_same tb _ _ h) (.cons (dp_same tb _ _ hy) .nil)⟩
def pD1 (x : Int × Int) : PyData := .tuple [.int x.1, .int x.2]
/-- the cells of a row of numbers -/
def rowC (o : Int) (n : Nat) : List (Int × Int) := (List.range n).map fun i => (o + ((i : Nat) : Int) / 8, ((i : Nat) : Int) % 8)
def colC (o : Int) (n : Nat) : List (Int × Int) := (List.range n).map fun i => (o + ((i : Nat) : Int), 0)
def cellsL (b : Sh) : List (Int × Int) := [(0, 0)] ++ ((rowC 1 b.d.toNat ++ rowC b.fr b.r.toNat) ++ rowC b.fu b.u.toNat) ++ colC b.ff b.f.toNat ++ colC b.fb b.b.toNat
theorem rowC_len (o : Int) (n : Nat) : ((rowC o n).map pD1).length = n := by unfold rowC; rw [List.length_map, List.length_map, List.length_range]
theorem colC_len (o : Int) (n : Nat) : ((colC o n).map pD1).length = n := by unfold colC; rw [List.length_map, List.length_map, List.length_range]
theorem rowC_more (o : Int) (n : Nat) : rowC o (n + 1) = rowC o n ++ [(o + ((n : Nat) : Int) / 8, ((n : Nat) : Int) % 8)] := by unfold rowC; rw [List.range_succ, List.map_append]; rfl
theorem colC_more (o : Int) (n : Nat) : colC o (n + 1) = colC o n ++ [(o + ((n : Nat) : Int), 0)] := by unfold colC; rw [List.range_succ, List.map_append]; rfl
abbrev NLc : List Str := ["_law_shape", "_law_places", "_law_one"]
theorem scLc : FnScope NLc ["_law_shape"] (defScope sLco) := ⟨rfl, rfl, rfl, by decide +kernel, rfl, by decide +kernel, by decide +kernel⟩
section
variable {P : Program} {w : World} {K : PySem.W.Frag} {mg : Str → Option Value} {base : Heap} {C : Addr}
def spLc (K : PySem.W.Frag) (C : Addr) : Sp := fun vs H Q _ => ∃ (sa : Addr) (b : Sh), vs = [.ref sa] ∧ ShAt C H sa b ∧ ∀ L H', Same H H' → H L = none → LsU H' L ((cellsL b).map pD1) → Q (.ref L) H'
theorem ok_cells2 {f fD fR fU fC fF fB : Addr} {fd dD dR dU dC dF dB : FuncData} (F : Fun K "_law_cells_of" "_law_cells_of" sLco f fd) (T : ShTxt K C) (MD : Me P w K mg base 1 C "dir_cell" ["self", "number"] (spCellN C fun _ => 1) fD dD) (MR : Me P w K mg base 1 C "row_cell" ["self", "number"] (spCellN C Sh.fr) fR dR) (MU : Me P w K mg base 1 C "user_cell" ["self", "user"] (spCellN C Sh.fu) fU dU)
    (MC : Me P w K mg base 1 C "clock_cell" ["self"] spClk fC dC) (MF : Me P w K mg base 1 C "file_plate" ["self", "file"] (spFp C) fF dF) (MB : Me P w K mg base 1 C "block_plate" ["self", "block"] (spBp C) fB dB) (mr : mg "range" = none) : FnOk P w K mg base CX0 2 f fd ["_law_shape"] (spLc K C) := by
  refine F.ok scLc (fun vs H Q E h => ?_) (fun cdv A outer s H vs Q E hr h => ?_)
  · obtain ⟨sa, b, rfl, _⟩ := h
    rfl
  · obtain ⟨sa, b, rfl, S, k⟩ := h
    have nd := scLc.nd
    have h1 : Room 1 _ := hr.mono (by decide)
    refine ⟨_, pss_cons (ps_set (i := 1) nd rfl (.inl rfl) (pe_op op_cat
        (pe_lc (own := [("_law_one", 2)]) (g := gName 2) (tt := tYes) (te := tMeth C "dir_cell" (spCellN C fun _ => 1) [] E0 (tVar 0) (tCons (tVar 2) tNil)) rfl nd (pi_range1 (by rfl) mr (pa_cons (pe_fld (pv 0) rfl) pa_nil)) (blkOk_by (N := NLc) (sc := defScope sLco) (by decide +kernel))
          (fun _ _ _ _ _ => pg_name (i := 2) nd rfl (.inl rfl)) (fun _ _ _ _ _ => pts_nil) (fun _ _ _ _ _ => pe_meth (pv 0) T.cl MD.m MD.G h1 MD.b .nil pass0 (pa_cons (pv 2) pa_nil)))
        (pe_lc (own := [("_law_one", 2)]) (g := gName 2) (tt := tYes) (te := tMeth C "row_cell" (spCellN C Sh.fr) [] E0 (tVar 0) (tCons (tVar 2) tNil)) rfl nd (pi_range1 (by rfl) mr (pa_cons (pe_fld (pv 0) rfl) pa_nil)) (blkOk_by (N := NLc) (sc := defScope sLco) (by decide +kernel))
          (fun _ _ _ _ _ => pg_name (i := 2) nd rfl (.inl rfl)) (fun _ _ _ _ _ => pts_nil) (fun _ _ _ _ _ => pe_meth (pv 0) T.cl MR.m MR.G h1 MR.b .nil pass0 (pa_cons (pv 2) pa_nil)))))
      (pss_cons (ps_aug (i := 1) nd rfl (.inl rfl)
        (pe_lc (own := [("_law_one", 2)]) (g := gName 2) (tt := tYes) (te := tMeth C "user_cell" (spCellN C Sh.fu) [] E0 (tVar 0) (tCons (tVar 2) tNil)) rfl nd (pi_range1 (by rfl) mr (pa_cons (pe_fld (pv 0) rfl) pa_nil)) (blkOk_by (N := NLc) (sc := defScope sLco) (by decide +kernel))
          (fun _ _ _ _ _ => pg_name (i := 2) nd rfl (.inl rfl)) (fun _ _ _ _ _ => pts_nil) (fun _ _ _ _ _ => pe_meth (pv 0) T.cl MU.m MU.G h1 MU.b .nil pass0 (pa_cons (pv 2) pa_nil))) (ti := rExt2) iop_ext)
      (pss_one (ps_ret (pe_op op_cat (pe_op op_cat (pe_op op_cat (pe_lst (pa_cons (pe_meth0 (pv 0) T.cl MC.m MC.G h1 MC.b .nil pass0) pa_nil)) (pv 1))
        (pe_lc (own := [("_law_one", 2)]) (g := gName 2) (tt := tYes) (te := tTup (tCons (tMeth C "file_plate" (spFp C) [] E0 (tVar 0) (tCons (tVar 2) tNil)) (tCons (tC (.int 0)) tNil))) rfl nd (pi_range1 (by rfl) mr (pa_cons (pe_fld (pv 0) rfl) pa_nil)) (blkOk_by (N := NLc) (sc := defScope sLco) (by decide +kernel))
          (fun _ _ _ _ _ => pg_name (i := 2) nd rfl (.inl rfl)) (fun _ _ _ _ _ => pts_nil) (fun _ _ _ _ _ => pe_tup (pa_cons (pe_meth (pv 0) T.cl MF.m MF.G h1 MF.b .nil pass0 (pa_cons (pv 2) pa_nil)) (pa_cons pe_int pa_nil)))))
        (pe_lc (own := [("_law_one", 2)]) (g := gName 2) (tt := tYes) (te := tTup (tCons (tMeth C "block_plate" (spBp C) [] E0 (tVar 0) (tCons (tVar 2) tNil)) (tCons (tC (.int 0)) tNil))) rfl nd (pi_range1 (by rfl) mr (pa_cons (pe_fld (pv 0) rfl) pa_nil)) (blkOk_by (N := NLc) (sc := defScope sLco) (by decide +kernel))
          (fun _ _ _ _ _ => pg_name (i := 2) nd rfl (.inl rfl)) (fun _ _ _ _ _ => pts_nil) (fun _ _ _ _ _ => pe_tup (pa_cons (pe_meth (pv 0) T.cl MB.m MB.G h1 MB.b .nil pass0 (pa_cons (pv 2) pa_nil)) (pa_cons pe_int pa_nil)))))))), ?_⟩
    have hbd := b.hd
    have hbr := b.hr
    have hbf := b.hf
    have hbb := b.hb
    have hbu := b.hu
    have r0 := Same.refl H
    obtain ⟨dx0, es0⟩ := S.same r0
    refine ⟨_, rfl, sa, C, dx0, _, _, rfl, es0, T.cl, T.no _ (by decide +kernel), zip_get (i := 0) shn_nodup rfl rfl, b.d, rfl, by omega, by omega, fun D1 hD1 => lc_range (lo := 0) (n := (b.d).toNat) (fun i H' => Same H H' ∧ LsU H' D1 ((rowC (1) i).map pD1)) ⟨same_upd hD1, ⟨[], upd_same, .nil⟩⟩ ?_ ?_⟩
    · rintro i H' hi ⟨z1, us, eD, dD⟩
      have hul := dps_len dD
      have ez : (0 : Int) + ((i : Nat) : Int) = ((i : Nat) : Int) := by omega
      rw [rowC_len] at hul
      obtain ⟨dx, es⟩ := (S.same r0).same z1
      refine ⟨rfl, tyes_go ⟨_, rfl, sa, dx, _, rfl, es, zip_no (by decide +kernel), _, rfl, sa, b, 0 + ((i : Nat) : Int), rfl, (S.same r0).same z1, fun t ht => ?_⟩⟩
      have s2 := same_upd (o := .tup [V.int (1 + (0 + ((i : Nat) : Int)) / 8), V.int ((0 + ((i : Nat) : Int)) % 8)]) ht
      refine ⟨us, s2 _ _ eD, by rw [sizeLine_eq]; omega, fun c o e => by rw [upd_ne (ne_of_none e hD1)]; exact (z1.trans s2) _ _ e, ?_⟩
      rw [rowC_more, List.map_append]
      refine LsU.push (s2 _ _ eD) (dps_same (tu_of (tp_same s2)) _ _ dD) (.tup (SqT.of (tu_at (by rw [upd_same, ez]))) (.cons (.int _) (.cons (.int _) .nil)))
    rintro H1 ⟨s1, L1⟩
    obtain ⟨dx1, es1⟩ := S.same s1
    refine ⟨_, rfl, sa, C, dx1, _, _, rfl, es1, T.cl, T.no _ (by decide +kernel), zip_get (i := 1) shn_nodup rfl rfl, b.r, rfl, by omega, by omega, fun D2 hD2 => lc_range (lo := 0) (n := (b.r).toNat) (fun i H' => Same H1 H' ∧ LsU H' D2 ((rowC (b.fr) i).map pD1)) ⟨same_upd hD2, ⟨[], upd_same, .nil⟩⟩ ?_ ?_⟩
    · rintro i H' hi ⟨z1, us, eD, dD⟩
      have hul := dps_len dD
      have ez : (0 : Int) + ((i : Nat) : Int) = ((i : Nat) : Int) := by omega
      rw [rowC_len] at hul
      obtain ⟨dx, es⟩ := (S.same s1).same z1
      refine ⟨rfl, tyes_go ⟨_, rfl, sa, dx, _, rfl, es, zip_no (by decide +kernel), _, rfl, sa, b, 0 + ((i : Nat) : Int), rfl, (S.same s1).same z1, fun t ht => ?_⟩⟩
      have s2 := same_upd (o := .tup [V.int (b.fr + (0 + ((i : Nat) : Int)) / 8), V.int ((0 + ((i : Nat) : Int)) % 8)]) ht
      refine ⟨us, s2 _ _ eD, by rw [sizeLine_eq]; omega, fun c o e => by rw [upd_ne (ne_of_none e hD2)]; exact (z1.trans s2) _ _ e, ?_⟩
      rw [rowC_more, List.map_append]
      refine LsU.push (s2 _ _ eD) (dps_same (tu_of (tp_same s2)) _ _ dD) (.tup (SqT.of (tu_at (by rw [upd_same, ez]))) (.cons (.int _) (.cons (.int _) .nil)))
    rintro H2 ⟨s2, L2'⟩
    obtain ⟨u1, e1, d1⟩ := L1.same s2
    obtain ⟨u2, e2, d2⟩ := L2'
    have l1 := dps_len d1
    have l2 := dps_len d2
    rw [rowC_len] at l1 l2
    refine ⟨D1, D2, _, _, rfl, rfl, e1, e2, by rw [sizeLine_eq]; omega, fun p hp => ?_⟩
    have s3 := same_upd (o := .lst (u1 ++ u2)) hp
    have nHp : H p = none := (s1.trans s2).free hp
    have LP : LsU (upd H2 p (.lst (u1 ++ u2))) p ((rowC 1 b.d.toNat ++ rowC b.fr b.r.toNat).map pD1) := by
      rw [List.map_append]
      exact ⟨_, upd_same, dps_app (dps_same (tu_of (tp_same s3)) _ _ d1) (dps_same (tu_of (tp_same s3)) _ _ d2)⟩
    have s03 := (s1.trans s2).trans s3
    generalize upd H2 p (.lst (u1 ++ u2)) = G at LP s03 ⊢
    refine ⟨_, rfl, ?_⟩
    obtain ⟨dx2, es2⟩ := S.same s03
    refine ⟨_, rfl, sa, C, dx2, _, _, rfl, es2, T.cl, T.no _ (by decide +kernel), zip_get (i := 4) shn_nodup rfl rfl, b.u, rfl, by omega, by omega, fun D3 hD3 => lc_range (lo := 0) (n := (b.u).toNat) (fun i H' => Same G H' ∧ LsU H' D3 ((rowC (b.fu) i).map pD1)) ⟨same_upd hD3, ⟨[], upd_same, .nil⟩⟩ ?_ ?_⟩
    · rintro i H' hi ⟨z1, us, eD, dD⟩
      have hul := dps_len dD
      have ez : (0 : Int) + ((i : Nat) : Int) = ((i : Nat) : Int) := by omega
      rw [rowC_len] at hul
      obtain ⟨dx, es⟩ := (S.same s03).same z1
      refine ⟨rfl, tyes_go ⟨_, rfl, sa, dx, _, rfl, es, zip_no (by decide +kernel), _, rfl, sa, b, 0 + ((i : Nat) : Int), rfl, (S.same s03).same z1, fun t ht => ?_⟩⟩
      have s2 := same_upd (o := .tup [V.int (b.fu + (0 + ((i : Nat) : Int)) / 8), V.int ((0 + ((i : Nat) : Int)) % 8)]) ht
      refine ⟨us, s2 _ _ eD, by rw [sizeLine_eq]; omega, fun c o e => by rw [upd_ne (ne_of_none e hD3)]; exact (z1.trans s2) _ _ e, ?_⟩
      rw [rowC_more, List.map_append]
      refine LsU.push (s2 _ _ eD) (dps_same (tu_of (tp_same s2)) _ _ dD) (.tup (SqT.of (tu_at (by rw [upd_same, ez]))) (.cons (.int _) (.cons (.int _) .nil)))
    rintro H3 ⟨s4, L3⟩
    obtain ⟨u3, e3, d3⟩ := LP.same s4
    obtain ⟨u4, e4, d4⟩ := L3
    have l3 := dps_len d3
    have l4 := dps_len d4
    rw [rowC_len] at l4
    rw [List.length_map, List.length_append] at l3
    have q1 := rowC_len 1 b.d.toNat
    have q2 := rowC_len b.fr b.r.toNat
    rw [List.length_map] at q1 q2
    refine ⟨p, D3, _, _, rfl, rfl, e3, e4, by rw [sizeLine_eq]; omega, ?_⟩
    have f5 : Fr [p] H3 (upd H3 p (.lst (u3 ++ u4))) := .put (by simp) fun u z => by rw [e3] at z; cases z; rfl
    have LQ : LsU (upd H3 p (.lst (u3 ++ u4))) p (((rowC 1 b.d.toNat ++ rowC b.fr b.r.toNat) ++ rowC b.fu b.u.toNat).map pD1) := by
      rw [List.map_append]
      exact ⟨_, upd_same, dps_app (dps_same (tu_of f5.tp) _ _ d3) (dps_same (tu_of f5.tp) _ _ d4)⟩
    have s05 : Same H (upd H3 p (.lst (u3 ++ u4))) := fun c o e => by
      rw [upd_ne (ne_of_none e nHp)]
      exact (s03.trans s4) _ _ e
    generalize upd H3 p (.lst (u3 ++ u4)) = G5 at LQ s05 ⊢
    obtain ⟨dx9, es9⟩ := S.same s05
    refine ⟨_, rfl, sa, dx9, _, rfl, es9, zip_no (by decide +kernel), sa, rfl, fun t ht => ⟨(by show 1 ≤ sizeLine; decide), fun D4 hD4 => ⟨_, rfl, ?_⟩⟩⟩
    have s6 := same_upd (o := .tup [V.int 0, V.int 0]) ht
    have s7 := same_upd (o := .lst [V.ref t]) hD4
    have L4 : LsU (upd (upd G5 t (.tup [V.int 0, V.int 0])) D4 (.lst [V.ref t])) D4 ([((0 : Int), (0 : Int))].map pD1) := ⟨_, upd_same, .cons (.tup (SqT.of (tu_at (s7 _ _ upd_same))) (.cons (.int _) (.cons (.int _) .nil))) .nil⟩
    have LQ7 := LQ.same (s6.trans s7)
    have s07 := (s05.trans s6).trans s7
    generalize upd (upd G5 t (.tup [V.int 0, V.int 0])) D4 (.lst [V.ref t]) = G7 at L4 LQ7 s07 ⊢
    obtain ⟨v1, g1, w1⟩ := L4
    obtain ⟨v2, g2, w2⟩ := LQ7
    have m1 := dps_len w1
    have m2 := dps_len w2
    rw [List.length_map, List.length_append, List.length_append] at m2
    have q3 := rowC_len b.fu b.u.toNat
    rw [List.length_map] at q3
    have m1' : v1.length = 1 := m1
    refine ⟨D4, p, _, _, rfl, rfl, g1, g2, by rw [sizeLine_eq]; omega, fun p2 hp2 => ?_⟩
    have s8 := same_upd (o := .lst (v1 ++ v2)) hp2
    have LR : LsU (upd G7 p2 (.lst (v1 ++ v2))) p2 (([((0 : Int), (0 : Int))] ++ ((rowC 1 b.d.toNat ++ rowC b.fr b.r.toNat) ++ rowC b.fu b.u.toNat)).map pD1) := by
      rw [List.map_append]
      exact ⟨_, upd_same, dps_app (dps_same (tu_of (tp_same s8)) _ _ w1) (dps_same (tu_of (tp_same s8)) _ _ w2)⟩
    have s08 := s07.trans s8
    generalize upd G7 p2 (.lst (v1 ++ v2)) = G8 at LR s08 ⊢
    obtain ⟨dx3, es3⟩ := S.same s08
    refine ⟨_, rfl, sa, C, dx3, _, _, rfl, es3, T.cl, T.no _ (by decide +kernel), zip_get (i := 2) shn_nodup rfl rfl, b.f, rfl, by omega, by omega, fun D5 hD5 => lc_range (lo := 0) (n := (b.f).toNat) (fun i H' => Same G8 H' ∧ LsU H' D5 ((colC (b.ff) i).map pD1)) ⟨same_upd hD5, ⟨[], upd_same, .nil⟩⟩ ?_ ?_⟩
    · rintro i H' hi ⟨z1, us, eD, dD⟩
      have hul := dps_len dD
      have ez : (0 : Int) + ((i : Nat) : Int) = ((i : Nat) : Int) := by omega
      rw [colC_len] at hul
      obtain ⟨dx, es⟩ := (S.same s08).same z1
      refine ⟨rfl, tyes_go ⟨_, rfl, sa, dx, _, rfl, es, zip_no (by decide +kernel), _, rfl, sa, b, 0 + ((i : Nat) : Int), rfl, (S.same s08).same z1, (by show 2 ≤ sizeLine; decide), fun t ht => ?_⟩⟩
      have s2 := same_upd (o := .tup [V.int (b.ff + (0 + ((i : Nat) : Int))), V.int 0]) ht
      refine ⟨us, s2 _ _ eD, by rw [sizeLine_eq]; omega, fun c o e => by rw [upd_ne (ne_of_none e hD5)]; exact (z1.trans s2) _ _ e, ?_⟩
      rw [colC_more, List.map_append]
      refine LsU.push (s2 _ _ eD) (dps_same (tu_of (tp_same s2)) _ _ dD) (.tup (SqT.of (tu_at (by rw [upd_same, ez]))) (.cons (.int _) (.cons (.int _) .nil)))
    rintro H5 ⟨s9, L5⟩
    obtain ⟨v3, g3, w3⟩ := LR.same s9
    obtain ⟨v4, g4, w4⟩ := L5
    have m3 := dps_len w3
    have m4 := dps_len w4
    rw [colC_len] at m4
    rw [List.length_map, List.length_append, List.length_append, List.length_append] at m3
    refine ⟨p2, D5, _, _, rfl, rfl, g3, g4, by rw [sizeLine_eq]; simp at m3; omega, fun p3 hp3 => ?_⟩
    have s10 := same_upd (o := .lst (v3 ++ v4)) hp3
    have LS : LsU (upd H5 p3 (.lst (v3 ++ v4))) p3 (([((0 : Int), (0 : Int))] ++ ((rowC 1 b.d.toNat ++ rowC b.fr b.r.toNat) ++ rowC b.fu b.u.toNat) ++ colC b.ff b.f.toNat).map pD1) := by
      rw [List.map_append (l₂ := colC _ _)]
      exact ⟨_, upd_same, dps_app (dps_same (tu_of (tp_same s10)) _ _ w3) (dps_same (tu_of (tp_same s10)) _ _ w4)⟩
    have s010 := (s08.trans s9).trans s10
    generalize upd H5 p3 (.lst (v3 ++ v4)) = G10 at LS s010 ⊢
    obtain ⟨dx4, es4⟩ := S.same s010
    refine ⟨_, rfl, sa, C, dx4, _, _, rfl, es4, T.cl, T.no _ (by decide +kernel), zip_get (i := 3) shn_nodup rfl rfl, b.b, rfl, by omega, by omega, fun D6 hD6 => lc_range (lo := 0) (n := (b.b).toNat) (fun i H' => Same G10 H' ∧ LsU H' D6 ((colC (b.fb) i).map pD1)) ⟨same_upd hD6, ⟨[], upd_same, .nil⟩⟩ ?_ ?_⟩
    · rintro i H' hi ⟨z1, us, eD, dD⟩
      have hul := dps_len dD
      have ez : (0 : Int) + ((i : Nat) : Int) = ((i : Nat) : Int) := by omega
      rw [colC_len] at hul
      obtain ⟨dx, es⟩ := (S.same s010).same z1
      refine ⟨rfl, tyes_go ⟨_, rfl, sa, dx, _, rfl, es, zip_no (by decide +kernel), _, rfl, sa, b, 0 + ((i : Nat) : Int), rfl, (S.same s010).same z1, (by show 2 ≤ sizeLine; decide), fun t ht => ?_⟩⟩
      have s2 := same_upd (o := .tup [V.int (b.fb + (0 + ((i : Nat) : Int))), V.int 0]) ht
      refine ⟨us, s2 _ _ eD, by rw [sizeLine_eq]; omega, fun c o e => by rw [upd_ne (ne_of_none e hD6)]; exact (z1.trans s2) _ _ e, ?_⟩
      rw [colC_more, List.map_append]
      refine LsU.push (s2 _ _ eD) (dps_same (tu_of (tp_same s2)) _ _ dD) (.tup (SqT.of (tu_at (by rw [upd_same, ez]))) (.cons (.int _) (.cons (.int _) .nil)))
    rintro H6 ⟨s11, L6⟩
    obtain ⟨v5, g5, w5⟩ := LS.same s11
    obtain ⟨v6, g6, w6⟩ := L6
    have m5 := dps_len w5
    have m6 := dps_len w6
    rw [colC_len] at m6
    have q4 := colC_len b.ff b.f.toNat
    rw [List.length_map] at q4
    rw [List.length_map, List.length_append, List.length_append, List.length_append, List.length_append] at m5
    refine ⟨p3, D6, _, _, rfl, rfl, g5, g6, by rw [sizeLine_eq]; simp at m5; omega, fun p4 hp4 => ?_⟩
    have s12 := same_upd (o := .lst (v5 ++ v6)) hp4
    refine k p4 _ ((s010.trans s11).trans s12) ((s010.trans s11).free hp4) ?_
    unfold cellsL
    rw [List.map_append (l₂ := colC b.fb _)]
    exact ⟨_, upd_same, dps_app (dps_same (tu_of (tp_same s12)) _ _ w5) (dps_same (tu_of (tp_same s12)) _ _ w6)⟩
end
end Pf

set_option Elab.async false
set_option linter.all false
set_option maxRecDepth 100000
set_option maxHeartbeats 4000000
namespace Pf
open PySem PySem.Spec PyProof.Rows L2
abbrev NSe : List Str := ["self", "other"]
theorem scShEq : FnScope NSe ["self", "other"] (defScope sShEq) := ⟨rfl, rfl, rfl, by decide +kernel, rfl, by decide +kernel, by decide +kernel⟩
def toldD (b : Sh) : PyData := .tuple [.int b.d, .int b.r, .int b.f, .int b.b, .int b.u]
section
variable {P : Program} {w : World} {K : PySem.W.Frag} {mg : Str → Option Value} {base : Heap} {C : Addr}
/-- shape == other, two shapes -/
def spShEq (C : Addr) : Sp := fun vs H Q _ => ∃ (a b : Addr) (s t : Sh), vs = [.ref a, .ref b] ∧ ShAt C H a s ∧ ShAt C H b t ∧ ∀ H', Same H H' → Q (.bl (PyData.eqv (toldD s) (toldD t))) H'
theorem ok_shEq {f fT : Addr} {fd dT : FuncData} (F : Fun K "__eq__" "Shape.__eq__" sShEq f fd) (T : ShTxt K C) (IC : C8.InsC K C) (mC : mg "Shape" = some (.ref C)) (mi : mg "isinstance" = none)
    (MT : Me P w K mg base 1 C "told" ["self"] (spTold C) fT dT) : FnOk P w K mg base CX0 2 f fd ["self", "other"] (spShEq C) := by
  refine F.ok scShEq (fun vs H Q E h => ?_) (fun cdv A outer s H vs Q E hr h => ?_)
  · obtain ⟨a, b, s, t, rfl, _⟩ := h
    rfl
  · obtain ⟨a, b, sa, sb, rfl, Sa, Sb, q⟩ := h
    have h1 : Room 1 _ := hr.mono (by decide)
    refine ⟨_, pss_one (ps_ret (pe_and (pe_callB (C8.call_isC IC) (by rfl) mi (by decide +kernel) (pa_cons (pv 1) (pa_cons (pe_glob (v := .ref C) rfl mC rfl) pa_nil)))
      (pe_one (pe_cmpR (op_eqD hr.units) (pe_meth0 (pv 0) T.cl MT.m MT.G h1 MT.b .nil pass0) (pe_meth0 (pv 1) T.cl MT.m MT.G h1 MT.b .nil pass0) (nomark _))))), ?_⟩
    obtain ⟨da, ea⟩ := Sa
    obtain ⟨db, eb⟩ := Sb
    refine ⟨_, rfl, b, db, _, rfl, eb, _, rfl, ?_⟩
    refine iteT ⟨_, rfl, a, da, _, rfl, ea, zip_no (by decide +kernel), a, sa, rfl, ⟨da, ea⟩, fun t ht => ?_⟩
    have s1 := same_upd (H := H) (o := .tup [V.int sa.d, V.int sa.r, V.int sa.f, V.int sa.b, V.int sa.u]) ht
    refine ⟨_, rfl, b, db, _, rfl, s1 _ _ eb, zip_no (by decide +kernel), b, sb, rfl, ⟨db, s1 _ _ eb⟩, fun t2 ht2 => ?_⟩
    have s2 := same_upd (o := .tup [V.int sb.d, V.int sb.r, V.int sb.f, V.int sb.b, V.int sb.u]) ht2
    exact ⟨toldD sa, toldD sb, .tup (SqT.of (s2 _ _ upd_same)) (.cons (.int _) (.cons (.int _) (.cons (.int _) (.cons (.int _) (.cons (.int _) .nil))))),
      .tup (SqT.of upd_same) (.cons (.int _) (.cons (.int _) (.cons (.int _) (.cons (.int _) (.cons (.int _) .nil))))), rfl, rfl, q _ (s1.trans s2)⟩
end
end Pf

set_option Elab.async false
set_option linter.all false
set_option maxRecDepth 100000
set_option maxHeartbeats 4000000
namespace Pf
open PySem PySem.Spec PyProof.Rows L2
/-- cells in order, strictly -/
abbrev Up (l : List (Int × Int)) : Prop := l.Pairwise fun x y => SrtO.lexB x y = true
theorem up_row (o : Int) (n : Nat) : Up (rowC o n) := by
  unfold rowC
  refine List.pairwise_map.mpr (List.pairwise_iff_getElem.mpr fun i j hi hj h => SrtO.lexB_iff.mpr ?_)
  rw [List.getElem_range, List.getElem_range]
  show o + (i : Int) / 8 < o + (j : Int) / 8 ∨ (o + (i : Int) / 8 = o + (j : Int) / 8 ∧ (i : Int) % 8 < (j : Int) % 8)
  omega
theorem up_col (o : Int) (n : Nat) : Up (colC o n) := by
  unfold colC
  refine List.pairwise_map.mpr (List.pairwise_iff_getElem.mpr fun i j hi hj h => SrtO.lexB_iff.mpr ?_)
  rw [List.getElem_range, List.getElem_range]
  show o + (i : Int) < o + (j : Int) ∨ _
  omega
theorem mem_row {o : Int} {n : Nat} {x : Int × Int} (h : x ∈ rowC o n) : o ≤ x.1 ∧ x.1 < o + ((n : Int) + 7) / 8 := by
  unfold rowC at h
  obtain ⟨i, hi, rfl⟩ := List.mem_map.mp h
  rw [List.mem_range] at hi
  show o ≤ o + (i : Int) / 8 ∧ o + (i : Int) / 8 < _
  omega
theorem mem_col {o : Int} {n : Nat} {x : Int × Int} (h : x ∈ colC o n) : o ≤ x.1 ∧ x.1 < o + (n : Int) := by
  unfold colC at h
  obtain ⟨i, hi, rfl⟩ := List.mem_map.mp h
  rw [List.mem_range] at hi
  show o ≤ o + (i : Int) ∧ o + (i : Int) < _
  omega
theorem up_app {l m : List (Int × Int)} (a b : Int) (hl : Up l) (hm : Up m) (h1 : ∀ x ∈ l, x.1 < a) (h2 : ∀ x ∈ m, a ≤ x.1) : Up (l ++ m) :=
  List.pairwise_append.mpr ⟨hl, hm, fun x hx y hy => SrtO.lexB_iff.mpr (.inl (by have := h1 x hx; have := h2 y hy; omega))⟩
theorem up_srt {l : List (Int × Int)} (h : Up l) : l.Pairwise fun x y => SrtO.lexB y x = false := List.Pairwise.imp (fun {x y} (q : SrtO.lexB x y = true) => by
  have := SrtO.lexB_iff.mp q
  exact SrtO.lexB_no.mpr (by omega)) h
theorem up_nodup {l : List (Int × Int)} (h : Up l) : l.Nodup := List.Pairwise.imp (fun {x y} (q : SrtO.lexB x y = true) e => by
  have := SrtO.lexB_iff.mp q
  subst e
  omega) h
theorem cellsL_up (b : Sh) : Up (cellsL b) := by
  have B := b.bd
  have h1 := b.hd
  have h2 := b.hr
  have h3 := b.hf
  have h4 := b.hb
  have h5 := b.hu
  have e1 : b.fr = 1 + (b.d + 8 - 1) / 8 := rfl
  have e2 : b.fu = b.fr + (b.r + 8 - 1) / 8 := rfl
  have e3 : b.ff = b.fu + (b.u + 8 - 1) / 8 := rfl
  unfold cellsL
  have a0 : ∀ x ∈ [((0 : Int), (0 : Int))], x.1 < 1 := fun x hx => by rw [List.mem_singleton.mp hx]; decide
  have a1 : ∀ x ∈ rowC 1 b.d.toNat, 1 ≤ x.1 ∧ x.1 < b.fr := fun x hx => by have := mem_row hx; omega
  have a2 : ∀ x ∈ rowC b.fr b.r.toNat, b.fr ≤ x.1 ∧ x.1 < b.fu := fun x hx => by have := mem_row hx; omega
  have a3 : ∀ x ∈ rowC b.fu b.u.toNat, b.fu ≤ x.1 ∧ x.1 < b.ff := fun x hx => by have := mem_row hx; omega
  have a4 : ∀ x ∈ colC b.ff b.f.toNat, b.ff ≤ x.1 ∧ x.1 < b.fb := fun x hx => by have := mem_col hx; omega
  have a5 : ∀ x ∈ colC b.fb b.b.toNat, b.fb ≤ x.1 ∧ x.1 < b.pl := fun x hx => by have := mem_col hx; omega
  have u12 : Up (rowC 1 b.d.toNat ++ rowC b.fr b.r.toNat) := up_app b.fr b.fr (up_row _ _) (up_row _ _) (fun x hx => (a1 x hx).2) fun x hx => (a2 x hx).1
  have m12 : ∀ x ∈ rowC 1 b.d.toNat ++ rowC b.fr b.r.toNat, 1 ≤ x.1 ∧ x.1 < b.fu := fun x hx => by
    rcases List.mem_append.mp hx with h | h
    · have := a1 x h; omega
    · have := a2 x h; omega
  have u13 := up_app (m := rowC b.fu b.u.toNat) b.fu b.fu u12 (up_row _ _) (fun x hx => (m12 x hx).2) fun x hx => (a3 x hx).1
  have m13 : ∀ x ∈ (rowC 1 b.d.toNat ++ rowC b.fr b.r.toNat) ++ rowC b.fu b.u.toNat, 1 ≤ x.1 ∧ x.1 < b.ff := fun x hx => by
    rcases List.mem_append.mp hx with h | h
    · have := m12 x h; omega
    · have := a3 x h; omega
  have u03 := up_app (l := [((0 : Int), (0 : Int))]) 1 1 (List.pairwise_singleton _ _) u13 a0 fun x hx => (m13 x hx).1
  have m03 : ∀ x ∈ [((0 : Int), (0 : Int))] ++ ((rowC 1 b.d.toNat ++ rowC b.fr b.r.toNat) ++ rowC b.fu b.u.toNat), x.1 < b.ff := fun x hx => by
    rcases List.mem_append.mp hx with h | h
    · have := a0 x h; omega
    · exact (m13 x h).2
  have u04 := up_app (m := colC b.ff b.f.toNat) b.ff b.ff u03 (up_col _ _) m03 fun x hx => (a4 x hx).1
  refine up_app (m := colC b.fb b.b.toNat) b.fb b.fb u04 (up_col _ _) (fun x hx => ?_) fun x hx => (a5 x hx).1
  rcases List.mem_append.mp hx with h | h
  · have := m03 x h; omega
  · exact (a4 x h).2
theorem colF_more (o : Int) (n : Nat) : colC o (n + 1) = colC o n ++ [(o + ((n : Nat) : Int), 0)] := by unfold colC; rw [List.range_succ, List.map_append]; rfl
/-- the last cell is that of the last block's plate -/
theorem cellsL_last (b : Sh) : ∃ l, cellsL b = l ++ [(b.pl - 1, 0)] := by
  have h4 := b.hb
  have e : b.pl = b.fb + b.b := rfl
  obtain ⟨n, hn⟩ : ∃ n, b.b.toNat = n + 1 := ⟨b.b.toNat - 1, by omega⟩
  unfold cellsL
  rw [hn, colF_more]
  have e2 : b.pl - 1 = b.fb + ((n : Nat) : Int) := by omega
  rw [e2, ← List.append_assoc]
  exact ⟨_, rfl⟩
theorem cellsL_len (b : Sh) : (cellsL b).length ≤ 345 ∧ 0 < (cellsL b).length := by
  have h1 := b.hd
  have h2 := b.hr
  have h3 := b.hf
  have h4 := b.hb
  have h5 := b.hu
  unfold cellsL rowC colC
  simp only [List.length_append, List.length_map, List.length_range, List.length_cons, List.length_nil]
  omega
/-- what sorted(cells) lays is what stood there -/
theorem sorted_cells {K : PySem.W.Frag} {H : Hp} {us ys : List V} {l : List (Int × Int)} (h : Up l) (k : V → Int × Int) (hk : us.map k = l) (h1 : SrtO.Srtd (ltP k) ys) (h2 : SrtO.Stb (ltP k) ys us) : ys = us := by
  refine SrtO.stb_uniq (ltP_swo k) h1 ?_ h2
  have := up_srt h
  rw [← hk] at this
  exact List.pairwise_map.mp this
end Pf

set_option Elab.async false
set_option linter.all false
set_option maxRecDepth 100000
set_option maxHeartbeats 4000000
/-! a != b, instances whose class has an own == and no own !=. -/
namespace L2
open PySem PySem.Spec PyProof.Rows PySem.SeqAt
section
variable {M : Model} {prog : Program} {w : World} {A : Around} {E : Value → Shared → Prop} {s : Shared} {K : PySem.W.Frag} {x C f : Addr} {ox : Obj} {od : Option Obj}
theorem ifBound_objNe {args : List Value} {Q : Option Value → Shared → Prop} (X : K.In s.heap) (I : PySem.W.InstAt s.heap x ox C od) (hs : PySem.W.findIn K (.ref C) "__ne__" = some (some (.builtin "object.__ne__")))
    (h : wpAny M A (call (.builtin "object.__ne__") (.ref x :: args)) (fun v => Q (some v)) E s) : wpAny M A (callSpecialIfBound? (.ref x) "__ne__" args) Q E s := by
  simp only [callSpecialIfBound?, bindSpecialIfBound?]
  refine wpAny_holding (wpAny_bind (wpAny_bind (wpAny_bind (I.type.here ((PySem.W.looks_findIn X hs).here ?_)))))
  refine wpAny_bind (wpAny_askSetting (wpAny_ite ?_))
  have fin : wpAny M A (call (.builtin "object.__ne__") ([.ref x] ++ args) >>= fun v => pure (some v)) Q E s := wpAny_bind (wpAny_mono h (fun v s' h' => wpAny_pure h') fun _ _ h' => h')
  split
  · exact wpAny_bind (wpAny_of_eq (F.cmp_object.ne.bind _) (wpAny_pure (by exact fin)))
  · exact wpAny_tryCatch (wpAny_bind (wpAny_of_eq (F.cmp_object.ne.bind _) (wpAny_pure (by exact fin))))
theorem objNe_own {y : Value} (hu : A.units < cLine) (X : K.In s.heap) (I : PySem.W.InstAt s.heap x ox C od) (hs : PySem.W.findIn K (.ref C) "__eq__" = some (some (.ref f))) (hf : PySem.W.isFn K (.ref f) = true) {Q : Fin → Shared → Prop}
    (hcall : wpAny (model prog w) A (call (.ref f) [.ref x, y]) (fun v s' => ∃ b, v = .bool b ∧ Q (.done (.ret (.bool (!b)))) s') E s) :
    wpAny (model prog w) A (Builtin.«object.__ne__» ⟨[.ref x, y], []⟩) Q E s := by
  unfold Builtin.«object.__ne__»
  repeat (first
    | with_reducible refine wpAny_cRoomFor hu ?_
    | (refine wpAny_bind (m := callSpecialIfBound? (.ref x) (Str.ofString "__eq__") [y])
        (PySem.W.ifBound_K X I hs hf (wpAny_mono hcall (fun r s' hr => by
          obtain ⟨b, rfl, hq⟩ := hr
          repeat (first | exact hq | exact wpAny_pure hq | exact wpAny_truthy_bool hq | (refine wpAny_bind (m := truthy (.bool _)) (wpAny_truthy_bool ?_)) | wp_step)) fun _ _ e => e)))
    | wp_step)
theorem call_objNe {y : Value} {Q : Value → Shared → Prop} (hu : A.units + 1 < cLine) (X : K.In s.heap) (I : PySem.W.InstAt s.heap x ox C od) (hm : PySem.W.mroIn K C (.type "object") = some true) (hs : PySem.W.findIn K (.ref C) "__eq__" = some (some (.ref f))) (hf : PySem.W.isFn K (.ref f) = true)
    (hcall : wpAny (model prog w) A.in1 (call (.ref f) [.ref x, y]) (fun v s' => ∃ b, v = .bool b ∧ Q (.bool (!b)) s') E s) :
    wpAny (model prog w) A (call (.builtin "object.__ne__") [.ref x, y]) Q E s :=
  wpAny_call (codeAny_call_builtin F.cmp_object.ne.plain F.cmpEntry_ne (PySem.W.check_slot F.cmpKind_ne F.cmpSplit_ne (I.type.andThen (PySem.W.looks_mroIn X hm)) (F.cmpArgs_ne _ _) (objNe_own (A := A.in1) hu X I hs hf hcall)))
theorem rc_neOwn {y : Addr} {oy : Obj} {od' : Option Obj} {Q : Value → Shared → Prop} (hu : A.units + 1 < cLine) (X : K.In s.heap) (I : PySem.W.InstAt s.heap x ox C od) (J : PySem.W.InstAt s.heap y oy C od') (hm : PySem.W.mroIn K C (.type "object") = some true)
    (hn : PySem.W.findIn K (.ref C) "__ne__" = some (some (.builtin "object.__ne__"))) (hs : PySem.W.findIn K (.ref C) "__eq__" = some (some (.ref f))) (hf : PySem.W.isFn K (.ref f) = true)
    (hcall : wpAny (model prog w) A.in1 (call (.ref f) [.ref x, .ref y]) (fun v s' => ∃ b, v = .bool b ∧ Q (.bool (!b)) s') E s) :
    wpAny (model prog w) A (richCompare .NotEq (.ref x) (.ref y)) Q E s := by
  have one : wpAny (model prog w) A (tryCompare (.ref x) "__ne__" (.ref y)) (fun r s' => ∃ b, r = some (.bool (!b)) ∧ Q (.bool (!b)) s') E s := by
    unfold tryCompare
    refine wpAny_bind (ifBound_objNe X I hn (call_objNe hu X I hm hs hf (wpAny_mono hcall (fun v s' hv => ?_) fun _ _ e => e)))
    obtain ⟨b, rfl, hq⟩ := hv
    exact ⟨b, rfl, wpAny_pure ⟨b, rfl, hq⟩⟩
  unfold richCompare
  simp only [oneThing_ref]
  refine wpAny_holding (wpAny_bind (wpAny_cRoomFor (Nat.lt_of_succ_lt hu) ?_))
  rw [PySem.cmpInfo_NotEq]
  dsimp only
  refine wpAny_bind (I.type.here (wpAny_bind (J.type.here ?_)))
  rw [show (Value.ref C != Value.ref C) = false from by simp]
  simp only [Bool.false_eq_true, if_false]
  refine wpAny_bind (wpAny_pure ?_)
  simp only [Bool.false_eq_true, if_false]
  refine wpAny_bind (wpAny_mono one (fun r s' z => ?_) fun _ _ e => e)
  obtain ⟨b, rfl, hq⟩ := z
  exact wpAny_pure hq
end
end L2

set_option Elab.async false
set_option linter.all false
set_option maxRecDepth 100000
set_option maxHeartbeats 4000000
namespace L2
open PySem PySem.Spec PyProof.Rows PySem.SeqAt
section
variable {X : Cx} {CX : CXT} {n : Nat} {C f : Addr} {fd : FuncData} {ps : List Str} {sp : Sp} {E : XK}
/-- what a class with an own == and no own != says -/
structure NeC (K : PySem.W.Frag) (C f : Addr) : Prop where
  mo : PySem.W.mroIn K C (.type "object") = some true
  ne : PySem.W.findIn K (.ref C) "__ne__" = some (some (.builtin "object.__ne__"))
  eq : PySem.W.findIn K (.ref C) "__eq__" = some (some (.ref f))
  fn : PySem.W.isFn K (.ref f) = true
/-- a != b: what the own == answers, turned round -/
def rNeOwn (C : Addr) (sp : Sp) (E : XK) : R2 := fun x y H Q => ∃ a b dx dy fs gs, x = .ref a ∧ y = .ref b ∧ H a = some (.ins C dx fs) ∧ H b = some (.ins C dy gs) ∧ sp [.ref a, .ref b] H (fun v H' => ∃ c, v = .bl c ∧ Q (.bl (!c)) H') E
theorem op_neOwn (F : FnOk X.prog X.w X.K X.mg X.base CX n f fd ps sp) (N : NeC X.K C f) (hb : Binds X.K fd ps []) (hx : Passes CX X E) (hr : Room (n + 1) X.A) : OpR X (compareOp .NotEq) (rNeOwn C sp E) := by
  intro pins s σ H x y v u Q I rx ry h
  obtain ⟨a, b, dx, dy, fs, gs, rfl, rfl, ha, hb', hsp⟩ := h
  cases rx
  cases ry
  show wpAny (model X.prog X.w) X.A (richCompare .NotEq (.ref a) (.ref b)) (EP X pins σ Q) X.xe s
  obtain ⟨mA, J, _⟩ := ins_get I.hok ha
  obtain ⟨mB, J', _⟩ := ins_get I.hok hb'
  obtain ⟨od, J, _⟩ := J.look
  obtain ⟨od', J', _⟩ := J'.look
  refine rc_neOwn (by have := hr.units; omega) I.kIn J J' N.mo N.ne N.eq N.fn ?_
  have e0 : Env0 X.prog X.w X.K X.mg X.base X.A.in1 X.stack s H := by
    have e := I.env0
    exact ⟨e.frames, e.mod, e.bs, e.bsz, e.funs, e.frf, e.hok, e.bare⟩
  have hl := F.len _ _ _ _ hsp
  have r2 : Vals [V.ref a, V.ref b] [Value.ref a, Value.ref b] := .cons rfl (.cons rfl .nil)
  refine wpAny_call (codeAny_mono (F.run X.A.in1 X.stack s H ⟨[.ref a, .ref b], []⟩ [.ref a, .ref b] [.ref a, .ref b] _ E hr.in1 e0 (by
    have := hb s [.ref a, .ref b] I.kIn (by simpa using hl)
    simpa using this) r2 hsp) fun r s' hq => ?_)
  cases r with
  | error e => exact hx pins σ H s e s' I hq
  | ok fl =>
    cases fl with
    | ret w =>
      obtain ⟨z, H', I', rz, c, ez, q⟩ := I.after hq
      subst ez
      cases rz
      exact ⟨c, rfl, .bl (!c), H', I', rfl, q⟩
    | next => exact False.elim hq
    | brk => exact False.elim hq
    | cont => exact False.elim hq
end
end L2

set_option Elab.async false
set_option linter.all false
set_option maxRecDepth 100000
set_option maxHeartbeats 4000000
/-! sorted(d), d a dict whose keys are pairs of ints, of any size: a new list of as many. -/
namespace L2
open PySem PySem.Spec PyProof.Rows PySem.W
/-- the pair behind a reference -/
def pairAt (H : Hp) : Value → Int × Int
  | .ref a => match H a with
    | some (.tup [.int i, .int j]) => (i, j)
    | _ => (0, 0)
  | _ => (0, 0)
theorem paired_mem {α β : Type} {F : α → β → Prop} : ∀ {l₁ : List α} {l₂ : List β}, Paired F l₁ l₂ → ∀ b ∈ l₂, ∃ a ∈ l₁, F a b
  | _, _, .nil, b, h => by cases h
  | _, _, .cons h r, b, m => by
    rcases List.mem_cons.mp m with e | m
    · rw [e]; exact ⟨_, List.mem_cons_self, h⟩
    · obtain ⟨a, ha, f⟩ := paired_mem r b m
      exact ⟨a, List.mem_cons_of_mem _ ha, f⟩
section
variable {X : Cx}
theorem call_sortedDTP (hc : X.calm = true) : CallR X (.builtin "sorted") (fun xs H Q => ∃ d kvs, xs = [V.ref d] ∧ Rd H d (.dT kvs) ∧ (∀ p ∈ kvs, ∃ i j : Int, p.1 = [.inl i, .inl j]) ∧
    ∀ p bs, H p = none → bs.length = kvs.length → Q (.ref p) (upd H p (.lst bs))) := by
  intro pins s σ H xs us Q I r h
  obtain ⟨d, kvs, rfl, hd, hpr, q⟩ := h
  obtain ⟨u, rfl, rx⟩ := r.one
  cases rx
  obtain ⟨z, hs, ks, pr, o, es, ep, ho, hx, hdt, he, hn⟩ := (show ObjOk X.prog X.w H s.heap d (.dT kvs) from hd.ok I.hok)
  have l1 : es.size = ks.length := size_of_entries he
  have l2 : kvs.length = ks.length := Paired.length pr
  refine Calls.call_function_entry PyProof.Rows.kind_sorted PyProof.Rows.plain_sorted PyProof.Rows.entry_sorted (PyProof.Rows.args_sorted1 _) ?_
  unfold Builtin.«sorted»
  refine wpAny_bind (m := checkCount "sorted" 1 1 _) (wpAny_pure ?_)
  refine wpAny_bind (PySem.W.kdu_collect (A := X.A.in1) (kdl_raw hs hx hdt) (I.ok.hd hc) ho (by omega) fun h' tk acc' kp it => ?_)
  have ea : acc'.toList = ks.map fun x => Value.ref x.2.1 := by
    have hl : acc'.toList.length = ks.length := by rw [Array.length_toList, it.1]; exact l1
    apply List.ext_getElem?
    intro j
    rw [List.getElem?_map]
    cases hj : acc'.toList[j]? with
    | none =>
      have h1 := List.getElem?_eq_none_iff.mp hj
      rw [List.getElem?_eq_none (by omega)]
      all_goals rfl
    | some v =>
      obtain ⟨en, hen, hv⟩ := it.2 j v (by rw [← Array.getElem?_toList]; exact hj)
      have qe := entry_at he j
      rw [hen] at qe
      cases hb : ks[j]? with
      | none =>
        rw [hb] at qe
        exact nomatch (show some en = none from qe)
      | some b =>
        rw [hb] at qe
        have e2 : en = entryOfKey (tupleKind (mixKind X.prog X.w)) b := Option.some.inj qe
        rw [hv, e2]
        all_goals rfl
  have hal : acc'.toList.length = ks.length := by rw [ea, List.length_map]
  have hz : acc'.toList.length ≤ sizeLine := by omega
  have hp : ∀ v ∈ acc'.toList, Srt.IsPair s.heap v (pairAt H v).1 (pairAt H v).2 := fun v hv => by
    rw [ea] at hv
    obtain ⟨x, hxm, rfl⟩ := List.mem_map.mp hv
    obtain ⟨p, hpm, e1, e2, _⟩ : ∃ p ∈ kvs, p.1 = x.1 ∧ H x.2.1 = some (.tup (p.1.map kV)) ∧ RelV p.2 x.2.2 := by
      exact paired_mem pr x hxm
    obtain ⟨i, j, ep⟩ := hpr p hpm
    rw [ep] at e2
    have ht : H x.2.1 = some (.tup [.int i, .int j]) := e2
    have ek : pairAt H (.ref x.2.1) = (i, j) := by simp only [pairAt, ht]
    rw [ek]
    obtain ⟨_, its2, r2, o, ho, hc, n, hd⟩ := I.hok _ _ ht
    obtain ⟨u1, u2, rfl, ri, rj⟩ := vals2 r2
    obtain ⟨t1, rfl⟩ := ri
    obtain ⟨t2, rfl⟩ := rj
    exact ⟨x.2.1, o, t1, t2, n, rfl, ho, hc, hd⟩
  have I1 : Inv X pins σ H { s with heap := h', toks := tk } := I.kept kp
  refine wpAny_bind (wpAny_newList ?_ hz)
  have hoL : (h'.push (seqObj "list" acc'.toList.toArray 0)).get? h'.objs.size = some (seqObj "list" acc'.toList.toArray 0) := Heap.get?_push_size _ rfl
  show wpAny _ _ _ _ _ { s with heap := h'.push (seqObj "list" acc'.toList.toArray 0), toks := tk }
  refine wpAny_bind (wpAny_holding (wpAny_call_entry PyProof.Rows.slot_list_sort ⟨_, hoL, rfl⟩ PyProof.Rows.entry_list_sort
    (SrtO.list_sort_ord (s := { s with heap := h'.push (seqObj "list" acc'.toList.toArray 0), toks := tk }) (SrtO.swo_lex (pairAt H)) hoL hz (fun h2 => ?_) fun out hs hb => ⟨_, rfl, ?_⟩) (PyProof.Rows.args_list_sort _)))
  · refine SrtO.pairs_sortableO (by omega) (fun v hm => (hp v hm).keeps fun b o e _ => Heap.get?_push_of_some _ (kp b o e)) fun o e => ?_
    have e' : some o = some (seqObj "list" acc'.toList.toArray 0) := e.symm.trans hoL
    cases e'
    intro c
    exact absurd (Value.type.inj c) (by decide)
  · obtain ⟨e', he'⟩ := PyProof.Rows.sortedHeap_at (vs := acc'.toList) (out := out.toArray) hoL
    have hr : ∀ u ∈ out, ∃ a, u = Value.ref a := fun u hu => by
      have := hb.perm.mem_iff.mp hu
      rw [ea] at this
      obtain ⟨x, _, e⟩ := List.mem_map.mp this
      exact ⟨_, e.symm⟩
    have hlo : out.length = kvs.length := by rw [hb.perm.length_eq, hal, l2]
    have hlen : (out.map backV).length ≤ sizeLine := by rw [List.length_map]; omega
    refine wpAny_pure ⟨_, rfl, .ref h'.objs.size, upd H h'.objs.size (.lst (out.map backV)), I1.laid (t' := tk) (fun b u e => ?_) (Nat.le_refl _)
      (show ObjOk X.prog X.w _ _ _ (.lst (out.map backV)) from ⟨hlen, out, e', vals_back hr, he'⟩), rfl, q _ _ (I1.hok.fresh (Nat.le_refl _)) (by rw [List.length_map]; exact hlo)⟩
    have hb : b < h'.objs.size := Heap.lt_size e
    rw [PyProof.Rows.sortedHeap_old (Nat.ne_of_lt hb) (by rw [size_push']; exact Nat.lt_succ_of_lt hb)]
    exact Heap.get?_push_of_some _ e
end
end L2

set_option Elab.async false
set_option linter.all false
set_option maxRecDepth 100000
set_option maxHeartbeats 4000000
/-! sorted(d), d a dict whose keys are tuples of ints (one at least), of any size: a new list of as many. -/
namespace L2
open PySem PySem.Spec PyProof.Rows PySem.W
/-- ints, as tupItems reads them -/
theorem items_ints : ∀ {is : List Int} {us : List Value} (i : Nat), Vals (is.map V.int) us → tupItems (fun _ => false) i us = some (is.map Sum.inl)
  | [], _, _, .nil => rfl
  | k :: is, _, i, .cons r rs => by
    obtain ⟨t, rfl⟩ := r
    show (if false = true then none else (tupItems (fun _ => false) (i + 1) _).map (Sum.inl k :: ·)) = _
    rw [items_ints (i + 1) rs]
    simp
theorem tups_ex {h : Heap} {sh : Nat → Bool} : ∀ {vs : List Value}, (∀ v ∈ vs, ∃ f, TupOf h sh v f) → ∃ fs, TupsOf h sh vs fs
  | [], _ => ⟨[], .nil⟩
  | v :: vs, hv => by
    obtain ⟨f, hf⟩ := hv v List.mem_cons_self
    obtain ⟨fs, hfs⟩ := tups_ex fun u hu => hv u (List.mem_cons_of_mem _ hu)
    exact ⟨f :: fs, .cons hf hfs⟩
section
variable {X : Cx}
theorem call_sortedDTI (hc : X.calm = true) : CallR X (.builtin "sorted") (fun xs H Q => ∃ d kvs, xs = [V.ref d] ∧ Rd H d (.dT kvs) ∧ (∀ p ∈ kvs, ∃ (i : Int) (is : List Int), p.1 = (i :: is).map Sum.inl) ∧
    ∀ p bs, H p = none → bs.length = kvs.length → Q (.ref p) (upd H p (.lst bs))) := by
  intro pins s σ H xs us Q I r h
  obtain ⟨d, kvs, rfl, hd, hpr, q⟩ := h
  obtain ⟨u, rfl, rx⟩ := r.one
  cases rx
  obtain ⟨z, hs, ks, pr, o, es, ep, ho, hx, hdt, he, hn⟩ := (show ObjOk X.prog X.w H s.heap d (.dT kvs) from hd.ok I.hok)
  have l1 : es.size = ks.length := size_of_entries he
  have l2 : kvs.length = ks.length := Paired.length pr
  refine Calls.call_function_entry PyProof.Rows.kind_sorted PyProof.Rows.plain_sorted PyProof.Rows.entry_sorted (PyProof.Rows.args_sorted1 _) ?_
  unfold Builtin.«sorted»
  refine wpAny_bind (m := checkCount "sorted" 1 1 _) (wpAny_pure ?_)
  refine wpAny_bind (PySem.W.kdu_collect (A := X.A.in1) (kdl_raw hs hx hdt) (I.ok.hd hc) ho (by omega) fun h' tk acc' kp it => ?_)
  have ea : acc'.toList = ks.map fun x => Value.ref x.2.1 := by
    have hl : acc'.toList.length = ks.length := by rw [Array.length_toList, it.1]; exact l1
    apply List.ext_getElem?
    intro j
    rw [List.getElem?_map]
    cases hj : acc'.toList[j]? with
    | none =>
      have h1 := List.getElem?_eq_none_iff.mp hj
      rw [List.getElem?_eq_none (by omega)]
      all_goals rfl
    | some v =>
      obtain ⟨en, hen, hv⟩ := it.2 j v (by rw [← Array.getElem?_toList]; exact hj)
      have qe := entry_at he j
      rw [hen] at qe
      cases hb : ks[j]? with
      | none =>
        rw [hb] at qe
        exact nomatch (show some en = none from qe)
      | some b =>
        rw [hb] at qe
        have e2 : en = entryOfKey (tupleKind (mixKind X.prog X.w)) b := Option.some.inj qe
        rw [hv, e2]
        all_goals rfl
  have hal : acc'.toList.length = ks.length := by rw [ea, List.length_map]
  have hz : acc'.toList.length ≤ sizeLine := by omega
  have hp : ∀ v ∈ acc'.toList, ∃ a o its n, ∃ (i : Int) (is : List Int), v = .ref a ∧ s.heap.get? a = some o ∧ o.cls = .type "tuple" ∧ o.data = .seq its n ∧ Vals ((i :: is).map V.int) its.toList := fun v hv => by
    rw [ea] at hv
    obtain ⟨x, hxm, rfl⟩ := List.mem_map.mp hv
    obtain ⟨p, hpm, e1, e2, _⟩ := paired_mem pr x hxm
    obtain ⟨i, is, ep⟩ := hpr p hpm
    rw [ep, List.map_map] at e2
    obtain ⟨_, its2, r2, o, ho, hc, n, hd⟩ := I.hok _ _ e2
    exact ⟨x.2.1, o, its2.toArray, n, i, is, rfl, ho, hc, hd, r2⟩
  have I1 : Inv X pins σ H { s with heap := h', toks := tk } := I.kept kp
  refine wpAny_bind (wpAny_newList ?_ hz)
  have hoL : (h'.push (seqObj "list" acc'.toList.toArray 0)).get? h'.objs.size = some (seqObj "list" acc'.toList.toArray 0) := Heap.get?_push_size _ rfl
  show wpAny _ _ _ _ _ { s with heap := h'.push (seqObj "list" acc'.toList.toArray 0), toks := tk }
  obtain ⟨fs, hfs⟩ : ∃ fs, TupsOf (h'.push (seqObj "list" acc'.toList.toArray 0)) (fun _ => false) acc'.toList fs := tups_ex fun v hv => by
    obtain ⟨a, o, its, n, i, is, rfl, ho, hc, hd, r⟩ := hp v hv
    obtain ⟨its, rfl⟩ : ∃ l : List Value, its = l.toArray := ⟨its.toList, by simp⟩
    cases r with
    | cons r1 rs =>
      obtain ⟨t, rfl⟩ := r1
      exact ⟨.int i t, a, o, _, n, rfl, Heap.get?_push_of_some _ (kp _ _ ho), hc, hd, rfl, fun _ => ⟨i, t, rfl⟩, fun c => nomatch c⟩
  refine wpAny_bind (wpAny_holding (wpAny_call_entry PyProof.Rows.slot_list_sort ⟨_, hoL, rfl⟩ PyProof.Rows.entry_list_sort
    (PyProof.Rows.G.list_sort_tups (shape := fun _ => false) (s := { s with heap := h'.push (seqObj "list" acc'.toList.toArray 0), toks := tk }) hoL hfs ?_ hz fun st' g1 g2 g3 => ⟨_, rfl, ?_⟩) (PyProof.Rows.args_list_sort _)))
  · intro v hv
    obtain ⟨a, o, its, n, i, is, rfl, ho, hc, hd, r⟩ := hp v hv
    exact ⟨_, PyProof.Rows.G.tupKeyC_of (Heap.get?_push_of_some _ (kp _ _ ho)) hc hd (items_ints 0 r)⟩
  · obtain ⟨e', he'⟩ := PyProof.Rows.sortedHeap_at (vs := acc'.toList) (out := (arrOf st').map (·.2)) hoL
    have hpm : ((arrOf st').map (·.2)).toList.Perm acc'.toList := by
      have p1 := (Array.perm_iff_toList_perm.mp g1).map (·.2)
      rw [pairsOf_toList, List.map_snd_zip (Nat.le_refl _)] at p1
      rw [Array.toList_map]
      exact p1
    have hr : ∀ u ∈ ((arrOf st').map (·.2)).toList, ∃ a, u = Value.ref a := fun u hu => by
      have := hpm.mem_iff.mp hu
      rw [ea] at this
      obtain ⟨x, _, e⟩ := List.mem_map.mp this
      exact ⟨_, e.symm⟩
    have hlo : ((arrOf st').map (·.2)).toList.length = kvs.length := by rw [hpm.length_eq, hal, l2]
    have hlen : (((arrOf st').map (·.2)).toList.map backV).length ≤ sizeLine := by rw [List.length_map]; omega
    refine wpAny_pure ⟨_, rfl, .ref h'.objs.size, upd H h'.objs.size (.lst (((arrOf st').map (·.2)).toList.map backV)), I1.laid (t' := tk) (fun b u e => ?_) (Nat.le_refl _)
      (show ObjOk X.prog X.w _ _ _ (.lst (((arrOf st').map (·.2)).toList.map backV)) from ⟨hlen, _, e', vals_back hr, by rw [Array.toArray_toList]; exact he'⟩), rfl, q _ _ (I1.hok.fresh (Nat.le_refl _)) (by rw [List.length_map]; exact hlo)⟩
    have hb : b < h'.objs.size := Heap.lt_size e
    rw [PyProof.Rows.sortedHeap_old (Nat.ne_of_lt hb) (by rw [size_push']; exact Nat.lt_succ_of_lt hb)]
    exact Heap.get?_push_of_some _ e
end
end L2

set_option Elab.async false
set_option linter.all false
set_option maxRecDepth 100000
set_option maxHeartbeats 4000000
namespace Pf
open PySem PySem.Spec PyProof.Rows L2
abbrev NUl : List Str := ["_law_items", "_law_found", "_law_one"]
theorem scUnl : FnScope NUl ["_law_items"] (defScope sUnl) := ⟨rfl, rfl, rfl, by decide +kernel, rfl, by decide +kernel, by decide +kernel⟩
/-- tuples as keys, each with True -/
def unK (l : List (Addr × List Int)) : List (List Key × V) := l.map fun p => (p.2.map Sum.inl, V.bl true)
theorem inl_map_inj : ∀ {a b : List Int}, a.map (Sum.inl (β := Str)) = b.map Sum.inl → a = b
  | [], [], _ => rfl
  | [], _ :: _, h => by cases h
  | _ :: _, [], h => by cases h
  | x :: a, y :: b, h => by
    obtain ⟨h1, h2⟩ := List.cons.inj h
    rw [Sum.inl.inj h1, inl_map_inj h2]
theorem unK_put {l : List (Addr × List Int)} {x : Addr × List Int} (h : x.2 ∉ l.map (·.2)) : putK (unK l) (x.2.map Sum.inl) (V.bl true) = unK (l ++ [x]) := by
  unfold putK
  have hno : ((unK l).any fun kv => decide (kv.1 = x.2.map Sum.inl)) = false := by
    rw [List.any_eq_false]
    intro y hy z
    have z' : y.1 = x.2.map Sum.inl := of_decide_eq_true z
    obtain ⟨p, hp, rfl⟩ := List.mem_map.mp hy
    exact h (List.mem_map.mpr ⟨p, hp, inl_map_inj z'⟩)
  rw [hno, if_neg (by decide)]
  unfold unK
  rw [List.map_append]
  rfl
section
variable {P : Program} {w : World} {K : PySem.W.Frag} {mg : Str → Option Value} {base : Heap} {C : Addr}
/-- _law_unlike(items), tuples of whole numbers that are all unlike -/
def spUnl (K : PySem.W.Frag) : Sp := fun vs H Q _ => ∃ (l : Addr) (ks : List (Addr × List Int)), vs = [.ref l] ∧ H l = some (.lst (ks.map fun p => V.ref p.1)) ∧ (∀ p ∈ ks, p.2 ≠ [] ∧ H p.1 = some (.tup (p.2.map V.int))) ∧ (ks.map (·.2)).Nodup ∧ ks.length ≤ 400 ∧
  ∀ H' p us, Same H H' → H p = none → H' p = some (.lst us) → us.length = ks.length → Q (.ref p) H'
theorem ok_unl {f : Addr} {fd : FuncData} (F : Fun K "_law_unlike" "_law_unlike" sUnl f fd) (mso : mg "sorted" = none) : FnOk P w K mg base CX0 1 f fd ["_law_items"] (spUnl K) := by
  refine F.ok scUnl (fun vs H Q E h => ?_) (fun cdv A outer s H vs Q E hr h => ?_)
  · obtain ⟨l, ks, rfl, _⟩ := h
    rfl
  · obtain ⟨l, ks, rfl, hl, hk, hn, hz, q⟩ := h
    have nd := scUnl.nd
    refine ⟨_, pss_cons (ps_set (i := 1) nd rfl (.inl rfl) pe_dnewT)
      (pss_cons (ps_for PassesOwn.never rfl (pi_list (pv 0)) (pg_name (i := 2) nd rfl (.inl rfl)) (pss_one (ps_dput (hu_of hr) (pv 1) (pv 2) pe_bl rfl)))
      (pss_one (ps_ret (pe_callB (call_sortedDTI rfl) (by rfl) mso (by decide +kernel) (pa_cons (pv 1) pa_nil))))), ?_⟩
    intro d hd
    have s1 := same_upd (o := .dT []) hd
    have ndl : l ≠ d := fun z => by rw [z, hd] at hl; cases hl
    refine ⟨_, rfl, l, rfl, ⟨_, SqL.of (s1 _ _ hl)⟩, for_list (K := K) (a := l) (xs := ks.map fun p => V.ref p.1) (fun i σ H' => ∃ y2, σ = [some (.ref l), some (.ref d), y2] ∧ Same H H' ∧ H' d = some (.dT (unK (ks.take i)))) ⟨none, rfl, s1, upd_same⟩ (fun i σ H' _ z => by obtain ⟨_, _, z, _⟩ := z; exact SqL.of (z _ _ hl)) ?_ ?_⟩
    · rintro i x σ H' hx ⟨y2, rfl, z, e⟩
      obtain ⟨p, hp, rfl⟩ : ∃ p, ks[i]? = some p ∧ x = V.ref p.1 := by
        rw [List.getElem?_map] at hx
        cases hp : ks[i]? with
        | none => rw [hp] at hx; cases hx
        | some p => rw [hp] at hx; exact ⟨p, rfl, (Option.some.inj hx).symm⟩
      have hm : p ∈ ks := List.mem_of_getElem? hp
      obtain ⟨hne, hpt⟩ := hk p hm
      have hT : ks.take (i + 1) = ks.take i ++ [p] := by rw [List.take_succ, hp]; rfl
      have hnp : p.2 ∉ (ks.take i).map (·.2) := by
        have h1 : ((ks.take i ++ [p]).map (·.2)).Nodup := by
          rw [← hT]
          exact List.Sublist.nodup ((List.take_sublist _ _).map _) hn
        rw [List.map_append] at h1
        exact fun m => (List.nodup_append.mp h1).2.2 _ m _ (List.mem_cons_self) rfl
      have hkt : H' p.1 = some (.tup ((p.2.map (Sum.inl (β := Str))).map kV)) := by
        rw [List.map_map]
        exact z _ _ hpt
      have hle : (unK (ks.take i)).length < sizeLine := by
        unfold unK
        rw [List.length_map, List.length_take, sizeLine_eq]
        omega
      refine ⟨_, rfl, _, rfl, d, _, rfl, DPut.t (k := p.2.map Sum.inl) e hkt hle, _, rfl, fun c o e9 => by rw [upd_ne (ne_of_none e9 hd)]; exact z _ _ e9, ?_⟩
      rw [upd_same, unK_put hnp, hT]
    · rintro σ H' ⟨y2, rfl, z, e⟩
      rw [List.length_map, List.take_length] at e
      refine ⟨_, rfl, d, _, rfl, .inl e, fun p hp => ?_, fun p us hp hlu => ?_⟩
      · obtain ⟨x, hx, rfl⟩ := List.mem_map.mp hp
        obtain ⟨hne, _⟩ := hk x hx
        cases h2 : x.2 with
        | nil => exact absurd h2 hne
        | cons i is => exact ⟨i, is, rfl⟩
      · have hpn : H p = none := by
          cases h9 : H p with
          | none => rfl
          | some o => rw [z _ _ h9] at hp; cases hp
        refine q _ p us (fun c o e9 => by rw [upd_ne (ne_of_none e9 hpn)]; exact z _ _ e9) hpn upd_same ?_
        rw [hlu]
        exact List.length_map _
end
end Pf

set_option Elab.async false
set_option linter.all false
set_option maxRecDepth 100000
set_option maxHeartbeats 4000000
namespace Pf
open PySem PySem.Spec PyProof.Rows L2
/-- the 75 spots are unlike, none is empty -/
def spots : List (List Int) := (List.range 75).map fun k => spI ((k : Nat) : Int)
theorem spots_nodup : spots.Nodup := by decide +kernel
theorem spots_some : ∀ x ∈ spots, x ≠ [] := by decide +kernel
theorem spots_len : spots.length = 75 := by decide +kernel
/-- pairs as rows -/
theorem pair_nodup {l : List (Int × Int)} (h : l.Nodup) : (l.map fun x => [x.1, x.2]).Nodup := by
  refine List.pairwise_map.mpr (List.Pairwise.imp (fun {a b} hab e => hab ?_) h)
  obtain ⟨h1, h2⟩ := List.cons.inj e
  exact Prod.ext h1 (List.cons.inj h2).1
/-- the list of told pairs, with its addresses -/
theorem pairs_at {K : PySem.W.Frag} {H : Hp} : ∀ {us : List V} {l : List (Int × Int)}, (∀ u ∈ us, ∃ t, u = V.ref t) → us.length = l.length → (∀ (i : Nat) (t : Addr) (x : Int × Int), us[i]? = some (V.ref t) → l[i]? = some x → H t = some (.tup [.int x.1, .int x.2])) →
    ∃ ks : List (Addr × List Int), us = ks.map (fun p => V.ref p.1) ∧ ks.map (·.2) = l.map (fun x => [x.1, x.2]) ∧ ∀ p ∈ ks, p.2 ≠ [] ∧ H p.1 = some (.tup (p.2.map V.int))
  | [], [], _, _, _ => ⟨[], rfl, rfl, fun p hp => by cases hp⟩
  | [], _ :: _, _, h, _ => by simp at h
  | _ :: _, [], _, h, _ => by simp at h
  | u :: us, x :: l, hu, hl, ht => by
    obtain ⟨t, rfl⟩ := hu u List.mem_cons_self
    obtain ⟨ks, e1, e2, e3⟩ := pairs_at (K := K) (H := H) (us := us) (l := l) (fun v hv => hu v (List.mem_cons_of_mem _ hv)) (by simpa using hl) fun i t x a b => ht (i + 1) t x (by simpa using a) (by simpa using b)
    refine ⟨(t, [x.1, x.2]) :: ks, by rw [e1]; rfl, by rw [List.map_cons, List.map_cons, e2], fun p hp => ?_⟩
    rcases List.mem_cons.mp hp with e | m
    · rw [e]
      exact ⟨by simp, ht 0 t x rfl rfl⟩
    · exact e3 p m
end Pf

set_option Elab.async false
set_option linter.all false
set_option maxRecDepth 100000
set_option maxHeartbeats 4000000
namespace Pf
open PySem PySem.Spec PyProof.Rows L2
/-- a told int that is no constant -/
theorem dp_int {H : Hp} {v : V} {i : Int} (h : Dp [] H v (.int i)) : v = .int i := by
  cases h
  rfl
theorem sqt_nil {H : Hp} {a : Addr} {xs : List V} (h : SqT [] (Tu H) a xs) : H a = some (.tup xs) := by
  rcases h with h | ⟨o, its, n, hk, _⟩
  · rcases h with h | ⟨od, h⟩
    · obtain ⟨ys, e, h⟩ := tu_some h
      cases e
      exact h
    · obtain ⟨ys, e, _⟩ := tu_some h
      cases e
  · cases hk
theorem cells_go {H : Hp} : ∀ {us : List V} {l : List (Int × Int)}, DpAll [] (Tu H) us (l.map pD1) → ∃ ks : List (Addr × List Int), us = ks.map (fun p => V.ref p.1) ∧ ks.map (·.2) = l.map (fun x => [x.1, x.2]) ∧ ∀ p ∈ ks, p.2 ≠ [] ∧ H p.1 = some (.tup (p.2.map V.int))
  | _, [], h => by
    cases h
    exact ⟨[], rfl, rfl, fun p hp => by cases hp⟩
  | _, x :: l, h => by
    cases h with
    | cons h1 h2 =>
      obtain ⟨ks, e1, e2, e3⟩ := cells_go h2
      generalize hd : pD1 x = d at h1
      cases h1 with
      | tup hs ha =>
        unfold pD1 at hd
        injection hd with hd
        subst hd
        cases ha with
        | cons a1 a2 =>
          cases a2 with
          | cons b1 b2 =>
            cases b2
            have ht := sqt_nil hs
            rw [dp_int a1, dp_int b1] at ht
            refine ⟨(_, [x.1, x.2]) :: ks, by rw [e1]; rfl, by rw [List.map_cons, List.map_cons, e2], fun p hp => ?_⟩
            rcases List.mem_cons.mp hp with e | m
            · rw [e]
              exact ⟨by simp, ht⟩
            · exact e3 p m
      | _ => unfold pD1 at hd; cases hd
/-- the cells' list, its addresses and rows -/
theorem cells_at {H : Hp} {L : Addr} {l : List (Int × Int)} (h : LsU H L (l.map pD1)) : ∃ ks : List (Addr × List Int), H L = some (.lst (ks.map fun p => V.ref p.1)) ∧ ks.map (·.2) = l.map (fun x => [x.1, x.2]) ∧ ∀ p ∈ ks, p.2 ≠ [] ∧ H p.1 = some (.tup (p.2.map V.int)) := by
  obtain ⟨us, e, h⟩ := h
  obtain ⟨ks, e1, e2, e3⟩ := cells_go h
  exact ⟨ks, by rw [e, e1], e2, e3⟩
end Pf

set_option Elab.async false
set_option linter.all false
set_option maxRecDepth 100000
set_option maxHeartbeats 8000000
namespace Pf
open PySem PySem.Spec PyProof.Rows L2
/-- the pair that stands at a told address -/
def kH (H : Hp) : V → Int × Int
  | .ref t => match H t with
    | some (.tup [.int i, .int j]) => (i, j)
    | _ => (0, 0)
  | _ => (0, 0)
theorem kH_at {H : Hp} {t : Addr} {i j : Int} (h : H t = some (.tup [.int i, .int j])) : kH H (.ref t) = (i, j) := by
  show (match H t with | some (.tup [.int i, .int j]) => (i, j) | _ => (0, 0)) = (i, j)
  rw [h]
theorem kH_map {H : Hp} : ∀ {ks : List (Addr × List Int)} {l : List (Int × Int)}, ks.map (·.2) = l.map (fun x => [x.1, x.2]) → (∀ p ∈ ks, p.2 ≠ [] ∧ H p.1 = some (.tup (p.2.map V.int))) →
    (ks.map fun p => V.ref p.1).map (kH H) = l ∧ ∀ x ∈ ks.map (fun p => V.ref p.1), ∃ t, x = V.ref t ∧ H t = some (.tup [.int (kH H x).1, .int (kH H x).2])
  | [], [], _, _ => ⟨rfl, fun x hx => by cases hx⟩
  | [], _ :: _, h, _ => by simp at h
  | _ :: _, [], h, _ => by simp at h
  | p :: ks, x :: l, h, hp => by
    rw [List.map_cons, List.map_cons] at h
    obtain ⟨h1, h2⟩ := List.cons.inj h
    obtain ⟨e1, e2⟩ := kH_map h2 fun q hq => hp q (List.mem_cons_of_mem _ hq)
    have hx := (hp p List.mem_cons_self).2
    rw [h1] at hx
    have hk := kH_at hx
    refine ⟨by rw [List.map_cons, List.map_cons, e1, hk], fun v hv => ?_⟩
    rw [List.map_cons] at hv
    rcases List.mem_cons.mp hv with e | m
    · rw [e]
      exact ⟨p.1, rfl, by rw [hk]; exact hx⟩
    · exact e2 v m
theorem lay_pairs : ∀ l : List (Int × Int), PyData.canLayAll0 (l.map pD1) = true
  | [] => by simp [PyData.canLayAll0]
  | x :: l => by simp [PyData.canLayAll0, PyData.canLay0, pD1, lay_pairs l]
theorem dep_pairs : ∀ l : List (Int × Int), PyData.depthAll (l.map pD1) ≤ 1
  | [] => by simp [PyData.depthAll]
  | x :: l => by
    have := dep_pairs l
    simp only [List.map_cons, PyData.depthAll, pD1, PyData.depth]
    omega
theorem shaped_pairs (l : List (Int × Int)) : SeqAt.shaped (.list (l.map pD1)) = true := shaped_list (lay_pairs l) (by have := dep_pairs l; omega)
/-- what a told list of pairs means as data -/
theorem dp_pairs {K : PySem.W.Frag} {H : Hp} : ∀ {ks : List (Addr × List Int)} {l : List (Int × Int)}, ks.map (·.2) = l.map (fun x => [x.1, x.2]) → (∀ p ∈ ks, p.2 ≠ [] ∧ H p.1 = some (.tup (p.2.map V.int))) → DpAll K H (ks.map fun p => V.ref p.1) (l.map pD1)
  | [], [], _, _ => .nil
  | [], _ :: _, h, _ => by simp at h
  | _ :: _, [], h, _ => by simp at h
  | p :: ks, x :: l, h, hp => by
    rw [List.map_cons, List.map_cons] at h
    obtain ⟨h1, h2⟩ := List.cons.inj h
    have hx := (hp p List.mem_cons_self).2
    rw [h1] at hx
    exact .cons (.tup (SqT.of hx) (.cons (.int _) (.cons (.int _) .nil))) (dp_pairs h2 fun q hq => hp q (List.mem_cons_of_mem _ hq))
theorem atI_end {l : List V} {v : V} (h : l[l.length - 1]? = some v) : atI l (-1) = some v := by
  rcases List.eq_nil_or_concat l with e | ⟨m, x, e⟩
  · rw [e] at h
    cases h
  · rw [List.concat_eq_append] at e
    rw [e] at h ⊢
    rw [List.length_append, List.length_singleton, Nat.add_sub_cancel, List.getElem?_append_right (Nat.le_refl _), Nat.sub_self] at h
    cases (Option.some.inj h)
    exact atI_last m _
abbrev NL : List Str := ["_law_script", "_law_draw", "_law_shape", "_law_cells", "_law_told", "_law_at", "_law_bad", "_law_home", "_law_files", "_law_number_here", "_law_file"]
theorem scLaw : FnScope NL ["_law_script"] (defScope sLaw) := ⟨rfl, rfl, rfl, by decide +kernel, rfl, by decide +kernel, by decide +kernel⟩
abbrev stL (j : Nat) : Stmt := (defBody sLaw).getD j (.Pass ⟨0, 0, 0, 0⟩)
abbrev XL (P : Program) (w : World) (K : PySem.W.Frag) (mg : Str → Option Value) (base : Heap) (f : Addr) (cdv : Value) (A : Around) (outer : List Env) (s : Shared) (H0 : Hp) (E : XK) : Cx := (cxOf CX0 P w K mg base NL "law" (defScope sLaw) f cdv A outer s H0 E).nox
abbrev SLs (sc a sa : Addr) (x3 x4 x5 x6 x7 x8 x9 x10 : Option V) : L2.St := [some (.ref sc), some (.ref a), some (.ref sa), x3, x4, x5, x6, x7, x8, x9, x10]
end Pf

set_option Elab.async false
set_option linter.all false
set_option maxRecDepth 100000
set_option maxHeartbeats 8000000
namespace Pf
open PySem PySem.Spec PyProof.Rows L2
section
variable {P : Program} {w : World} {K : PySem.W.Frag} {mg : Str → Option Value} {base : Heap} {C : Addr} {f : Addr} {cdv : Value} {A : Around} {outer : List Env} {s : Shared} {H0 : Hp} {E : XK} {rest : List Stmt} {u : TS}
theorem law_04 {fS fT fC fU : Addr} {dS dT dC dU : FuncData} (T : ShTxt K C)
    (MS : Mk K C fS) (GS : FnOk P w K mg base CX0 2 fS dS ["self", "dirs", "rows", "files", "blocks", "users"] (spShI C)) (gS : mg "Shape" = some (.ref C)) (bS : Binds K dS ["self", "dirs", "rows", "files", "blocks", "users"] [])
    (DT : Df P w K mg base CX0 2 "_law_take" ["_law_draw", "_law_many"] (spTake K) fT dT) (DC : Df P w K mg base CX0 2 "_law_cells_of" ["_law_shape"] (spLc K C) fC dC) (DU : Df P w K mg base CX0 1 "_law_unlike" ["_law_items"] (spUnl K) fU dU)
    (mso : mg "sorted" = none) (ml : mg "len" = none)
    (hr : Room 8 (A.deeper (envOfC "law" (defScope sLaw) s.heap.objs.size f cdv))) (hu : PSs (XL P w K mg base f cdv A outer s H0 E) rest u) :
    ∃ t, PSs (XL P w K mg base f cdv A outer s H0 E) (stL 0 :: stL 1 :: stL 2 :: stL 3 :: rest) t ∧ ∀ D σ H, (∃ (sc : Addr) (ss : List Int), σ = start NL [V.ref sc] ∧ SqL K H sc (ss.map V.int) ∧ ss.length ≤ 63) →
      (∀ H' a sc sa ss b x3, DrawAt K H' a sc ss → ShAt C H' sa b → u D (SLs sc a sa x3 none none none none none none none) H') → t D σ H := by
  have nd := scLaw.nd
  have h1 : Room 1 _ := hr.mono (by decide)
  have h2 : Room 2 _ := hr.mono (by decide)
  have h3 : Room 3 _ := hr.mono (by decide)
  refine ⟨_, pss_cons (ps_set (i := 1) nd rfl (.inl rfl) (pe_lst (pa_cons (pv 0) (pa_cons pe_int pa_nil))))
    (pss_cons (ps_set (i := 2) nd rfl (.inr rfl) (pe_make MS GS h3 rfl gS bS .nil pass0
      (pa_cons (pe_op op_add pe_int (pe_call DT.G h2 rfl DT.g DT.kp DT.b .nil pass0 (pa_cons (pv 1) (pa_cons pe_int pa_nil))))
      (pa_cons (pe_op op_add pe_int (pe_call DT.G h2 rfl DT.g DT.kp DT.b .nil pass0 (pa_cons (pv 1) (pa_cons pe_int pa_nil))))
      (pa_cons (pe_op op_add pe_int (pe_call DT.G h2 rfl DT.g DT.kp DT.b .nil pass0 (pa_cons (pv 1) (pa_cons pe_int pa_nil))))
      (pa_cons (pe_op op_add pe_int (pe_call DT.G h2 rfl DT.g DT.kp DT.b .nil pass0 (pa_cons (pv 1) (pa_cons pe_int pa_nil))))
      (pa_cons (pe_op op_add pe_int (pe_call DT.G h2 rfl DT.g DT.kp DT.b .nil pass0 (pa_cons (pv 1) (pa_cons pe_int pa_nil)))) pa_nil)))))))
    (pss_cons (ps_set (i := 3) nd rfl (.inl rfl) (pe_call DC.G h2 rfl DC.g DC.kp DC.b .nil pass0 (pa_cons (pv 2) pa_nil)))
    (pss_cons (ps_if (PW.pt (pw_or (pt_cmpR (op_neD hr.units) (pv 3) (pe_callB cr_sortedPO (by rfl) mso (by decide +kernel) (pa_cons (pv 3) pa_nil)) (nomark _))
        (pw_or (pt_cmpR op_ne (pe_callB call_len_seq (by rfl) ml boot_len (pa_cons (pe_call DU.G h1 rfl DU.g DU.kp DU.b .nil pass0 (pa_cons (pv 3) pa_nil)) pa_nil)) (pe_callB call_len_seq (by rfl) ml boot_len (pa_cons (pv 3) pa_nil)) (nomark _))
        (pw_or1 (pt_cmpR op_ne (pe_ix ix_tup (pe_ix ix_list (pv 3) (pe_un un_neg pe_int) (fun _ _ => rfl)) pe_int (fun _ _ => rfl)) (pe_op op_sub (pe_fld (pv 2) rfl) pe_int) (nomark _)))))) (pss_one (ps_ret pe_bl)) pss_nil)
    hu))), fun D σ H hI nx => ?_⟩
  obtain ⟨sc, ss, rfl, hS, hlen⟩ := hI
  refine ⟨_, rfl, (by show 2 ≤ sizeLine; decide), fun a ha => ?_⟩
  have s1 := same_upd (o := .lst [.ref sc, .int 0]) ha
  have D1 : DrawAt K (upd H a (.lst [.ref sc, .int 0])) a sc ss := by
    refine ⟨⟨0, upd_same⟩, Same.seq (fun b o e => ?_) hS, hlen⟩
    rw [off_out (by simp [ne_of_none e ha])]
    exact s1 _ _ e
  generalize upd H a (.lst [.ref sc, .int 0]) = G at D1 ⊢
  refine ⟨_, rfl, a, sc, ss, 39, rfl, D1, by decide, fun r0 H1 p0 q0 z1 D2 => ⟨_, _, rfl, rfl, ?_⟩⟩
  refine ⟨_, rfl, a, sc, ss, 60, rfl, D2, by decide, fun r1 H2 p1 q1 z2 D3 => ⟨_, _, rfl, rfl, ?_⟩⟩
  refine ⟨_, rfl, a, sc, ss, 9, rfl, D3, by decide, fun r2 H3 p2 q2 z3 D4 => ⟨_, _, rfl, rfl, ?_⟩⟩
  refine ⟨_, rfl, a, sc, ss, 40, rfl, D4, by decide, fun r3 H4 p3 q3 z4 D5 => ⟨_, _, rfl, rfl, ?_⟩⟩
  refine ⟨_, rfl, a, sc, ss, 4, rfl, D5, by decide, fun r4 H5 p4 q4 z5 D6 => ⟨_, _, rfl, rfl, ?_⟩⟩
  intro sa dx hsa hdx hne
  have sS : Same H5 (upd (upd H5 dx (.own sa)) sa (.ins C dx [])) := fun b o z => by
    rw [upd_ne (ne_of_none z hsa), upd_ne (ne_of_none z hdx)]
    exact z
  refine ⟨sa, dx, ⟨2 + r0, 1 + r1, 1 + r2, 1 + r3, 1 + r4, by omega, by omega, by omega, by omega, by omega⟩, rfl, upd_same, fun H6 f6 S6 => ⟨rfl, ?_⟩⟩
  have s6 : Same H5 H6 := fun b' o z => f6.at (sS _ _ z) (by simp [ne_of_none z hsa])
  have D7 := D6.same s6
  clear D1 D2 D3 D4 D5 D6 sS
  generalize (⟨2 + r0, 1 + r1, 1 + r2, 1 + r3, 1 + r4, _, _, _, _, _⟩ : Sh) = b at S6
  refine ⟨_, rfl, sa, b, rfl, S6, fun L H7 s7 hL L7 => ?_⟩
  have S7 := S6.same s7
  have D8 := D7.same s7
  obtain ⟨ks, eL, ek, hk⟩ := cells_at L7
  obtain ⟨km, kt⟩ := kH_map ek hk
  have hup := cellsL_up b
  obtain ⟨hn1, hn2⟩ := cellsL_len b
  have hkl : ks.length = (cellsL b).length := by
    have := congrArg List.length ek
    simpa using this
  refine ⟨_, rfl, _, rfl, L, _, kH H7, rfl, SqL.of eL, kt, fun ys p hs1 hs2 hp => ?_⟩
  have ey := sorted_cells (K := K) (H := H7) hup (kH H7) km hs1 hs2
  rw [ey]
  have s8 := same_upd (o := .lst (ks.map fun p => V.ref p.1)) hp
  have hk8 : ∀ q ∈ ks, q.2 ≠ [] ∧ upd H7 p (.lst (ks.map fun p => V.ref p.1)) q.1 = some (.tup (q.2.map V.int)) := fun q hq => ⟨(hk q hq).1, s8 _ _ (hk q hq).2⟩
  refine ⟨.list ((cellsL b).map pD1), .list ((cellsL b).map pD1), .lst (SqL.of (s8 _ _ eL)) (dp_pairs ek hk8), .lst (SqL.of upd_same) (dp_pairs ek hk8), shaped_pairs _, shaped_pairs _, _, rfl, ?_⟩
  rw [SeqAt.eqv_refl _ (by simp only [PyData.canLay0]; exact lay_pairs _)]
  refine iteF ?_
  have D9 := D8.same s8
  have S9 := S7.same s8
  have eL9 := s8 _ _ eL
  generalize upd H7 p (.lst (ks.map fun p => V.ref p.1)) = H9 at hk8 D9 S9 eL9 ⊢
  refine ⟨_, rfl, L, ks, rfl, eL9, hk8, by rw [ek]; exact pair_nodup (up_nodup hup), by omega, fun H10 p2 us s10 hp2 ep2 hul => ⟨p2, us, rfl, .inl (SqL.of ep2), ?_⟩⟩
  have eL10 := s10 _ _ eL9
  refine ⟨_, rfl, L, _, rfl, .inl (SqL.of eL10), rfl, _, rfl, ?_⟩
  rw [List.length_map, hul]
  refine iteNS (by simp) ?_
  obtain ⟨l0, el0⟩ := cellsL_last b
  obtain ⟨q, hq, hq2⟩ : ∃ q, ks[ks.length - 1]? = some q ∧ q.2 = [b.pl - 1, 0] := by
    have h9 := congrArg (fun l => l[ks.length - 1]?) ek
    have hl0 : ks.length - 1 = l0.length := by rw [hkl, el0]; simp
    rw [hl0] at h9 ⊢
    simp only [List.getElem?_map, el0] at h9
    rw [List.getElem?_append_right (Nat.le_refl _), Nat.sub_self] at h9
    cases h8 : ks[l0.length]? with
    | none => rw [h8] at h9; cases h9
    | some q => rw [h8] at h9; exact ⟨q, rfl, Option.some.inj h9⟩
  have hq9 := s10 _ _ (hk8 q (List.mem_of_getElem? hq)).2
  rw [hq2] at hq9
  obtain ⟨dx2, es2⟩ := S9.same s10
  have hat : atI (ks.map fun p => V.ref p.1) (-1) = some (V.ref q.1) := atI_end (by rw [List.length_map, List.getElem?_map, hq]; rfl)
  refine ⟨_, rfl, _, rfl, L, _, -1, _, rfl, rfl, SqL.of eL10, hat, q.1, _, 0, _, rfl, rfl, SqT.of hq9, atI_nat (j := 0) rfl, _, rfl, sa, C, dx2, _, _, rfl, es2, T.cl, T.no _ (by decide +kernel), zip_get (i := 9) shn_nodup rfl rfl, _, _, rfl, rfl, rfl, _, rfl, ?_⟩
  refine iteNS (by simp) ?_
  exact nx _ _ _ _ _ _ _ (D9.same s10) (S9.same s10)
end
end Pf

set_option Elab.async false
set_option linter.all false
set_option maxRecDepth 100000
set_option maxHeartbeats 8000000
namespace Pf
open PySem PySem.Spec PyProof.Rows L2
theorem toldD_self (b : Sh) : PyData.eqv (toldD b) (toldD b) = true := SeqAt.eqv_refl _ rfl
section
variable {P : Program} {w : World} {K : PySem.W.Frag} {mg : Str → Option Value} {base : Heap} {C : Addr} {f : Addr} {cdv : Value} {A : Around} {outer : List Env} {s : Shared} {H0 : Hp} {E : XK} {rest : List Stmt} {u : TS}
theorem law_46 {fS fT fU fP fQ : Addr} {dS dT dU dP dQ : FuncData} (T : ShTxt K C)
    (MS : Mk K C fS) (GS : FnOk P w K mg base CX0 2 fS dS ["self", "dirs", "rows", "files", "blocks", "users"] (spShI C)) (gS : mg "Shape" = some (.ref C)) (bS : Binds K dS ["self", "dirs", "rows", "files", "blocks", "users"] [])
    (DU : Df P w K mg base CX0 1 "_law_unlike" ["_law_items"] (spUnl K) fU dU) (DP : Df P w K mg base CX0 1 "spot_of" ["number"] spSpot fP dP) (MT : Me P w K mg base 1 C "told" ["self"] (spTold C) fT dT)
    (GQ : FnOk P w K mg base CX0 2 fQ dQ ["self", "other"] (spShEq C)) (NQ : NeC K C fQ) (bQ : Binds K dQ ["self", "other"] []) {t75 : Tok} (m75 : mg "MOST_BLOCKS" = some (.int 75 t75))
    (mr : mg "range" = none) (ml : mg "len" = none)
    (hr : Room 8 (A.deeper (envOfC "law" (defScope sLaw) s.heap.objs.size f cdv))) (hu : PSs (XL P w K mg base f cdv A outer s H0 E) rest u) :
    ∃ t, PSs (XL P w K mg base f cdv A outer s H0 E) (stL 4 :: stL 5 :: stL 6 :: rest) t ∧ ∀ D H a sc sa ss b x3, DrawAt K H a sc ss → ShAt C H sa b →
      (∀ H' x4, DrawAt K H' a sc ss → ShAt C H' sa b → u D (SLs sc a sa x3 x4 none none none none none none) H') → t D (SLs sc a sa x3 none none none none none none none) H := by
  have nd := scLaw.nd
  have h1 : Room 1 _ := hr.mono (by decide)
  have h2 : Room 2 _ := hr.mono (by decide)
  have h3 : Room 3 _ := hr.mono (by decide)
  refine ⟨_, pss_cons (ps_if (pt_cmpR op_ne (pe_callB call_len_seq (by rfl) ml boot_len (pa_cons (pe_call DU.G h1 rfl DU.g DU.kp DU.b .nil pass0 (pa_cons
        (pe_lc (own := [("_law_number_here", 9)]) (g := gName 9) (tt := tYes) (te := tCall spSpot [] E0 (tCons (tVar 9) tNil)) rfl nd (pi_range1 (by rfl) mr (pa_cons (pe_glob (v := .int 75) rfl m75 ⟨_, rfl⟩) pa_nil)) (blkOk_by (N := NL) (sc := defScope sLaw) (by decide +kernel))
          (fun _ _ _ _ _ => pg_name (i := 9) nd rfl (.inl rfl)) (fun _ _ _ _ _ => pts_nil) (fun _ _ _ _ _ => pe_call DP.G h1 rfl DP.g DP.kp DP.b .nil pass0 (pa_cons (pv 9) pa_nil))) pa_nil)) pa_nil)) (pe_glob (v := .int 75) rfl m75 ⟨_, rfl⟩) (nomark _)) (pss_one (ps_ret pe_bl)) pss_nil)
    (pss_cons (ps_set (i := 4) nd rfl (.inl rfl) (pe_meth0 (pv 2) T.cl MT.m MT.G h1 MT.b .nil pass0))
    (pss_cons (ps_if (pt_cmpR (op_neOwn GQ NQ bQ pass0 h3) (pv 2) (pe_make MS GS h3 rfl gS bS .nil pass0
      (pa_cons (pe_ix ix_tup (pv 4) pe_int (fun _ _ => rfl)) (pa_cons (pe_ix ix_tup (pv 4) pe_int (fun _ _ => rfl)) (pa_cons (pe_ix ix_tup (pv 4) pe_int (fun _ _ => rfl)) (pa_cons (pe_ix ix_tup (pv 4) pe_int (fun _ _ => rfl)) (pa_cons (pe_ix ix_tup (pv 4) pe_int (fun _ _ => rfl)) pa_nil)))))) (nomark _)) (pss_one (ps_ret pe_bl)) pss_nil)
    hu)), fun D H a sc sa ss b x3 Dr S nx => ?_⟩
  refine ⟨75, rfl, by decide, by decide, fun D0 hD0 => lc_range (lo := 0) (n := (75 : Int).toNat) (fun i H' => Same H H' ∧ ∃ ks : List (Addr × List Int), H' D0 = some (.lst (ks.map fun p => V.ref p.1)) ∧ ks.map (·.2) = (List.range i).map (fun k => spI ((k : Nat) : Int)) ∧ ∀ p ∈ ks, p.2 ≠ [] ∧ H' p.1 = some (.tup (p.2.map V.int))) ⟨same_upd hD0, [], upd_same, rfl, fun p hp => by cases hp⟩ ?_ ?_⟩
  · rintro i H' hi ⟨z1, ks, eD, ek, hk⟩
    have hi' : i < 75 := hi
    have hkl : ks.length = i := by
      have := congrArg List.length ek
      simpa using this
    have ez : (0 : Int) + ((i : Nat) : Int) = ((i : Nat) : Int) := by omega
    refine ⟨rfl, tyes_go ⟨_, rfl, i, by rw [ez]; rfl, hi', fun H'' t s' nt et => ⟨_, s' _ _ eD, by rw [List.length_map, hkl, sizeLine_eq]; omega, fun c o e => by rw [upd_ne (ne_of_none e hD0)]; exact s' _ _ (z1 _ _ e), ks ++ [(t, spI ((i : Nat) : Int))], ?_, ?_, ?_⟩⟩⟩
    · rw [upd_same, List.map_append]
      rfl
    · rw [List.map_append, ek, List.range_succ, List.map_append]
      rfl
    · intro p hp
      have hne : ∀ q o, H'' q = some o → q ≠ D0 → upd H'' D0 (.lst (ks.map (fun p => V.ref p.1) ++ [V.ref t])) q = some o := fun q o e n => by rw [upd_ne n]; exact e
      rcases List.mem_append.mp hp with hm | hm
      · refine ⟨(hk p hm).1, hne _ _ (s' _ _ (hk p hm).2) fun z => ?_⟩
        have := (hk p hm).2
        rw [z, eD] at this
        cases this
      · rw [List.mem_singleton.mp hm]
        refine ⟨spots_some _ (List.mem_map.mpr ⟨i, List.mem_range.mpr hi', rfl⟩), hne _ _ et fun z => ?_⟩
        have z' : t = D0 := z
        rw [z', eD] at nt
        cases nt
  rintro H1 ⟨s1, ks, eD, ek, hk⟩
  have ek' : ks.map (·.2) = spots := ek
  have hkl : ks.length = 75 := by
    have := congrArg List.length ek'
    rw [List.length_map, spots_len] at this
    exact this
  refine ⟨D0, ks, rfl, eD, hk, by rw [ek']; exact spots_nodup, by omega, fun H2 p2 us s2 hp2 ep2 hul => ⟨p2, us, rfl, .inl (SqL.of ep2), rfl, _, rfl, ?_⟩⟩
  rw [hul, hkl]
  refine iteNS (by decide) ?_
  have S2 := (S.same s1).same s2
  have D2 := (Dr.same s1).same s2
  obtain ⟨dx, es⟩ := id S2
  refine ⟨_, rfl, sa, dx, _, rfl, es, zip_no (by decide +kernel), sa, b, rfl, S2, fun t ht => ?_⟩
  have s3 := same_upd (o := .tup [V.int b.d, V.int b.r, V.int b.f, V.int b.b, V.int b.u]) ht
  have et : upd H2 t (.tup [V.int b.d, V.int b.r, V.int b.f, V.int b.b, V.int b.u]) t = some (.tup [V.int b.d, V.int b.r, V.int b.f, V.int b.b, V.int b.u]) := upd_same
  have S3 := S2.same s3
  have D3 := D2.same s3
  generalize upd H2 t (.tup [V.int b.d, V.int b.r, V.int b.f, V.int b.b, V.int b.u]) = H3 at et S3 D3 ⊢
  refine ⟨_, rfl, _, rfl, t, _, 0, _, rfl, rfl, SqT.of et, atI_nat (j := 0) rfl, _, rfl, t, _, 1, _, rfl, rfl, SqT.of et, atI_nat (j := 1) rfl, _, rfl, t, _, 2, _, rfl, rfl, SqT.of et, atI_nat (j := 2) rfl, _, rfl, t, _, 3, _, rfl, rfl, SqT.of et, atI_nat (j := 3) rfl, _, rfl, t, _, 4, _, rfl, rfl, SqT.of et, atI_nat (j := 4) rfl, ?_⟩
  intro sb dx2 hsb hdx2 hne2
  have sS : Same H3 (upd (upd H3 dx2 (.own sb)) sb (.ins C dx2 [])) := fun b o z => by
    rw [upd_ne (ne_of_none z hsb), upd_ne (ne_of_none z hdx2)]
    exact z
  refine ⟨sb, dx2, b, rfl, upd_same, fun H4 f4 S4 => ⟨rfl, ?_⟩⟩
  have s4 : Same H3 H4 := fun b' o z => f4.at (sS _ _ z) (by simp [ne_of_none z hsb])
  have Sa4 := S3.same s4
  obtain ⟨da, ea⟩ := id Sa4
  obtain ⟨db, eb⟩ := id S4
  refine ⟨sa, sb, da, db, _, _, rfl, rfl, ea, eb, sa, sb, b, b, rfl, Sa4, S4, fun H5 s5 => ⟨_, rfl, _, rfl, ?_⟩⟩
  rw [toldD_self]
  exact iteF (nx _ _ (((D3.same s4)).same s5) (Sa4.same s5))
end
end Pf

set_option Elab.async false
set_option linter.all false
set_option maxRecDepth 100000
set_option maxHeartbeats 8000000
namespace Pf
open PySem PySem.Spec PyProof.Rows L2
/-- the wrong numbers: [2, 1, 1, 1, 1] with one put -/
abbrev badL (j : Nat) (v : V) : List V := [V.int 2, V.int 1, V.int 1, V.int 1, V.int 1].set j v
theorem bad_pres (j : Nat) (hj : j < 5) (v : V) (d : PyData) : ∃ (v0 v1 v2 v3 v4 : V) (ds : List PyData), badL j v = [v0, v1, v2, v3, v4] ∧ (∀ (K : PySem.W.Frag) (H : Hp), Dp K H v d → DpAll K H [v0, v1, v2, v3, v4] ds) ∧
    (∀ i < j, wholeB (ds.getD i .none) (some (shLo.getD i 0)) (some (shHi.getD i 0)) = true) ∧ ds.getD j .none = d := by
  match j, hj with
  | 0, _ => exact ⟨_, _, _, _, _, [d, .int 1, .int 1, .int 1, .int 1], rfl, fun K H h => .cons h (.cons (.int _) (.cons (.int _) (.cons (.int _) (.cons (.int _) .nil)))), fun i hi => absurd hi (by omega), rfl⟩
  | 1, _ => exact ⟨_, _, _, _, _, [.int 2, d, .int 1, .int 1, .int 1], rfl, fun K H h => .cons (.int _) (.cons h (.cons (.int _) (.cons (.int _) (.cons (.int _) .nil)))), fun i hi => (by match i, hi with | 0, _ => rfl), rfl⟩
  | 2, _ => exact ⟨_, _, _, _, _, [.int 2, .int 1, d, .int 1, .int 1], rfl, fun K H h => .cons (.int _) (.cons (.int _) (.cons h (.cons (.int _) (.cons (.int _) .nil)))), fun i hi => (by match i, hi with | 0, _ => rfl | 1, _ => rfl), rfl⟩
  | 3, _ => exact ⟨_, _, _, _, _, [.int 2, .int 1, .int 1, d, .int 1], rfl, fun K H h => .cons (.int _) (.cons (.int _) (.cons (.int _) (.cons h (.cons (.int _) .nil)))), fun i hi => (by match i, hi with | 0, _ => rfl | 1, _ => rfl | 2, _ => rfl), rfl⟩
  | 4, _ => exact ⟨_, _, _, _, _, [.int 2, .int 1, .int 1, .int 1, d], rfl, fun K H h => .cons (.int _) (.cons (.int _) (.cons (.int _) (.cons (.int _) (.cons h .nil)))), fun i hi => (by match i, hi with | 0, _ => rfl | 1, _ => rfl | 2, _ => rfl | 3, _ => rfl), rfl⟩
/-- what is put there: data that is refused, or 61 blocks -/
structure Bad (j : Nat) (v : V) (d : PyData) : Prop where
  dp : ∀ (K : PySem.W.Frag) (H : Hp), Dp K H v d
  sh : SeqAt.shaped (.tuple [.int (j : Int), d]) = true
  no : PyData.eqv (.tuple [.int (j : Int), d]) (.tuple [.int 3, .int 61]) = true ∨ wholeB d (some (shLo.getD j 0)) (some (shHi.getD j 0)) = false
section
variable {P : Program} {w : World} {K : PySem.W.Frag} {mg : Str → Option Value} {base : Heap} {C : Addr} {f : Addr} {cdv : Value} {A : Around} {outer : List Env} {s : Shared} {H0 : Hp} {E : XK} {rest : List Stmt} {u : TS}
theorem law_10 {fR : Addr} {dR : FuncData} (DR : Df P w K mg base CX0 4 "_law_is_refused" ["_law_numbers", "_law_word"] (spRf K) fR dR)
    (hr : Room 8 (A.deeper (envOfC "law" (defScope sLaw) s.heap.objs.size f cdv))) (hu : PSs (XL P w K mg base f cdv A outer s H0 E) rest u) :
    ∃ t, PSs (XL P w K mg base f cdv A outer s H0 E) (stL 10 :: rest) t ∧ ∀ D H a sc sa B ss b x3 x4 (j : Nat) v d, DrawAt K H a sc ss → ShAt C H sa b → H B = some (.lst (badL j v)) → j < 5 → Bad j v d →
      (∀ H', DrawAt K H' a sc ss → ShAt C H' sa b → u D (SLs sc a sa x3 x4 (some (.int (j : Int))) (some (.ref B)) none none none none) H') → t D (SLs sc a sa x3 x4 (some (.int (j : Int))) (some (.ref B)) none none none none) H := by
  have nd := scLaw.nd
  have h4 : Room 4 _ := hr.mono (by decide)
  refine ⟨_, pss_cons (ps_if (PW.pt (pw_and (pt_cmpR (op_neD hr.units) (pe_tup (pa_cons (pv 5) (pa_cons (pe_ix ix_list (pv 6) (pv 5) (fun _ _ => rfl)) pa_nil))) (pe_tup (pa_cons pe_int (pa_cons pe_int pa_nil))) (nomark _))
      (pw_and1 (pt_not (pt_val (pe_call DR.G h4 rfl DR.g DR.kp DR.b .nil pass0 (pa_cons (pv 6) (pa_cons (pe_ix ix_list (pe_lst (pa_cons pe_str (pa_cons pe_str (pa_cons pe_str (pa_cons pe_str (pa_cons pe_str pa_nil)))))) (pv 5) (fun _ _ => rfl)) pa_nil)))))))) (pss_one (ps_ret pe_bl)) pss_nil)
    hu, fun D H a sc sa B ss b x3 x4 j v d Dr S eB hj hb nx => ?_⟩
  obtain ⟨v0, v1, v2, v3, v4, ds, e5, hds, hgo, hdj⟩ := bad_pres j hj v d
  have hgj : (badL j v)[j]? = some v := by
    rw [List.getElem?_set_self (by show j < 5; exact hj)]
  refine ⟨_, rfl, _, rfl, _, rfl, B, _, (j : Int), v, rfl, rfl, SqL.of eB, atI_nat hgj, (by show 2 ≤ sizeLine; decide), fun t1 ht1 => ?_⟩
  have s1 := same_upd (o := .tup [V.int (j : Int), v]) ht1
  refine ⟨(by show 2 ≤ sizeLine; decide), fun t2 ht2 => ?_⟩
  have s2 := same_upd (o := .tup [V.int 3, V.int 61]) ht2
  refine ⟨.tuple [.int (j : Int), d], .tuple [.int 3, .int 61], .tup (SqT.of (s2 _ _ upd_same)) (.cons (.int _) (.cons (hb.dp _ _) .nil)), .tup (SqT.of upd_same) (.cons (.int _) (.cons (.int _) .nil)), hb.sh, rfl, _, rfl, ?_⟩
  have s12 := s1.trans s2
  have D2 := Dr.same s12
  have S2 := S.same s12
  have eB2 := s12 _ _ eB
  generalize upd (upd H t1 (.tup [V.int (j : Int), v])) t2 (.tup [V.int 3, V.int 61]) = H2 at D2 S2 eB2 ⊢
  cases hq : PyData.eqv (.tuple [.int (j : Int), d]) (.tuple [.int 3, .int 61]) with
  | true => exact iteF (iteF (nx _ D2 S2))
  | false =>
    have hno : wholeB d (some (shLo.getD j 0)) (some (shHi.getD j 0)) = false := by
      rcases hb.no with z | z
      · rw [hq] at z; cases z
      · exact z
    refine iteT ⟨_, rfl, (by show 5 ≤ sizeLine; decide), fun p hp => ⟨_, rfl, p, _, (j : Int), .str (shW.getD j default), rfl, rfl, SqL.of upd_same, atI_nat ?_, ?_⟩⟩
    · match j, hj with
      | 0, _ => rfl
      | 1, _ => rfl
      | 2, _ => rfl
      | 3, _ => rfl
      | 4, _ => rfl
    · have s3 := same_upd (o := .lst [V.str "dirs", V.str "rows", V.str "files", V.str "blocks", V.str "users"]) hp
      refine ⟨B, v0, v1, v2, v3, v4, ds, j, shW.getD j default, rfl, by rw [← e5]; exact s3 _ _ eB2, hds _ _ (hb.dp _ _), hj, hgo, by rw [hdj]; exact hno, ?_, fun H' s4 => ⟨_, rfl, iteF (nx _ ((D2.same s3).same s4) ((S2.same s3).same s4))⟩⟩
      match j, hj with
      | 0, _ => rfl
      | 1, _ => rfl
      | 2, _ => rfl
      | 3, _ => rfl
      | 4, _ => rfl
end
end Pf

set_option Elab.async false
set_option linter.all false
set_option maxRecDepth 100000
set_option maxHeartbeats 8000000
namespace Pf
open PySem PySem.Spec PyProof.Rows L2
theorem bad_some {j : Nat} (h0 : 0 < j) (hj : j < 5) {v : V} (h : v ∈ [V.int 0, .int (-3), .int 201, .int 61, .str "2", .bl true, .non]) : ∃ d, Bad j v d := by
  simp only [List.mem_cons, List.not_mem_nil, or_false] at h
  have hj' : j = 1 ∨ j = 2 ∨ j = 3 ∨ j = 4 := by omega
  rcases h with rfl | rfl | rfl | rfl | rfl | rfl | rfl
  · exact ⟨.int 0, fun _ _ => .int _, by rcases hj' with rfl | rfl | rfl | rfl <;> rfl, .inr (by rcases hj' with rfl | rfl | rfl | rfl <;> rfl)⟩
  · exact ⟨.int (-3), fun _ _ => .int _, by rcases hj' with rfl | rfl | rfl | rfl <;> rfl, .inr (by rcases hj' with rfl | rfl | rfl | rfl <;> rfl)⟩
  · exact ⟨.int 201, fun _ _ => .int _, by rcases hj' with rfl | rfl | rfl | rfl <;> rfl, .inr (by rcases hj' with rfl | rfl | rfl | rfl <;> rfl)⟩
  · refine ⟨.int 61, fun _ _ => .int _, by rcases hj' with rfl | rfl | rfl | rfl <;> rfl, ?_⟩
    rcases hj' with rfl | rfl | rfl | rfl
    · exact .inr rfl
    · exact .inr rfl
    · exact .inl (SeqAt.eqv_refl _ rfl)
    · exact .inr rfl
  · exact ⟨.str "2", fun _ _ => .str _, by rcases hj' with rfl | rfl | rfl | rfl <;> decide +kernel, .inr (by rcases hj' with rfl | rfl | rfl | rfl <;> rfl)⟩
  · exact ⟨.bool true, fun _ _ => .bl _, by rcases hj' with rfl | rfl | rfl | rfl <;> rfl, .inr (by rcases hj' with rfl | rfl | rfl | rfl <;> rfl)⟩
  · exact ⟨.none, fun _ _ => .non, by rcases hj' with rfl | rfl | rfl | rfl <;> rfl, .inr (by rcases hj' with rfl | rfl | rfl | rfl <;> rfl)⟩
theorem bad_zero {v : V} (h : v ∈ [V.int 1, .int 41, .non, .bl true]) : ∃ d, Bad 0 v d := by
  simp only [List.mem_cons, List.not_mem_nil, or_false] at h
  rcases h with rfl | rfl | rfl | rfl
  · exact ⟨.int 1, fun _ _ => .int _, rfl, .inr rfl⟩
  · exact ⟨.int 41, fun _ _ => .int _, rfl, .inr rfl⟩
  · exact ⟨.none, fun _ _ => .non, rfl, .inr rfl⟩
  · exact ⟨.bool true, fun _ _ => .bl _, rfl, .inr rfl⟩
theorem DrawAt.frb {K : PySem.W.Frag} {H H' : Hp} {a sc : Addr} {ns : List Int} (D : DrawAt K H a sc ns) (s : But [a] H H') : Fr [a] H H' := .but s fun c hc u hu => by
  rw [List.mem_singleton.mp hc] at hu
  obtain ⟨i, e⟩ := D.1
  rw [e] at hu
  cases hu
  rfl
section
variable {P : Program} {w : World} {K : PySem.W.Frag} {mg : Str → Option Value} {base : Heap} {C : Addr} {f : Addr} {cdv : Value} {A : Around} {outer : List Env} {s : Shared} {H0 : Hp} {E : XK} {rest : List Stmt} {u : TS}
theorem law_79 {fT fP : Addr} {dT dP : FuncData} (DT : Df P w K mg base CX0 2 "_law_take" ["_law_draw", "_law_many"] (spTake K) fT dT) (DP : Df P w K mg base CX0 3 "_law_pick" ["_law_draw", "_law_items"] (spPick K) fP dP)
    (hr : Room 8 (A.deeper (envOfC "law" (defScope sLaw) s.heap.objs.size f cdv))) (hu : PSs (XL P w K mg base f cdv A outer s H0 E) rest u) :
    ∃ t, PSs (XL P w K mg base f cdv A outer s H0 E) (stL 7 :: stL 8 :: stL 9 :: rest) t ∧ ∀ D H a sc sa ss b x3 x4, DrawAt K H a sc ss → ShAt C H sa b →
      (∀ H' B (j : Nat) v d, DrawAt K H' a sc ss → ShAt C H' sa b → H' B = some (.lst (badL j v)) → j < 5 → Bad j v d → u D (SLs sc a sa x3 x4 (some (.int (j : Int))) (some (.ref B)) none none none none) H') → t D (SLs sc a sa x3 x4 none none none none none none) H := by
  have nd := scLaw.nd
  have h2 : Room 2 _ := hr.mono (by decide)
  have h3 : Room 3 _ := hr.mono (by decide)
  refine ⟨_, pss_cons (ps_set (i := 5) nd rfl (.inl rfl) (pe_call DT.G h2 rfl DT.g DT.kp DT.b .nil pass0 (pa_cons (pv 1) (pa_cons pe_int pa_nil))))
    (pss_cons (ps_set (i := 6) nd rfl (.inl rfl) (pe_lst (pa_cons pe_int (pa_cons pe_int (pa_cons pe_int (pa_cons pe_int (pa_cons pe_int pa_nil)))))))
    (pss_cons (ps_asg (pe_ifExp (pt_cmpR op_gt (pv 5) pe_int (nomark _))
        (pe_call DP.G h3 rfl DP.g DP.kp DP.b .nil pass0 (pa_cons (pv 1) (pa_cons (pe_lst (pa_cons pe_int (pa_cons (pe_un un_neg pe_int) (pa_cons pe_int (pa_cons pe_int (pa_cons pe_str (pa_cons pe_bl (pa_cons pe_non pa_nil)))))))) pa_nil)))
        (pe_call DP.G h3 rfl DP.g DP.kp DP.b .nil pass0 (pa_cons (pv 1) (pa_cons (pe_lst (pa_cons pe_int (pa_cons pe_int (pa_cons pe_non (pa_cons pe_bl pa_nil))))) pa_nil))))
      (pg_sub (pv 6) (pv 5) set_list)) hu)), fun D H a sc sa ss b x3 x4 Dr S nx => ?_⟩
  refine ⟨_, rfl, a, sc, ss, 5, rfl, Dr, by decide, fun r H1 r0 r1 z1 D1 => ?_⟩
  obtain ⟨j, rfl⟩ : ∃ j : Nat, r = (j : Int) := ⟨r.toNat, by omega⟩
  have hj : j < 5 := by omega
  have nsa : ∀ H', ShAt C H' sa b → DrawAt K H' a sc ss → sa ≠ a := fun H' S' D' z => by
    obtain ⟨i, e⟩ := D'.1
    obtain ⟨dx, es⟩ := S'
    rw [z, e] at es
    cases es
  have S1 := S.fr (Dr.frb z1) (by simp [nsa H S Dr])
  refine ⟨(by show 5 ≤ sizeLine; decide), fun B hB => ?_⟩
  have s2 := same_upd (o := .lst [V.int 2, V.int 1, V.int 1, V.int 1, V.int 1]) hB
  have K1 : SqL K (Off [a, B] H1) sc (ss.map V.int) := (off_more (cs := [a]) (ds := [a, B]) fun c hc => by
    rcases List.mem_cons.mp hc with e | hc
    · exact .inl (by rw [e]; simp)
    · exact .inr (by rw [List.mem_singleton.mp hc]; exact hB)).seq D1.2.1
  have K2 : SqL K (Off [a, B] (upd H1 B (.lst [V.int 2, V.int 1, V.int 1, V.int 1, V.int 1]))) sc (ss.map V.int) := by
    rw [off_upd (by simp)]
    exact K1
  have D2 := D1.same s2
  have S2 := S1.same s2
  have eB : upd H1 B (.lst [V.int 2, V.int 1, V.int 1, V.int 1, V.int 1]) B = some (.lst [V.int 2, V.int 1, V.int 1, V.int 1, V.int 1]) := upd_same
  have nB : B ≠ a := D1.ne hB
  have nBs : sa ≠ B := fun z => by
    obtain ⟨dx, es⟩ := S1
    rw [z, hB] at es
    cases es
  generalize upd H1 B (.lst [V.int 2, V.int 1, V.int 1, V.int 1, V.int 1]) = H2 at D2 S2 eB K2 ⊢
  have fin : ∀ (H4 : Hp) (v : V) (d : PyData), DrawAt K H4 a sc ss → SqL K (Off [a, B] H4) sc (ss.map V.int) → ShAt C H4 sa b → H4 B = some (.lst [V.int 2, V.int 1, V.int 1, V.int 1, V.int 1]) → Bad j v d → DrawAt K (upd H4 B (.lst (badL j v))) a sc ss ∧ ShAt C (upd H4 B (.lst (badL j v))) sa b := by
    intro H4 v d D4 K4 S4 e4 hb
    have f5 : Fr [B] H4 (upd H4 B (.lst (badL j v))) := .put (by simp) fun u z => by rw [e4] at z; cases z; rfl
    obtain ⟨⟨i, ei⟩, hS, hl⟩ := id D4
    refine ⟨⟨⟨i, by rw [upd_ne nB.symm]; exact ei⟩, ?_, hl⟩, S4.fr f5 (by simp [nBs])⟩
    have e5 : Off [a, B] (upd H4 B (.lst (badL j v))) = Off [a, B] H4 := off_upd (by simp)
    rw [← e5] at K4
    exact (off_more (cs := [a, B]) (ds := [a]) fun c hc => .inl (by rw [List.mem_singleton.mp hc]; simp)).seq K4
  refine ⟨_, rfl, _, _, rfl, rfl, _, rfl, ite2 (fun hc => ?_) (fun hc => ?_)⟩
  · have h0 : 0 < j := by have := of_decide_eq_true hc; omega
    refine ⟨_, rfl, _, rfl, (by show 7 ≤ sizeLine; decide), fun q hq => ?_⟩
    have s3 := same_upd (o := .lst [V.int 0, .int (-3), .int 201, .int 61, .str "2", .bl true, .non]) hq
    refine ⟨a, q, sc, ss, _, rfl, D2.same s3, upd_same, D2.ne hq, by simp, fun v H4 hv s4 D4 => ?_⟩
    have F4 := (D2.same s3).frb s4
    have S4 := (S2.same s3).fr F4 (by simp [nsa _ S2 D2])
    have e4 := F4.at (s3 _ _ eB) (by simp [nB])
    have K4 : SqL K (Off [a, B] H4) sc (ss.map V.int) := (s4.off (ds := [a, B]) (by simp)).seq ((off_same s3).seq K2)
    obtain ⟨d, hb⟩ := bad_some h0 hj hv
    obtain ⟨D5, S5⟩ := fin H4 v d D4 K4 S4 e4 hb
    exact ⟨_, rfl, _, rfl, B, _, (j : Int), j, rfl, rfl, e4, ixN_nn (by show j < 5; exact hj), nx _ B j v d D5 S5 upd_same hj hb⟩
  · have h0 : j = 0 := by have h9 : ¬ ((j : Int) > 0) := fun z => hc (decide_eq_true z); omega
    subst h0
    refine ⟨_, rfl, (by show 4 ≤ sizeLine; decide), fun q hq => ?_⟩
    have s3 := same_upd (o := .lst [V.int 1, .int 41, .non, .bl true]) hq
    refine ⟨a, q, sc, ss, _, rfl, D2.same s3, upd_same, D2.ne hq, by simp, fun v H4 hv s4 D4 => ?_⟩
    have F4 := (D2.same s3).frb s4
    have S4 := (S2.same s3).fr F4 (by simp [nsa _ S2 D2])
    have e4 := F4.at (s3 _ _ eB) (by simp [nB])
    have K4 : SqL K (Off [a, B] H4) sc (ss.map V.int) := (s4.off (ds := [a, B]) (by simp)).seq ((off_same s3).seq K2)
    obtain ⟨d, hb⟩ := bad_zero hv
    obtain ⟨D5, S5⟩ := fin H4 v d D4 K4 S4 e4 hb
    exact ⟨_, rfl, _, rfl, B, _, ((0 : Nat) : Int), 0, rfl, rfl, e4, ixN_nn (by show 0 < 5; exact hj), nx _ B 0 v d D5 S5 upd_same hj hb⟩
end
end Pf

set_option Elab.async false
set_option linter.all false
set_option maxRecDepth 100000
set_option maxHeartbeats 8000000
namespace Pf
open PySem PySem.Spec PyProof.Rows L2
section
variable {P : Program} {w : World} {K : PySem.W.Frag} {mg : Str → Option Value} {base : Heap} {C CB S fI : Addr}
theorem law_1113 {f : Addr} {cdv : Value} {A : Around} {outer : List Env} {s : Shared} {H0 : Hp} {E : XK} {fA fN fR fM : Addr} {dA dN dR dM : FuncData} (T : ShTxt K C)
    (DA : Df P w K mg base CX0 4 "_law_any" ["_law_draw", "_law_shape"] (spAn K C) fA dA) (DN : Df P w K mg base CX0 5 "_law_are_names" ["_law_home", "_law_shape"] (spLn K C) fN dN)
    (DR : Df P w K mg base CX0 7 "_law_is_read" ["_law_home", "_law_shape", "_law_file"] (spLr K C) fR dR) (DM : Df P w K mg base CX0 6 "_law_are_met" ["_law_home", "_law_shape", "_law_file"] (spLm K C) fM dM)
    (mli : mg "list" = none) (mr : mg "range" = none) (mal : mg "all" = none)
    (hr : Room 8 (A.deeper (envOfC "law" (defScope sLaw) s.heap.objs.size f cdv))) :
    ∃ t, PSs (XL P w K mg base f cdv A outer s H0 E) [stL 11, stL 12, stL 13] t ∧ ∀ D H a sc sa ss b x3 x4 x5 x6, DrawAt K H a sc ss → ShAt C H sa b →
      (∀ H', D.rt (.bl true) H') → t D (SLs sc a sa x3 x4 x5 x6 none none none none) H := by
  have nd := scLaw.nd
  have h4 : Room 4 _ := hr.mono (by decide)
  have h5 : Room 5 _ := hr.mono (by decide)
  have h6 : Room 6 _ := hr.mono (by decide)
  have h7 : Room 7 _ := hr.mono (by decide)
  refine ⟨_, pss_cons (ps_set (i := 7) nd rfl (.inr rfl) (pe_call DA.G h4 rfl DA.g DA.kp DA.b .nil pass0 (pa_cons (pv 1) (pa_cons (pv 2) pa_nil))))
    (pss_cons (ps_set (i := 8) nd rfl (.inl rfl) (pe_slice sl_list (pe_listRg rfl rfl mli (prg_1 rfl mr (pe_fld (pv 2) rfl))) po_none (po_some pe_int)))
    (pss_one (ps_ret (pe_and (pe_call DN.G h5 rfl DN.g DN.kp DN.b .nil pass0 (pa_cons (pv 7) (pa_cons (pv 2) pa_nil))) (pe_one (pe_callB (cr_all rfl) (by rfl) mal (by decide +kernel) (pa_cons
      (pe_lc (own := [("_law_file", 10)]) (g := gName 10) (tt := tYes) (te := tAndV (tCall (spLr K C) [] E0 (tCons (tVar 7) (tCons (tVar 2) (tCons (tVar 10) tNil)))) (tCall (spLm K C) [] E0 (tCons (tVar 7) (tCons (tVar 2) (tCons (tVar 10) tNil))))) rfl nd (pi_list (pv 8)) (blkOk_by (N := NL) (sc := defScope sLaw) (by decide +kernel))
        (fun _ _ _ _ _ => pg_name (i := 10) nd rfl (.inl rfl)) (fun _ _ _ _ _ => pts_nil)
        (fun _ _ _ _ _ => pe_and (pe_call DR.G h7 rfl DR.g DR.kp DR.b .nil pass0 (pa_cons (pv 7) (pa_cons (pv 2) (pa_cons (pv 10) pa_nil)))) (pe_one (pe_call DM.G h6 rfl DM.g DM.kp DM.b .nil pass0 (pa_cons (pv 7) (pa_cons (pv 2) (pa_cons (pv 10) pa_nil))))))) pa_nil))))))), fun D H a sc sa ss b x3 x4 x5 x6 Dr S k => ?_⟩
  refine ⟨_, rfl, _, rfl, a, sc, sa, ss, b, rfl, Dr, S, fun H1 h cs z1 D1 hh A1 => ?_⟩
  have nsa : sa ≠ a := fun z => by
    obtain ⟨i, e⟩ := Dr.1
    obtain ⟨dx, es⟩ := S
    rw [z, e] at es
    cases es
  have S1 := S.fr (Dr.frb z1) (by simp [nsa])
  obtain ⟨dx, es⟩ := id S1
  have bf := b.hf
  refine ⟨_, rfl, sa, C, dx, _, _, rfl, es, T.cl, T.no _ (by decide +kernel), zip_get (i := 2) shn_nodup rfl rfl, b.f, rfl, RgOk.of_le (by omega) (by omega) (by omega) (by omega), fun q hq => ?_⟩
  have s2 := same_upd (o := .lst (rgV 0 b.f)) hq
  refine ⟨_, rfl, q, _, rfl, SqL.of upd_same, fun p hp => ?_⟩
  have s3 := same_upd (o := .lst (cutV (rgV 0 b.f) none (some 3))) hp
  have eP : upd (upd H1 q (.lst (rgV 0 b.f))) p (.lst (cutV (rgV 0 b.f) none (some 3))) p = some (.lst ((rgV 0 b.f).take 3)) := by rw [upd_same, show (some (3 : Int)) = some (((3 : Nat) : Int)) from rfl, cut_to]
  have S3 := S1.same (s2.trans s3)
  have A3 := A1.same (s2.trans s3)
  generalize upd (upd H1 q (.lst (rgV 0 b.f))) p (.lst (cutV (rgV 0 b.f) none (some 3))) = H3 at eP S3 A3 ⊢
  refine ⟨_, rfl, _, rfl, h, sa, b, cs, rfl, S3, A3, fun H4 s4 => ⟨true, rfl, iteT ?_⟩⟩
  have S4 := S3.same s4
  have A4 := A3.same s4
  have eP4 := s4 _ _ eP
  refine ⟨_, rfl, p, rfl, ⟨_, SqL.of eP4⟩, fun L hL => lc_list (K := K) (a := p) (xs := (rgV 0 b.f).take 3) (fun i H' => Same H4 H' ∧ H' L = some (.lst ((List.replicate i true).map V.bl))) ⟨same_upd hL, upd_same⟩ (fun i H' _ z => SqL.of (z.1 _ _ eP4)) ?_ ?_⟩
  · rintro i x H' hx ⟨z, eL⟩
    obtain ⟨hi, rfl⟩ : (i : Int) < b.f ∧ x = .int (i : Int) := by
      have hi3 : i < 3 := by
        rcases Nat.lt_or_ge i 3 with h | h
        · exact h
        · rw [List.getElem?_eq_none (by rw [List.length_take]; omega)] at hx
          cases hx
      rw [List.getElem?_take_of_lt hi3] at hx
      unfold rgV at hx
      rw [List.getElem?_map] at hx
      rcases Nat.lt_or_ge i (b.f - 0).toNat with h | h
      · rw [List.getElem?_range h] at hx
        have hx' : x = V.int (0 + ((i : Nat) : Int)) := (Option.some.inj hx).symm
        exact ⟨by omega, by rw [hx', Int.zero_add]⟩
      · rw [List.getElem?_eq_none (by rw [List.length_range]; exact h)] at hx
        cases hx
    have S5 := S4.same z
    have A5 := A4.same z
    refine ⟨rfl, tyes_go ⟨_, rfl, _, rfl, _, rfl, h, sa, (i : Int), b, cs, rfl, by omega, hi, S5, A5, fun H6 s6 => ⟨true, rfl, iteT ⟨_, rfl, _, rfl, _, rfl, h, sa, (i : Int), b, cs, rfl, by omega, hi, S5.same s6, A5.same s6, fun H7 s7 => ⟨_, s7 _ _ (s6 _ _ eL), ?_, ?_, ?_⟩⟩⟩⟩⟩
    · rw [List.length_map, List.length_replicate, sizeLine_eq]
      have : i < ((rgV 0 b.f).take 3).length := by
        rcases Nat.lt_or_ge i ((rgV 0 b.f).take 3).length with h | h
        · exact h
        · rw [List.getElem?_eq_none h] at hx; cases hx
      rw [List.length_take] at this
      omega
    · exact fun c o e => by rw [upd_ne (ne_of_none e hL)]; exact s7 _ _ (s6 _ _ (z _ _ e))
    · rw [upd_same, List.replicate_succ', List.map_append]
      rfl
  · rintro H5 ⟨z, eL⟩
    refine ⟨L, _, rfl, SqL.of eL, ?_⟩
    have e9 : ∀ n : Nat, (List.replicate n true).all id = true := fun n => by simp
    rw [e9]
    exact k _
def spLaw (K : PySem.W.Frag) : Sp := fun vs H Q _ => ∃ (a : Addr) (ns : List Int), vs = [.ref a] ∧ SqL K H a (ns.map V.int) ∧ ns.length ≤ 63 ∧ ∀ H', Q (.bl true) H'
theorem ok_law {f fS fT fPk fC fU fP fTo fQ fRf fA fN fR fM : Addr} {fd dS dT dPk dC dU dP dTo dQ dRf dA dN dR dM : FuncData} (F : Fun K "law" "law" sLaw f fd) (T : ShTxt K C)
    (MS : Mk K C fS) (GS : FnOk P w K mg base CX0 2 fS dS ["self", "dirs", "rows", "files", "blocks", "users"] (spShI C)) (gS : mg "Shape" = some (.ref C)) (bS : Binds K dS ["self", "dirs", "rows", "files", "blocks", "users"] [])
    (DT : Df P w K mg base CX0 2 "_law_take" ["_law_draw", "_law_many"] (spTake K) fT dT) (DPk : Df P w K mg base CX0 3 "_law_pick" ["_law_draw", "_law_items"] (spPick K) fPk dPk) (DC : Df P w K mg base CX0 2 "_law_cells_of" ["_law_shape"] (spLc K C) fC dC) (DU : Df P w K mg base CX0 1 "_law_unlike" ["_law_items"] (spUnl K) fU dU)
    (DP : Df P w K mg base CX0 1 "spot_of" ["number"] spSpot fP dP) (MT : Me P w K mg base 1 C "told" ["self"] (spTold C) fTo dTo)
    (GQ : FnOk P w K mg base CX0 2 fQ dQ ["self", "other"] (spShEq C)) (NQ : NeC K C fQ) (bQ : Binds K dQ ["self", "other"] []) {t75 : Tok} (m75 : mg "MOST_BLOCKS" = some (.int 75 t75))
    (DRf : Df P w K mg base CX0 4 "_law_is_refused" ["_law_numbers", "_law_word"] (spRf K) fRf dRf)
    (DA : Df P w K mg base CX0 4 "_law_any" ["_law_draw", "_law_shape"] (spAn K C) fA dA) (DN : Df P w K mg base CX0 5 "_law_are_names" ["_law_home", "_law_shape"] (spLn K C) fN dN)
    (DR : Df P w K mg base CX0 7 "_law_is_read" ["_law_home", "_law_shape", "_law_file"] (spLr K C) fR dR) (DM : Df P w K mg base CX0 6 "_law_are_met" ["_law_home", "_law_shape", "_law_file"] (spLm K C) fM dM)
    (mso : mg "sorted" = none) (ml : mg "len" = none) (mli : mg "list" = none) (mr : mg "range" = none) (mal : mg "all" = none) :
    FnOk P w K mg base CX0 9 f fd ["_law_script"] (spLaw K) := by
  refine F.ok scLaw (fun vs H Q E h => ?_) (fun cdv A outer s H vs Q E hr h => ?_)
  · obtain ⟨a, ns, rfl, _⟩ := h
    rfl
  · obtain ⟨a, ns, rfl, hS, hlen, k⟩ := h
    obtain ⟨t5, h5, q5⟩ := law_1113 (f := f) (cdv := cdv) (A := A) (outer := outer) (s := s) (H0 := H) (E := E) T DA DN DR DM mli mr mal hr
    obtain ⟨t4, h4, q4⟩ := law_10 (C := C) (f := f) (cdv := cdv) (A := A) (outer := outer) (s := s) (H0 := H) (E := E) DRf hr h5
    obtain ⟨t3, h3, q3⟩ := law_79 (C := C) (f := f) (cdv := cdv) (A := A) (outer := outer) (s := s) (H0 := H) (E := E) DT DPk hr h4
    obtain ⟨t2, h2, q2⟩ := law_46 (f := f) (cdv := cdv) (A := A) (outer := outer) (s := s) (H0 := H) (E := E) T MS GS gS bS DU DP MT GQ NQ bQ m75 mr ml hr h3
    obtain ⟨t0, h0, q0⟩ := law_04 (f := f) (cdv := cdv) (A := A) (outer := outer) (s := s) (H0 := H) (E := E) T MS GS gS bS DT DC DU mso ml hr h2
    exact ⟨t0, PSs.nox h0, q0 _ _ _ ⟨a, ns, rfl, hS, hlen⟩ fun H1 a sc sa ss b x3 D1 S1 => q2 _ H1 a sc sa ss b x3 D1 S1 fun H2 x4 D2 S2 => q3 _ H2 a sc sa ss b x3 x4 D2 S2 fun H3 B j v d D3 S3 eB hj hb =>
      q4 _ H3 a sc sa B ss b x3 x4 j v d D3 S3 eB hj hb fun H4 D4 S4 => q5 _ H4 a sc sa ss b x3 x4 _ _ D4 S4 fun H5 => k H5⟩
end
end Pf

set_option Elab.async false
set_option linter.all false
set_option maxRecDepth 100000
set_option maxHeartbeats 8000000
namespace Pf
open PySem PySem.Spec PyProof.Rows L2
/-! ### what the top has written -/
theorem all_mk {l : PySem.W.OpenLaw} {w : World} {K : PySem.W.Frag} {h : Heap} {mg : Str → Option Value} {fa : Addr} (X : K.In h) (G : h.Ns mainGlobals mg) (hfa : mg "law" = some (.ref fa))
    {CS T0 aR aL f0 r0 r1 r2 r3 r4 f1 f2 f3 f4 f5 f6 f7 f8 f9 f10 f11 f12 f13 f14 f15 f16 f17 f18 f19 f20 f21 f22 f23 f24 f25 f26 f27 f28 f29 f30 f31 f32 f33 f34 f35 f36 f37 f38 f39 f40 : Addr}
    {od0 an0 od1 an1 od2 an2 od3 an3 od4 an4 od5 an5 od6 an6 od7 an7 od8 an8 od9 an9 od10 an10 od11 an11 od12 an12 od13 an13 od14 an14 od15 an15 od16 an16 od17 an17 od18 an18 od19 an19 od20 an20 od21 an21 od22 an22 od23 an23 od24 an24 od25 an25 od26 an26 od27 an27 od28 an28 od29 an29 od30 an30 od31 an31 od32 an32 od33 an33 od34 an34 od35 an35 od36 an36 od37 an37 od38 an38 od39 an39 od40 an40 : Option Addr}
    {sl0 sl1 sl2 sl3 sl4 sl5 sl6 sl7 sl8 sl9 sl10 sl11 sl12 sl13 sl14 sl15 sl16 sl17 sl18 sl19 sl20 sl21 sl22 sl23 sl24 sl25 sl26 sl27 sl28 sl29 sl30 sl31 sl32 sl33 sl34 sl35 sl36 sl37 sl38 sl39 sl40 : Array (Option Value)}
    {oc0 kV0 dc0 pm0 cd0 ct0 oc1 kV1 dc1 pm1 cd1 ct1 oc2 kV2 dc2 pm2 cd2 ct2 oc3 kV3 dc3 pm3 cd3 ct3 oc4 kV4 dc4 pm4 cd4 ct4 oc5 kV5 dc5 pm5 cd5 ct5 oc6 kV6 dc6 pm6 cd6 ct6 oc7 kV7 dc7 pm7 cd7 ct7 oc8 kV8 dc8 pm8 cd8 ct8 oc9 kV9 dc9 pm9 cd9 ct9 oc10 kV10 dc10 pm10 cd10 ct10 oc11 kV11 dc11 pm11 cd11 ct11 oc12 kV12 dc12 pm12 cd12 ct12 oc13 kV13 dc13 pm13 cd13 ct13 oc14 kV14 dc14 pm14 cd14 ct14 oc15 kV15 dc15 pm15 cd15 ct15 oc16 kV16 dc16 pm16 cd16 ct16 oc17 kV17 dc17 pm17 cd17 ct17 oc18 kV18 dc18 pm18 cd18 ct18 oc19 kV19 dc19 pm19 cd19 ct19 oc20 kV20 dc20 pm20 cd20 ct20 oc21 kV21 dc21 pm21 cd21 ct21 oc22 kV22 dc22 pm22 cd22 ct22 oc23 kV23 dc23 pm23 cd23 ct23 oc24 kV24 dc24 pm24 cd24 ct24 oc25 kV25 dc25 pm25 cd25 ct25 oc26 kV26 dc26 pm26 cd26 ct26 oc27 kV27 dc27 pm27 cd27 ct27 oc28 kV28 dc28 pm28 cd28 ct28 oc29 kV29 dc29 pm29 cd29 ct29 oc30 kV30 dc30 pm30 cd30 ct30 oc31 kV31 dc31 pm31 cd31 ct31 oc32 kV32 dc32 pm32 cd32 ct32 oc33 kV33 dc33 pm33 cd33 ct33 oc34 kV34 dc34 pm34 cd34 ct34 oc35 kV35 dc35 pm35 cd35 ct35 oc36 kV36 dc36 pm36 cd36 ct36 oc37 kV37 dc37 pm37 cd37 ct37 oc38 kV38 dc38 pm38 cd38 ct38 oc39 kV39 dc39 pm39 cd39 ct39 oc40 kV40 dc40 pm40 cd40 ct40 : Value}
    {CR SE fR NR : Addr} {nmR qR : Str} {bsR sbR : List Value} {snR : List Str} {abR : Bool} {clR : Option Bool} {ddR0 : Option Addr} {k0R k1R k2R k3R k5R : Option Value} {odR anR : Option Addr} {slR0 : Array (Option Value)} {ocR dcR pmR cdR ctR : Value}
    {ddT ddR ddL ddr0 ddr1 ddr2 ddr3 ddr4 : Option Addr} {nT nR nL nr0 nr1 nr2 nr3 nr4 : Nat} {slT slR slL slr0 slr1 slr2 slr3 slr4 : Array (Option Value)} {tk0 tk1 tk2 tk3 tk4 tk5 tk6 tk7 tk8 tk9 tk10 tk11 tk12 tl0 tl1 tl2 tl3 tl4 u0 v0 w0 u1 v1 w1 u2 v2 w2 u3 v3 w3 u4 v4 w4 : Tok}
    (aS : PySem.W.nsIn K mainGlobals "Shape" = some (some (.ref CS)))
    (a0 : PySem.W.nsIn K mainGlobals "is_whole" = some (some (.ref f0)))
    (l0 : K.lookup f0 = some ⟨oc0, od0, .func (PySem.W.fnOf "is_whole" "is_whole" (defArgs sWhole) (defBody sWhole) (defScope sWhole) (.ref T0) kV0 dc0 pm0 an0 cd0 ct0), sl0⟩)
    (lT : K.lookup T0 = some ⟨.type "tuple", ddT, .seq #[.none, .none] nT, slT⟩)
    (c0 : PySem.W.codeIn K cd0 "is_whole" = true)
    (k0 : PySem.W.keepIn K (.ref f0) = true)
    (aRg : PySem.W.nsIn K mainGlobals "RANGES" = some (some (.ref aR)))
    (lRg : K.lookup aR = some ⟨.type "tuple", ddR, .seq #[.ref r0, .ref r1, .ref r2, .ref r3, .ref r4] nR, slR⟩)
    (lr0 : K.lookup r0 = some ⟨.type "tuple", ddr0, .seq #[.str "dirs" u0, .int 2 v0, .int 40 w0] nr0, slr0⟩)
    (lr1 : K.lookup r1 = some ⟨.type "tuple", ddr1, .seq #[.str "rows" u1, .int 1 v1, .int 60 w1] nr1, slr1⟩)
    (lr2 : K.lookup r2 = some ⟨.type "tuple", ddr2, .seq #[.str "files" u2, .int 1 v2, .int 40 w2] nr2, slr2⟩)
    (lr3 : K.lookup r3 = some ⟨.type "tuple", ddr3, .seq #[.str "blocks" u3, .int 1 v3, .int 200 w3] nr3, slr3⟩)
    (lr4 : K.lookup r4 = some ⟨.type "tuple", ddr4, .seq #[.str "users" u4, .int 1 v4, .int 4 w4] nr4, slr4⟩)
    (aLv : PySem.W.nsIn K mainGlobals "LEVELS" = some (some (.ref aL)))
    (lLv : K.lookup aL = some ⟨.type "tuple", ddL, .seq #[.int 0 tl0, .int 0 tl1, .int 0 tl2, .int 1 tl3, .int 2 tl4] nL, slL⟩)
    (a1 : PySem.W.nsIn K mainGlobals "plates_for" = some (some (.ref f1)))
    (l1 : K.lookup f1 = some ⟨oc1, od1, .func (PySem.W.fnOf "plates_for" "plates_for" (defArgs sPl) (defBody sPl) (defScope sPl) .none kV1 dc1 pm1 an1 cd1 ct1), sl1⟩)
    (c1 : PySem.W.codeIn K cd1 "plates_for" = true)
    (k1 : PySem.W.keepIn K (.ref f1) = true)
    (a2 : PySem.W.nsIn K mainGlobals "cell_at" = some (some (.ref f2)))
    (l2 : K.lookup f2 = some ⟨oc2, od2, .func (PySem.W.fnOf "cell_at" "cell_at" (defArgs sCa) (defBody sCa) (defScope sCa) .none kV2 dc2 pm2 an2 cd2 ct2), sl2⟩)
    (c2 : PySem.W.codeIn K cd2 "cell_at" = true)
    (k2 : PySem.W.keepIn K (.ref f2) = true)
    (a3 : PySem.W.nsIn K mainGlobals "dir_at" = some (some (.ref f3)))
    (l3 : K.lookup f3 = some ⟨oc3, od3, .func (PySem.W.fnOf "dir_at" "dir_at" (defArgs sDa) (defBody sDa) (defScope sDa) .none kV3 dc3 pm3 an3 cd3 ct3), sl3⟩)
    (c3 : PySem.W.codeIn K cd3 "dir_at" = true)
    (k3 : PySem.W.keepIn K (.ref f3) = true)
    (a4 : PySem.W.nsIn K mainGlobals "row_at" = some (some (.ref f4)))
    (l4 : K.lookup f4 = some ⟨oc4, od4, .func (PySem.W.fnOf "row_at" "row_at" (defArgs sRa) (defBody sRa) (defScope sRa) .none kV4 dc4 pm4 an4 cd4 ct4), sl4⟩)
    (c4 : PySem.W.codeIn K cd4 "row_at" = true)
    (k4 : PySem.W.keepIn K (.ref f4) = true)
    (a5 : PySem.W.nsIn K mainGlobals "is_dir" = some (some (.ref f5)))
    (l5 : K.lookup f5 = some ⟨oc5, od5, .func (PySem.W.fnOf "is_dir" "is_dir" (defArgs sIsD) (defBody sIsD) (defScope sIsD) .none kV5 dc5 pm5 an5 cd5 ct5), sl5⟩)
    (c5 : PySem.W.codeIn K cd5 "is_dir" = true)
    (k5 : PySem.W.keepIn K (.ref f5) = true)
    (a6 : PySem.W.nsIn K mainGlobals "rows_of" = some (some (.ref f6)))
    (l6 : K.lookup f6 = some ⟨oc6, od6, .func (PySem.W.fnOf "rows_of" "rows_of" (defArgs sRo) (defBody sRo) (defScope sRo) .none kV6 dc6 pm6 an6 cd6 ct6), sl6⟩)
    (c6 : PySem.W.codeIn K cd6 "rows_of" = true)
    (k6 : PySem.W.keepIn K (.ref f6) = true)
    (a7 : PySem.W.nsIn K mainGlobals "named_files" = some (some (.ref f7)))
    (l7 : K.lookup f7 = some ⟨oc7, od7, .func (PySem.W.fnOf "named_files" "named_files" (defArgs sNf) (defBody sNf) (defScope sNf) .none kV7 dc7 pm7 an7 cd7 ct7), sl7⟩)
    (c7 : PySem.W.codeIn K cd7 "named_files" = true)
    (k7 : PySem.W.keepIn K (.ref f7) = true)
    (a8 : PySem.W.nsIn K mainGlobals "file_cell" = some (some (.ref f8)))
    (l8 : K.lookup f8 = some ⟨oc8, od8, .func (PySem.W.fnOf "file_cell" "file_cell" (defArgs sFc) (defBody sFc) (defScope sFc) .none kV8 dc8 pm8 an8 cd8 ct8), sl8⟩)
    (c8 : PySem.W.codeIn K cd8 "file_cell" = true)
    (k8 : PySem.W.keepIn K (.ref f8) = true)
    (a9 : PySem.W.nsIn K mainGlobals "size_at" = some (some (.ref f9)))
    (l9 : K.lookup f9 = some ⟨oc9, od9, .func (PySem.W.fnOf "size_at" "size_at" (defArgs sSz) (defBody sSz) (defScope sSz) .none kV9 dc9 pm9 an9 cd9 ct9), sl9⟩)
    (c9 : PySem.W.codeIn K cd9 "size_at" = true)
    (k9 : PySem.W.keepIn K (.ref f9) = true)
    (a10 : PySem.W.nsIn K mainGlobals "owner_at" = some (some (.ref f10)))
    (l10 : K.lookup f10 = some ⟨oc10, od10, .func (PySem.W.fnOf "owner_at" "owner_at" (defArgs sOw) (defBody sOw) (defScope sOw) .none kV10 dc10 pm10 an10 cd10 ct10), sl10⟩)
    (c10 : PySem.W.codeIn K cd10 "owner_at" = true)
    (k10 : PySem.W.keepIn K (.ref f10) = true)
    (a11 : PySem.W.nsIn K mainGlobals "block_of" = some (some (.ref f11)))
    (l11 : K.lookup f11 = some ⟨oc11, od11, .func (PySem.W.fnOf "block_of" "block_of" (defArgs sBo) (defBody sBo) (defScope sBo) .none kV11 dc11 pm11 an11 cd11 ct11), sl11⟩)
    (c11 : PySem.W.codeIn K cd11 "block_of" = true)
    (k11 : PySem.W.keepIn K (.ref f11) = true)
    (a12 : PySem.W.nsIn K mainGlobals "spot_of" = some (some (.ref f12)))
    (l12 : K.lookup f12 = some ⟨oc12, od12, .func (PySem.W.fnOf "spot_of" "spot_of" (defArgs sSpot) (defBody sSpot) (defScope sSpot) .none kV12 dc12 pm12 an12 cd12 ct12), sl12⟩)
    (c12 : PySem.W.codeIn K cd12 "spot_of" = true)
    (k12 : PySem.W.keepIn K (.ref f12) = true)
    (a13 : PySem.W.nsIn K mainGlobals "block_at" = some (some (.ref f13)))
    (l13 : K.lookup f13 = some ⟨oc13, od13, .func (PySem.W.fnOf "block_at" "block_at" (defArgs sBa) (defBody sBa) (defScope sBa) .none kV13 dc13 pm13 an13 cd13 ct13), sl13⟩)
    (c13 : PySem.W.codeIn K cd13 "block_at" = true)
    (k13 : PySem.W.keepIn K (.ref f13) = true)
    (a14 : PySem.W.nsIn K mainGlobals "data_block" = some (some (.ref f14)))
    (l14 : K.lookup f14 = some ⟨oc14, od14, .func (PySem.W.fnOf "data_block" "data_block" (defArgs sDb) (defBody sDb) (defScope sDb) .none kV14 dc14 pm14 an14 cd14 ct14), sl14⟩)
    (c14 : PySem.W.codeIn K cd14 "data_block" = true)
    (k14 : PySem.W.keepIn K (.ref f14) = true)
    (a15 : PySem.W.nsIn K mainGlobals "part_at" = some (some (.ref f15)))
    (l15 : K.lookup f15 = some ⟨oc15, od15, .func (PySem.W.fnOf "part_at" "part_at" (defArgs sPart) (defBody sPart) (defScope sPart) .none kV15 dc15 pm15 an15 cd15 ct15), sl15⟩)
    (c15 : PySem.W.codeIn K cd15 "part_at" = true)
    (k15 : PySem.W.keepIn K (.ref f15) = true)
    (a16 : PySem.W.nsIn K mainGlobals "numbers_at" = some (some (.ref f16)))
    (l16 : K.lookup f16 = some ⟨oc16, od16, .func (PySem.W.fnOf "numbers_at" "numbers_at" (defArgs sNums) (defBody sNums) (defScope sNums) .none kV16 dc16 pm16 an16 cd16 ct16), sl16⟩)
    (c16 : PySem.W.codeIn K cd16 "numbers_at" = true)
    (k16 : PySem.W.keepIn K (.ref f16) = true)
    (a17 : PySem.W.nsIn K mainGlobals "content_of" = some (some (.ref f17)))
    (l17 : K.lookup f17 = some ⟨oc17, od17, .func (PySem.W.fnOf "content_of" "content_of" (defArgs sCont) (defBody sCont) (defScope sCont) .none kV17 dc17 pm17 an17 cd17 ct17), sl17⟩)
    (c17 : PySem.W.codeIn K cd17 "content_of" = true)
    (k17 : PySem.W.keepIn K (.ref f17) = true)
    (a18 : PySem.W.nsIn K mainGlobals "pointers_at" = some (some (.ref f18)))
    (l18 : K.lookup f18 = some ⟨oc18, od18, .func (PySem.W.fnOf "pointers_at" "pointers_at" (defArgs sPa) (defBody sPa) (defScope sPa) .none kV18 dc18 pm18 an18 cd18 ct18), sl18⟩)
    (c18 : PySem.W.codeIn K cd18 "pointers_at" = true)
    (k18 : PySem.W.keepIn K (.ref f18) = true)
    (a19 : PySem.W.nsIn K mainGlobals "met_below" = some (some (.ref f19)))
    (l19 : K.lookup f19 = some ⟨oc19, od19, .func (PySem.W.fnOf "met_below" "met_below" (defArgs sMb) (defBody sMb) (defScope sMb) .none kV19 dc19 pm19 an19 cd19 ct19), sl19⟩)
    (c19 : PySem.W.codeIn K cd19 "met_below" = true)
    (k19 : PySem.W.keepIn K (.ref f19) = true)
    (a20 : PySem.W.nsIn K mainGlobals "met" = some (some (.ref f20)))
    (l20 : K.lookup f20 = some ⟨oc20, od20, .func (PySem.W.fnOf "met" "met" (defArgs sMet) (defBody sMet) (defScope sMet) .none kV20 dc20 pm20 an20 cd20 ct20), sl20⟩)
    (c20 : PySem.W.codeIn K cd20 "met" = true)
    (k20 : PySem.W.keepIn K (.ref f20) = true)
    (a21 : PySem.W.nsIn K mainGlobals "_law_number" = some (some (.ref f21)))
    (l21 : K.lookup f21 = some ⟨oc21, od21, .func (PySem.W.fnOf "_law_number" "_law_number" (defArgs sNum) (defBody sNum) (defScope sNum) .none kV21 dc21 pm21 an21 cd21 ct21), sl21⟩)
    (c21 : PySem.W.codeIn K cd21 "_law_number" = true)
    (k21 : PySem.W.keepIn K (.ref f21) = true)
    (a22 : PySem.W.nsIn K mainGlobals "_law_take" = some (some (.ref f22)))
    (l22 : K.lookup f22 = some ⟨oc22, od22, .func (PySem.W.fnOf "_law_take" "_law_take" (defArgs sTake) (defBody sTake) (defScope sTake) .none kV22 dc22 pm22 an22 cd22 ct22), sl22⟩)
    (c22 : PySem.W.codeIn K cd22 "_law_take" = true)
    (k22 : PySem.W.keepIn K (.ref f22) = true)
    (a23 : PySem.W.nsIn K mainGlobals "_law_pick" = some (some (.ref f23)))
    (l23 : K.lookup f23 = some ⟨oc23, od23, .func (PySem.W.fnOf "_law_pick" "_law_pick" (defArgs sPick) (defBody sPick) (defScope sPick) .none kV23 dc23 pm23 an23 cd23 ct23), sl23⟩)
    (c23 : PySem.W.codeIn K cd23 "_law_pick" = true)
    (k23 : PySem.W.keepIn K (.ref f23) = true)
    (a24 : PySem.W.nsIn K mainGlobals "_law_unlike" = some (some (.ref f24)))
    (l24 : K.lookup f24 = some ⟨oc24, od24, .func (PySem.W.fnOf "_law_unlike" "_law_unlike" (defArgs sUnl) (defBody sUnl) (defScope sUnl) .none kV24 dc24 pm24 an24 cd24 ct24), sl24⟩)
    (c24 : PySem.W.codeIn K cd24 "_law_unlike" = true)
    (k24 : PySem.W.keepIn K (.ref f24) = true)
    (a25 : PySem.W.nsIn K mainGlobals "_law_cells_of" = some (some (.ref f25)))
    (l25 : K.lookup f25 = some ⟨oc25, od25, .func (PySem.W.fnOf "_law_cells_of" "_law_cells_of" (defArgs sLco) (defBody sLco) (defScope sLco) .none kV25 dc25 pm25 an25 cd25 ct25), sl25⟩)
    (c25 : PySem.W.codeIn K cd25 "_law_cells_of" = true)
    (k25 : PySem.W.keepIn K (.ref f25) = true)
    (a26 : PySem.W.nsIn K mainGlobals "_law_any" = some (some (.ref f26)))
    (l26 : K.lookup f26 = some ⟨oc26, od26, .func (PySem.W.fnOf "_law_any" "_law_any" (defArgs sAny) (defBody sAny) (defScope sAny) .none kV26 dc26 pm26 an26 cd26 ct26), sl26⟩)
    (c26 : PySem.W.codeIn K cd26 "_law_any" = true)
    (k26 : PySem.W.keepIn K (.ref f26) = true)
    (a27 : PySem.W.nsIn K mainGlobals "_law_is_read" = some (some (.ref f27)))
    (l27 : K.lookup f27 = some ⟨oc27, od27, .func (PySem.W.fnOf "_law_is_read" "_law_is_read" (defArgs sLir) (defBody sLir) (defScope sLir) .none kV27 dc27 pm27 an27 cd27 ct27), sl27⟩)
    (c27 : PySem.W.codeIn K cd27 "_law_is_read" = true)
    (k27 : PySem.W.keepIn K (.ref f27) = true)
    (a28 : PySem.W.nsIn K mainGlobals "_law_are_met" = some (some (.ref f28)))
    (l28 : K.lookup f28 = some ⟨oc28, od28, .func (PySem.W.fnOf "_law_are_met" "_law_are_met" (defArgs sLam) (defBody sLam) (defScope sLam) .none kV28 dc28 pm28 an28 cd28 ct28), sl28⟩)
    (c28 : PySem.W.codeIn K cd28 "_law_are_met" = true)
    (k28 : PySem.W.keepIn K (.ref f28) = true)
    (a29 : PySem.W.nsIn K mainGlobals "_law_are_names" = some (some (.ref f29)))
    (l29 : K.lookup f29 = some ⟨oc29, od29, .func (PySem.W.fnOf "_law_are_names" "_law_are_names" (defArgs sLan) (defBody sLan) (defScope sLan) .none kV29 dc29 pm29 an29 cd29 ct29), sl29⟩)
    (c29 : PySem.W.codeIn K cd29 "_law_are_names" = true)
    (k29 : PySem.W.keepIn K (.ref f29) = true)
    (a30 : PySem.W.nsIn K mainGlobals "_law_is_refused" = some (some (.ref f30)))
    (l30 : K.lookup f30 = some ⟨oc30, od30, .func (PySem.W.fnOf "_law_is_refused" "_law_is_refused" (defArgs sLrf) (defBody sLrf) (defScope sLrf) .none kV30 dc30 pm30 an30 cd30 ct30), sl30⟩)
    (c30 : PySem.W.codeIn K cd30 "_law_is_refused" = true)
    (k30 : PySem.W.keepIn K (.ref f30) = true)
    (a31 : PySem.W.nsIn K mainGlobals "law" = some (some (.ref f31)))
    (l31 : K.lookup f31 = some ⟨oc31, od31, .func (PySem.W.fnOf "law" "law" (defArgs sLaw) (defBody sLaw) (defScope sLaw) .none kV31 dc31 pm31 an31 cd31 ct31), sl31⟩)
    (c31 : PySem.W.codeIn K cd31 "law" = true)
    (k31 : PySem.W.keepIn K (.ref f31) = true)
    (a32 : PySem.W.findIn K (.ref CS) "__init__" = some (some (.ref f32)))
    (i32 : PySem.W.isFn K (.ref f32) = true)
    (l32 : K.lookup f32 = some ⟨oc32, od32, .func (PySem.W.fnOf "__init__" "Shape.__init__" (defArgs sShI) (defBody sShI) (defScope sShI) .none kV32 dc32 pm32 an32 cd32 ct32), sl32⟩)
    (c32 : PySem.W.codeIn K cd32 "Shape.__init__" = true)
    (k32 : PySem.W.keepIn K (.ref f32) = true)
    (a33 : PySem.W.findIn K (.ref CS) "__eq__" = some (some (.ref f33)))
    (i33 : PySem.W.isFn K (.ref f33) = true)
    (l33 : K.lookup f33 = some ⟨oc33, od33, .func (PySem.W.fnOf "__eq__" "Shape.__eq__" (defArgs sShEq) (defBody sShEq) (defScope sShEq) .none kV33 dc33 pm33 an33 cd33 ct33), sl33⟩)
    (c33 : PySem.W.codeIn K cd33 "Shape.__eq__" = true)
    (k33 : PySem.W.keepIn K (.ref f33) = true)
    (a34 : PySem.W.findIn K (.ref CS) "told" = some (some (.ref f34)))
    (i34 : PySem.W.isFn K (.ref f34) = true)
    (l34 : K.lookup f34 = some ⟨oc34, od34, .func (PySem.W.fnOf "told" "Shape.told" (defArgs sTold) (defBody sTold) (defScope sTold) .none kV34 dc34 pm34 an34 cd34 ct34), sl34⟩)
    (c34 : PySem.W.codeIn K cd34 "Shape.told" = true)
    (k34 : PySem.W.keepIn K (.ref f34) = true)
    (a35 : PySem.W.findIn K (.ref CS) "clock_cell" = some (some (.ref f35)))
    (i35 : PySem.W.isFn K (.ref f35) = true)
    (l35 : K.lookup f35 = some ⟨oc35, od35, .func (PySem.W.fnOf "clock_cell" "Shape.clock_cell" (defArgs sClk) (defBody sClk) (defScope sClk) .none kV35 dc35 pm35 an35 cd35 ct35), sl35⟩)
    (c35 : PySem.W.codeIn K cd35 "Shape.clock_cell" = true)
    (k35 : PySem.W.keepIn K (.ref f35) = true)
    (a36 : PySem.W.findIn K (.ref CS) "dir_cell" = some (some (.ref f36)))
    (i36 : PySem.W.isFn K (.ref f36) = true)
    (l36 : K.lookup f36 = some ⟨oc36, od36, .func (PySem.W.fnOf "dir_cell" "Shape.dir_cell" (defArgs sDc) (defBody sDc) (defScope sDc) .none kV36 dc36 pm36 an36 cd36 ct36), sl36⟩)
    (c36 : PySem.W.codeIn K cd36 "Shape.dir_cell" = true)
    (k36 : PySem.W.keepIn K (.ref f36) = true)
    (a37 : PySem.W.findIn K (.ref CS) "row_cell" = some (some (.ref f37)))
    (i37 : PySem.W.isFn K (.ref f37) = true)
    (l37 : K.lookup f37 = some ⟨oc37, od37, .func (PySem.W.fnOf "row_cell" "Shape.row_cell" (defArgs sRc) (defBody sRc) (defScope sRc) .none kV37 dc37 pm37 an37 cd37 ct37), sl37⟩)
    (c37 : PySem.W.codeIn K cd37 "Shape.row_cell" = true)
    (k37 : PySem.W.keepIn K (.ref f37) = true)
    (a38 : PySem.W.findIn K (.ref CS) "user_cell" = some (some (.ref f38)))
    (i38 : PySem.W.isFn K (.ref f38) = true)
    (l38 : K.lookup f38 = some ⟨oc38, od38, .func (PySem.W.fnOf "user_cell" "Shape.user_cell" (defArgs sUc) (defBody sUc) (defScope sUc) .none kV38 dc38 pm38 an38 cd38 ct38), sl38⟩)
    (c38 : PySem.W.codeIn K cd38 "Shape.user_cell" = true)
    (k38 : PySem.W.keepIn K (.ref f38) = true)
    (a39 : PySem.W.findIn K (.ref CS) "file_plate" = some (some (.ref f39)))
    (i39 : PySem.W.isFn K (.ref f39) = true)
    (l39 : K.lookup f39 = some ⟨oc39, od39, .func (PySem.W.fnOf "file_plate" "Shape.file_plate" (defArgs sFp) (defBody sFp) (defScope sFp) .none kV39 dc39 pm39 an39 cd39 ct39), sl39⟩)
    (c39 : PySem.W.codeIn K cd39 "Shape.file_plate" = true)
    (k39 : PySem.W.keepIn K (.ref f39) = true)
    (a40 : PySem.W.findIn K (.ref CS) "block_plate" = some (some (.ref f40)))
    (i40 : PySem.W.isFn K (.ref f40) = true)
    (l40 : K.lookup f40 = some ⟨oc40, od40, .func (PySem.W.fnOf "block_plate" "Shape.block_plate" (defArgs sBp) (defBody sBp) (defScope sBp) .none kV40 dc40 pm40 an40 cd40 ct40), sl40⟩)
    (c40 : PySem.W.codeIn K cd40 "Shape.block_plate" = true)
    (k40 : PySem.W.keepIn K (.ref f40) = true)
    (pgCS : PySem.W.plainGet K CS Str.empty = true)
    (hdCS : PySem.W.hasDictIn K CS = true)
    (poCS : PySem.W.plainOver K CS = true)
    (saCS : PySem.W.findIn K (.ref CS) "__setattr__" = some (some (.builtin "object.__setattr__")))
    (mkCS : PySem.W.makesIn K CS = true)
    (kcCS : PySem.W.keepIn K (.ref CS) = true)
    (m_dirs : PySem.W.findIn K (.ref CS) "dirs" = some none)
    (m_rows : PySem.W.findIn K (.ref CS) "rows" = some none)
    (m_files : PySem.W.findIn K (.ref CS) "files" = some none)
    (m_blocks : PySem.W.findIn K (.ref CS) "blocks" = some none)
    (m_users : PySem.W.findIn K (.ref CS) "users" = some none)
    (m_first_row : PySem.W.findIn K (.ref CS) "first_row" = some none)
    (m_first_user : PySem.W.findIn K (.ref CS) "first_user" = some none)
    (m_first_file : PySem.W.findIn K (.ref CS) "first_file" = some none)
    (m_first_block : PySem.W.findIn K (.ref CS) "first_block" = some none)
    (m_plates : PySem.W.findIn K (.ref CS) "plates" = some none)
    (v_WIDTH : PySem.W.nsIn K mainGlobals "WIDTH" = some (some (.int 8 tk0)))
    (v_NAMES : PySem.W.nsIn K mainGlobals "NAMES" = some (some (.int 475254 tk1)))
    (v_MOST_BLOCKS : PySem.W.nsIn K mainGlobals "MOST_BLOCKS" = some (some (.int 75 tk2)))
    (v_MOST_SIZE : PySem.W.nsIn K mainGlobals "MOST_SIZE" = some (some (.int 600 tk3)))
    (v_ROOT : PySem.W.nsIn K mainGlobals "ROOT" = some (some (.int 0 tk4)))
    (v_FOUND : PySem.W.nsIn K mainGlobals "FOUND" = some (some (.int 1 tk5)))
    (v_FIRST_DIR_shape : PySem.W.nsIn K mainGlobals "FIRST_DIR_shape" = some (some (.int 1 tk6)))
    (v_FIRST_DIR_readings : PySem.W.nsIn K mainGlobals "FIRST_DIR_readings" = some (some (.int 2 tk7)))
    (v_SIZE_PLACE : PySem.W.nsIn K mainGlobals "SIZE_PLACE" = some (some (.int 0 tk8)))
    (v_OWNER_PLACE : PySem.W.nsIn K mainGlobals "OWNER_PLACE" = some (some (.int 1 tk9)))
    (v_FIRST_POINTER : PySem.W.nsIn K mainGlobals "FIRST_POINTER" = some (some (.int 3 tk10)))
    (v_FIRST_BY_ONE : PySem.W.nsIn K mainGlobals "FIRST_BY_ONE" = some (some (.int 3 tk11)))
    (v_FIRST_BY_TWO : PySem.W.nsIn K mainGlobals "FIRST_BY_TWO" = some (some (.int 11 tk12)))
    (z_isinstance : PySem.W.nsIn K mainGlobals "isinstance" = some none)
    (z_int : PySem.W.nsIn K mainGlobals "int" = some none)
    (z_bool : PySem.W.nsIn K mainGlobals "bool" = some none)
    (z_tuple : PySem.W.nsIn K mainGlobals "tuple" = some none)
    (z_len : PySem.W.nsIn K mainGlobals "len" = some none)
    (z_range : PySem.W.nsIn K mainGlobals "range" = some none)
    (z_list : PySem.W.nsIn K mainGlobals "list" = some none)
    (z_abs : PySem.W.nsIn K mainGlobals "abs" = some none)
    (z_zip : PySem.W.nsIn K mainGlobals "zip" = some none)
    (z_max : PySem.W.nsIn K mainGlobals "max" = some none)
    (z_min : PySem.W.nsIn K mainGlobals "min" = some none)
    (z_sum : PySem.W.nsIn K mainGlobals "sum" = some none)
    (z_sorted : PySem.W.nsIn K mainGlobals "sorted" = some none)
    (z_all : PySem.W.nsIn K mainGlobals "all" = some none)
    (aR0 : PySem.W.nsIn K mainGlobals "BadShape" = some (some (.ref CR)))
    (xR : K.lookup CR = some (excClassObj nmR qR CR NR bsR [.ref SE, .type "Exception", .type "BaseException", .type "object"] true snR sbR abR clR ddR0 k0R k1R k2R k3R k5R "Exception.__new__"))
    (saR : PySem.W.findIn K (.ref CR) "__setattr__" = some (some (.builtin "object.__setattr__")))
    (gaR : PySem.W.findIn K (.ref CR) "__getattribute__" = some (some (.builtin "BaseException.__getattribute__")))
    (ggR : PySem.W.findIn K (.ref CR) "__getattr__" = some none)
    (nwR : PySem.W.findIn K (.ref CR) "word" = some none)
    (iR : PySem.W.findIn K (.ref CR) "__init__" = some (some (.ref fR)))
    (tR : PySem.W.typeIn K (.ref fR) = some (.type "function"))
    (lR : K.lookup fR = some ⟨ocR, odR, .func (PySem.W.fnOf "__init__" "BadShape.__init__" (defArgs sBsI) (defBody sBsI) (defScope sBsI) .none .none dcR pmR anR cdR ctR), slR0⟩)
    (cR : PySem.W.codeIn K cdR "BadShape.__init__" = true)
    (kR : PySem.W.keepIn K (.ref CR) = true)
    (eR : PySem.W.subIn K (.ref CR) (.type "BaseException") = some true)
    (tcR : PySem.W.typeIn K (.ref CR) = some (.type "type"))
    (hR : PySem.W.hasDictIn K CR = true)
    (sR : PySem.W.subIn K (.ref CR) (.ref CR) = some true)
    (io : PySem.W.mroIn K CS (.type "object") = some true)
    (ine : PySem.W.findIn K (.ref CS) "__ne__" = some (some (.builtin "object.__ne__")))
    (icl : PySem.W.findIn K (.ref CS) "__class__" = some (some (.builtin "object.__class__")))
    (isp : PySem.W.specialIn K (.builtin "object.__class__") "__get__" = some (some (.builtin "getset_descriptor.__get__")))
    (itk : PySem.W.takesIn K (.builtin "object.__class__") = some true)
    : ∃ fd : FuncData, (∀ (s : Shared) (v : Value), BindsTo s fd ⟨[v], []⟩ [("_law_script", v)]) ∧ ∀ base : Heap, K.In base → base.Ns mainGlobals mg → FnOk l.prog w K mg base CX0 9 fa fd ["_law_script"] (spLaw K) := by
  have e := hfa.symm.trans (PySem.W.mg_of X G a31)
  cases e
  have b_isinstance : mg "isinstance" = none := PySem.W.mg_none_of X G z_isinstance
  have b_int : mg "int" = none := PySem.W.mg_none_of X G z_int
  have b_bool : mg "bool" = none := PySem.W.mg_none_of X G z_bool
  have b_tuple : mg "tuple" = none := PySem.W.mg_none_of X G z_tuple
  have b_len : mg "len" = none := PySem.W.mg_none_of X G z_len
  have b_range : mg "range" = none := PySem.W.mg_none_of X G z_range
  have b_list : mg "list" = none := PySem.W.mg_none_of X G z_list
  have b_abs : mg "abs" = none := PySem.W.mg_none_of X G z_abs
  have b_zip : mg "zip" = none := PySem.W.mg_none_of X G z_zip
  have b_max : mg "max" = none := PySem.W.mg_none_of X G z_max
  have b_min : mg "min" = none := PySem.W.mg_none_of X G z_min
  have b_sum : mg "sum" = none := PySem.W.mg_none_of X G z_sum
  have b_sorted : mg "sorted" = none := PySem.W.mg_none_of X G z_sorted
  have b_all : mg "all" = none := PySem.W.mg_none_of X G z_all
  have m_WIDTH := PySem.W.mg_of X G v_WIDTH
  have m_NAMES := PySem.W.mg_of X G v_NAMES
  have m_MOST_BLOCKS := PySem.W.mg_of X G v_MOST_BLOCKS
  have m_MOST_SIZE := PySem.W.mg_of X G v_MOST_SIZE
  have m_ROOT := PySem.W.mg_of X G v_ROOT
  have m_FOUND := PySem.W.mg_of X G v_FOUND
  have m_FIRST_DIR_shape := PySem.W.mg_of X G v_FIRST_DIR_shape
  have m_FIRST_DIR_readings := PySem.W.mg_of X G v_FIRST_DIR_readings
  have m_SIZE_PLACE := PySem.W.mg_of X G v_SIZE_PLACE
  have m_OWNER_PLACE := PySem.W.mg_of X G v_OWNER_PLACE
  have m_FIRST_POINTER := PySem.W.mg_of X G v_FIRST_POINTER
  have m_FIRST_BY_ONE := PySem.W.mg_of X G v_FIRST_BY_ONE
  have m_FIRST_BY_TWO := PySem.W.mg_of X G v_FIRST_BY_TWO
  have R : RTxt K mg aR r0 r1 r2 r3 r4 := ⟨PySem.W.mg_of X G aRg, fun H => .inr ⟨_, _, _, lRg, rfl, rfl, (by show 5 ≤ sizeLine; decide), .cons rfl (.cons rfl (.cons rfl (.cons rfl (.cons rfl (.nil)))))⟩, fun H => .inr ⟨_, _, _, lr0, rfl, rfl, (by show 3 ≤ sizeLine; decide), .cons ⟨_, rfl⟩ (.cons ⟨_, rfl⟩ (.cons ⟨_, rfl⟩ (.nil)))⟩, fun H => .inr ⟨_, _, _, lr1, rfl, rfl, (by show 3 ≤ sizeLine; decide), .cons ⟨_, rfl⟩ (.cons ⟨_, rfl⟩ (.cons ⟨_, rfl⟩ (.nil)))⟩, fun H => .inr ⟨_, _, _, lr2, rfl, rfl, (by show 3 ≤ sizeLine; decide), .cons ⟨_, rfl⟩ (.cons ⟨_, rfl⟩ (.cons ⟨_, rfl⟩ (.nil)))⟩, fun H => .inr ⟨_, _, _, lr3, rfl, rfl, (by show 3 ≤ sizeLine; decide), .cons ⟨_, rfl⟩ (.cons ⟨_, rfl⟩ (.cons ⟨_, rfl⟩ (.nil)))⟩, fun H => .inr ⟨_, _, _, lr4, rfl, rfl, (by show 3 ≤ sizeLine; decide), .cons ⟨_, rfl⟩ (.cons ⟨_, rfl⟩ (.cons ⟨_, rfl⟩ (.nil)))⟩⟩
  have hL : ∀ H, SqT K H aL (LV.map fun l => V.int ((l : Nat) : Int)) := fun H => .inr ⟨_, _, _, lLv, rfl, rfl, (by show 5 ≤ sizeLine; decide), .cons ⟨_, rfl⟩ (.cons ⟨_, rfl⟩ (.cons ⟨_, rfl⟩ (.cons ⟨_, rfl⟩ (.cons ⟨_, rfl⟩ (.nil)))))⟩
  have TS : ShTxt K CS := ⟨⟨pgCS, hdCS, poCS, saCS⟩, fun x hx => by
    simp only [ShN, List.mem_cons, List.not_mem_nil, or_false] at hx
    rcases hx with rfl | rfl | rfl | rfl | rfl | rfl | rfl | rfl | rfl | rfl
    · exact m_dirs
    · exact m_rows
    · exact m_files
    · exact m_blocks
    · exact m_users
    · exact m_first_row
    · exact m_first_user
    · exact m_first_file
    · exact m_first_block
    · exact m_plates⟩
  have kc : KC mg := ⟨⟨_, m_WIDTH⟩, ⟨_, m_MOST_SIZE⟩, ⟨_, m_SIZE_PLACE⟩, ⟨_, m_FIRST_POINTER⟩, ⟨_, m_FIRST_BY_ONE⟩, ⟨_, m_FIRST_BY_TWO⟩, ⟨_, m_MOST_BLOCKS⟩⟩
  have RX : BsTx K mg CR SE fR := ⟨⟨⟨_, _, _, _, _, _, _, _, _, _, _, _, _, _, xR⟩, saR, nwR, iR, tR, kR, eR, tcR, ⟨_, _, _, _, _, _, _, _, _, _, _, _, _, _, lR, cR⟩⟩, PySem.W.mg_of X G aR0⟩
  have XF : XfC K CR := ⟨gaR, ggR, eR, hR⟩
  have exm := PySem.W.exm_ref (cls := .ref CR) eR hR tcR sR
  have F1 := fun_mk (st := sPl) l1 c1 k1
  have b1 := F1.binds (ps := ["cells"]) fun _ _ _ _ _ _ us hl => match us, hl with | [_], _ => rfl
  have F2 := fun_mk (st := sCa) l2 c2 k2
  have b2 := F2.binds (ps := ["home", "place"]) fun _ _ _ _ _ _ us hl => match us, hl with | [_, _], _ => rfl
  have F3 := fun_mk (st := sDa) l3 c3 k3
  have b3 := F3.binds (ps := ["home", "shape", "number"]) fun _ _ _ _ _ _ us hl => match us, hl with | [_, _, _], _ => rfl
  have F4 := fun_mk (st := sRa) l4 c4 k4
  have b4 := F4.binds (ps := ["home", "shape", "number"]) fun _ _ _ _ _ _ us hl => match us, hl with | [_, _, _], _ => rfl
  have F5 := fun_mk (st := sIsD) l5 c5 k5
  have b5 := F5.binds (ps := ["home", "shape", "number"]) fun _ _ _ _ _ _ us hl => match us, hl with | [_, _, _], _ => rfl
  have F6 := fun_mk (st := sRo) l6 c6 k6
  have b6 := F6.binds (ps := ["home", "shape"]) fun _ _ _ _ _ _ us hl => match us, hl with | [_, _], _ => rfl
  have F7 := fun_mk (st := sNf) l7 c7 k7
  have b7 := F7.binds (ps := ["home", "shape"]) fun _ _ _ _ _ _ us hl => match us, hl with | [_, _], _ => rfl
  have F8 := fun_mk (st := sFc) l8 c8 k8
  have b8 := F8.binds (ps := ["home", "shape", "file", "place"]) fun _ _ _ _ _ _ us hl => match us, hl with | [_, _, _, _], _ => rfl
  have F9 := fun_mk (st := sSz) l9 c9 k9
  have b9 := F9.binds (ps := ["home", "shape", "file"]) fun _ _ _ _ _ _ us hl => match us, hl with | [_, _, _], _ => rfl
  have F10 := fun_mk (st := sOw) l10 c10 k10
  have b10 := F10.binds (ps := ["home", "shape", "file"]) fun _ _ _ _ _ _ us hl => match us, hl with | [_, _, _], _ => rfl
  have F11 := fun_mk (st := sBo) l11 c11 k11
  have b11 := F11.binds (ps := ["shape", "pointer"]) fun _ _ _ _ _ _ us hl => match us, hl with | [_, _], _ => rfl
  have F12 := fun_mk (st := sSpot) l12 c12 k12
  have b12 := F12.binds (ps := ["number"]) fun _ _ _ _ _ _ us hl => match us, hl with | [_], _ => rfl
  have F13 := fun_mk (st := sBa) l13 c13 k13
  have b13 := F13.binds (ps := ["home", "shape", "file", "spot"]) fun _ _ _ _ _ _ us hl => match us, hl with | [_, _, _, _], _ => rfl
  have F14 := fun_mk (st := sDb) l14 c14 k14
  have b14 := F14.binds (ps := ["home", "shape", "file", "number"]) fun _ _ _ _ _ _ us hl => match us, hl with | [_, _, _, _], _ => rfl
  have F15 := fun_mk (st := sPart) l15 c15 k15
  have b15 := F15.binds (ps := ["home", "shape", "file", "number"]) fun _ _ _ _ _ _ us hl => match us, hl with | [_, _, _, _], _ => rfl
  have F16 := fun_mk (st := sNums) l16 c16 k16
  have b16 := F16.binds (ps := ["home", "shape", "file", "start", "end"]) fun _ _ _ _ _ _ us hl => match us, hl with | [_, _, _, _, _], _ => rfl
  have F17 := fun_mk (st := sCont) l17 c17 k17
  have b17 := F17.binds (ps := ["home", "shape", "file"]) fun _ _ _ _ _ _ us hl => match us, hl with | [_, _, _], _ => rfl
  have F18 := fun_mk (st := sPa) l18 c18 k18
  have b18 := F18.binds (ps := ["home", "shape", "file"]) fun _ _ _ _ _ _ us hl => match us, hl with | [_, _, _], _ => rfl
  have F19 := fun_mk (st := sMb) l19 c19 k19
  have b19 := F19.binds (ps := ["home", "shape", "pointer", "level"]) fun _ _ _ _ _ _ us hl => match us, hl with | [_, _, _, _], _ => rfl
  have F20 := fun_mk (st := sMet) l20 c20 k20
  have b20 := F20.binds (ps := ["home", "shape", "file"]) fun _ _ _ _ _ _ us hl => match us, hl with | [_, _, _], _ => rfl
  have F21 := fun_mk (st := sNum) l21 c21 k21
  have b21 := F21.binds (ps := ["_law_script", "_law_index"]) fun _ _ _ _ _ _ us hl => match us, hl with | [_, _], _ => rfl
  have F22 := fun_mk (st := sTake) l22 c22 k22
  have b22 := F22.binds (ps := ["_law_draw", "_law_many"]) fun _ _ _ _ _ _ us hl => match us, hl with | [_, _], _ => rfl
  have F23 := fun_mk (st := sPick) l23 c23 k23
  have b23 := F23.binds (ps := ["_law_draw", "_law_items"]) fun _ _ _ _ _ _ us hl => match us, hl with | [_, _], _ => rfl
  have F24 := fun_mk (st := sUnl) l24 c24 k24
  have b24 := F24.binds (ps := ["_law_items"]) fun _ _ _ _ _ _ us hl => match us, hl with | [_], _ => rfl
  have F25 := fun_mk (st := sLco) l25 c25 k25
  have b25 := F25.binds (ps := ["_law_shape"]) fun _ _ _ _ _ _ us hl => match us, hl with | [_], _ => rfl
  have F26 := fun_mk (st := sAny) l26 c26 k26
  have b26 := F26.binds (ps := ["_law_draw", "_law_shape"]) fun _ _ _ _ _ _ us hl => match us, hl with | [_, _], _ => rfl
  have F27 := fun_mk (st := sLir) l27 c27 k27
  have b27 := F27.binds (ps := ["_law_home", "_law_shape", "_law_file"]) fun _ _ _ _ _ _ us hl => match us, hl with | [_, _, _], _ => rfl
  have F28 := fun_mk (st := sLam) l28 c28 k28
  have b28 := F28.binds (ps := ["_law_home", "_law_shape", "_law_file"]) fun _ _ _ _ _ _ us hl => match us, hl with | [_, _, _], _ => rfl
  have F29 := fun_mk (st := sLan) l29 c29 k29
  have b29 := F29.binds (ps := ["_law_home", "_law_shape"]) fun _ _ _ _ _ _ us hl => match us, hl with | [_, _], _ => rfl
  have F30 := fun_mk (st := sLrf) l30 c30 k30
  have b30 := F30.binds (ps := ["_law_numbers", "_law_word"]) fun _ _ _ _ _ _ us hl => match us, hl with | [_, _], _ => rfl
  have F31 := fun_mk (st := sLaw) l31 c31 k31
  have b31 := F31.binds (ps := ["_law_script"]) fun _ _ _ _ _ _ us hl => match us, hl with | [_], _ => rfl
  have F32 := fun_mk (st := sShI) l32 c32 k32
  have b32 := F32.binds (ps := ["self", "dirs", "rows", "files", "blocks", "users"]) fun _ _ _ _ _ _ us hl => match us, hl with | [_, _, _, _, _, _], _ => rfl
  have F33 := fun_mk (st := sShEq) l33 c33 k33
  have b33 := F33.binds (ps := ["self", "other"]) fun _ _ _ _ _ _ us hl => match us, hl with | [_, _], _ => rfl
  have F34 := fun_mk (st := sTold) l34 c34 k34
  have b34 := F34.binds (ps := ["self"]) fun _ _ _ _ _ _ us hl => match us, hl with | [_], _ => rfl
  have F35 := fun_mk (st := sClk) l35 c35 k35
  have b35 := F35.binds (ps := ["self"]) fun _ _ _ _ _ _ us hl => match us, hl with | [_], _ => rfl
  have F36 := fun_mk (st := sDc) l36 c36 k36
  have b36 := F36.binds (ps := ["self", "number"]) fun _ _ _ _ _ _ us hl => match us, hl with | [_, _], _ => rfl
  have F37 := fun_mk (st := sRc) l37 c37 k37
  have b37 := F37.binds (ps := ["self", "number"]) fun _ _ _ _ _ _ us hl => match us, hl with | [_, _], _ => rfl
  have F38 := fun_mk (st := sUc) l38 c38 k38
  have b38 := F38.binds (ps := ["self", "user"]) fun _ _ _ _ _ _ us hl => match us, hl with | [_, _], _ => rfl
  have F39 := fun_mk (st := sFp) l39 c39 k39
  have b39 := F39.binds (ps := ["self", "file"]) fun _ _ _ _ _ _ us hl => match us, hl with | [_, _], _ => rfl
  have F40 := fun_mk (st := sBp) l40 c40 k40
  have b40 := F40.binds (ps := ["self", "block"]) fun _ _ _ _ _ _ us hl => match us, hl with | [_, _], _ => rfl
  have F0 : FunD K "is_whole" "is_whole" (defArgs sWhole) (defBody sWhole) (defScope sWhole) [.non, .non] [] f0 _ := ⟨⟨oc0, od0, .ref T0, kV0, dc0, pm0, an0, cd0, ct0, sl0, rfl, l0, c0, .inr ⟨by simp, T0, _, [.none, .none], nT, rfl, lT, rfl, .cons rfl (.cons rfl .nil)⟩, .inl rfl⟩, k0⟩
  obtain ⟨ds3, v3, bw3⟩ := F0.binds1 (ps := ["thing", "low", "high"]) 3 2 (by simp) rfl (fun _ _ _ _ _ _ _ us its h1 h2 => match us, its, h1, h2 with | [_, _, _], [_, _], _, _ => ⟨_, rfl, rfl⟩)
  cases v3
  refine ⟨PySem.W.fnOf "law" "law" (defArgs sLaw) (defBody sLaw) (defScope sLaw) .none kV31 dc31 pm31 an31 cd31 ct31, fun s v => .of_eq rfl, fun base _ _ => ?_⟩
  have GW := ok_whole (P := l.prog) (w := w) (mg := mg) (base := base) F0 b_isinstance b_int b_bool
  have GPl := ok_pl (P := l.prog) (w := w) (K := K) (mg := mg) (base := base) F1 m_WIDTH
  have GFp := ok_fp (P := l.prog) (w := w) (K := K) (mg := mg) (base := base) F39 TS
  have GBp := ok_bp (P := l.prog) (w := w) (K := K) (mg := mg) (base := base) F40 TS
  have GSI := ok_shI (dsW := []) (P := l.prog) (w := w) (K := K) (mg := mg) (base := base) F32 TS R b_zip GW k0 (PySem.W.mg_of X G a0) bw3 ⟨GPl, k1, (PySem.W.mg_of X G a1), b1⟩ m_FIRST_DIR_shape
  have GSX := ok_shX (C := CS) (P := l.prog) (w := w) (K := K) (mg := mg) (base := base) F32 R RX b_zip GW k0 (PySem.W.mg_of X G a0) bw3
  have GDc := ok_dcell (C := CS) (P := l.prog) (w := w) (K := K) (mg := mg) (base := base) F36 m_WIDTH m_FIRST_DIR_shape
  have GRc := ok_rcell (P := l.prog) (w := w) (K := K) (mg := mg) (base := base) F37 TS m_WIDTH
  have GUc := ok_ucell (P := l.prog) (w := w) (K := K) (mg := mg) (base := base) F38 TS m_WIDTH
  have GCk := ok_clk (P := l.prog) (w := w) (K := K) (mg := mg) (base := base) F35
  have GTo := ok_told (P := l.prog) (w := w) (K := K) (mg := mg) (base := base) F34 TS
  have IC := (⟨TS.cl, icl, isp, itk, io, if_pos (beq_self_eq_true _)⟩ : C8.InsC K CS)
  have GSE := ok_shEq (P := l.prog) (w := w) (K := K) (mg := mg) (base := base) F33 TS IC (PySem.W.mg_of X G aS) b_isinstance ⟨GTo, ⟨a34, i34, k34⟩, b34⟩
  have NQ := (⟨io, ine, a33, i33⟩ : NeC K CS f33)
  have GBo := ok_bo (P := l.prog) (w := w) (K := K) (mg := mg) (base := base) F11 TS
  have GFc := ok_fc (P := l.prog) (w := w) (K := K) (mg := mg) (base := base) F8 TS ⟨GFp, ⟨a39, i39, k39⟩, b39⟩
  have GSz := ok_sz (P := l.prog) (w := w) (K := K) (mg := mg) (base := base) F9 ⟨GFc, k8, (PySem.W.mg_of X G a8), b8⟩ kc b_max b_min
  have GSp := ok_spot (P := l.prog) (w := w) (K := K) (mg := mg) (base := base) F12 kc
  have GBa := ok_ba (P := l.prog) (w := w) (K := K) (mg := mg) (base := base) F13 TS ⟨GFp, ⟨a39, i39, k39⟩, b39⟩ ⟨GBp, ⟨a40, i40, k40⟩, b40⟩ ⟨GBo, k11, (PySem.W.mg_of X G a11), b11⟩
  have GDb := ok_db (P := l.prog) (w := w) (K := K) (mg := mg) (base := base) F14 kc ⟨GSp, k12, (PySem.W.mg_of X G a12), b12⟩ ⟨GBa, k13, (PySem.W.mg_of X G a13), b13⟩
  have GPt := ok_part (P := l.prog) (w := w) (K := K) (mg := mg) (base := base) F15 TS kc ⟨GBp, ⟨a40, i40, k40⟩, b40⟩ ⟨GDb, k14, (PySem.W.mg_of X G a14), b14⟩
  have GNs := ok_nums (P := l.prog) (w := w) (K := K) (mg := mg) (base := base) F16 kc ⟨GPl, k1, (PySem.W.mg_of X G a1), b1⟩ ⟨GPt, k15, (PySem.W.mg_of X G a15), b15⟩ b_range b_tuple b_max
  have GCt := ok_cont (P := l.prog) (w := w) (K := K) (mg := mg) (base := base) F17 ⟨GNs, k16, (PySem.W.mg_of X G a16), b16⟩ ⟨GSz, k9, (PySem.W.mg_of X G a9), b9⟩
  have GMb := ok_mb (P := l.prog) (w := w) (K := K) (mg := mg) (base := base) F19 TS (PySem.W.mg_of X G a19) k19 b19 ⟨GBo, k11, (PySem.W.mg_of X G a11), b11⟩ ⟨GBp, ⟨a40, i40, k40⟩, b40⟩
  have GMA := ok_mbA GMb
  have GPa := ok_pa (P := l.prog) (w := w) (K := K) (mg := mg) (base := base) F18 TS ⟨GFp, ⟨a39, i39, k39⟩, b39⟩ m_FIRST_POINTER (PySem.W.mg_of X G aLv) hL b_list b_zip
  have GMt := ok_met (P := l.prog) (w := w) (K := K) (mg := mg) (base := base) F20 ⟨GPa, k18, (PySem.W.mg_of X G a18), b18⟩ ⟨GMA, k19, (PySem.W.mg_of X G a19), b19⟩
  have GCa := ok_ca (C := CS) (P := l.prog) (w := w) (K := K) (mg := mg) (base := base) F2
  have GDa := ok_dirAt (P := l.prog) (w := w) (K := K) (mg := mg) (base := base) F3 TS ⟨GCa, k2, (PySem.W.mg_of X G a2), b2⟩ ⟨GDc, ⟨a36, i36, k36⟩, b36⟩ m_FIRST_DIR_readings m_NAMES
  have GRa := ok_rowAt (P := l.prog) (w := w) (K := K) (mg := mg) (base := base) F4 TS ⟨GCa, k2, (PySem.W.mg_of X G a2), b2⟩ ⟨GRc, ⟨a37, i37, k37⟩, b37⟩ m_NAMES
  have GId := ok_isD (P := l.prog) (w := w) (K := K) (mg := mg) (base := base) F5 ⟨GDa, k3, (PySem.W.mg_of X G a3), b3⟩ m_ROOT m_FOUND
  have GRo := ok_rowsOf (P := l.prog) (w := w) (K := K) (mg := mg) (base := base) F6 TS ⟨GRa, k4, (PySem.W.mg_of X G a4), b4⟩ b_range
  have GNf := ok_named (P := l.prog) (w := w) (K := K) (mg := mg) (base := base) F7 TS ⟨GRo, k6, (PySem.W.mg_of X G a6), b6⟩ b_range
  have GOw := ok_owner (P := l.prog) (w := w) (K := K) (mg := mg) (base := base) F10 TS ⟨GFc, k8, (PySem.W.mg_of X G a8), b8⟩ m_OWNER_PLACE
  have GNu := ok_num (P := l.prog) (w := w) (K := K) (mg := mg) (base := base) F21 b_int b_len b_abs
  have GT := ok_take (base := base) F22 GNu k21 (PySem.W.mg_of X G a21) b21 b_int
  have GP := ok_pick (base := base) F23 GT k22 (PySem.W.mg_of X G a22) b22 b_len
  have GUn := ok_unl (P := l.prog) (w := w) (K := K) (mg := mg) (base := base) F24 b_sorted
  have GLc := ok_cells2 (P := l.prog) (w := w) (K := K) (mg := mg) (base := base) F25 TS ⟨GDc, ⟨a36, i36, k36⟩, b36⟩ ⟨GRc, ⟨a37, i37, k37⟩, b37⟩ ⟨GUc, ⟨a38, i38, k38⟩, b38⟩ ⟨GCk, ⟨a35, i35, k35⟩, b35⟩ ⟨GFp, ⟨a39, i39, k39⟩, b39⟩ ⟨GBp, ⟨a40, i40, k40⟩, b40⟩ b_range
  have GAn := ok_any (P := l.prog) (w := w) (K := K) (mg := mg) (base := base) F26 TS ⟨GP, k23, (PySem.W.mg_of X G a23), b23⟩ m_NAMES m_WIDTH b_range b_tuple
  have GLr := ok_lr (P := l.prog) (w := w) (K := K) (mg := mg) (base := base) F27 TS ⟨GFp, ⟨a39, i39, k39⟩, b39⟩ ⟨GSp, k12, (PySem.W.mg_of X G a12), b12⟩ ⟨GBp, ⟨a40, i40, k40⟩, b40⟩ ⟨GDb, k14, (PySem.W.mg_of X G a14), b14⟩ ⟨GSz, k9, (PySem.W.mg_of X G a9), b9⟩ ⟨GCt, k17, (PySem.W.mg_of X G a17), b17⟩ ⟨GNs, k16, (PySem.W.mg_of X G a16), b16⟩ ⟨GOw, k10, (PySem.W.mg_of X G a10), b10⟩ kc b_list b_tuple b_range b_max b_min
  have GLm := ok_lm (P := l.prog) (w := w) (K := K) (mg := mg) (base := base) F28 TS ⟨GPa, k18, (PySem.W.mg_of X G a18), b18⟩ ⟨GMA, k19, (PySem.W.mg_of X G a19), b19⟩ ⟨GBo, k11, (PySem.W.mg_of X G a11), b11⟩ ⟨GBp, ⟨a40, i40, k40⟩, b40⟩ ⟨GMt, k20, (PySem.W.mg_of X G a20), b20⟩ b_len b_sum
  have GLn := ok_ln (P := l.prog) (w := w) (K := K) (mg := mg) (base := base) F29 TS ⟨GDc, ⟨a36, i36, k36⟩, b36⟩ ⟨GDa, k3, (PySem.W.mg_of X G a3), b3⟩ ⟨GId, k5, (PySem.W.mg_of X G a5), b5⟩ ⟨GRa, k4, (PySem.W.mg_of X G a4), b4⟩ ⟨GRc, ⟨a37, i37, k37⟩, b37⟩ ⟨GNf, k7, (PySem.W.mg_of X G a7), b7⟩ m_NAMES b_range b_sorted
  have GRf := ok_rf (P := l.prog) (w := w) (K := K) (mg := mg) (base := base) F30 RX XF exm ⟨mkCS, a32, i32, kcCS⟩ GSX (PySem.W.mg_of X G aS) b32
  exact ok_law F31 TS ⟨mkCS, a32, i32, kcCS⟩ GSI (PySem.W.mg_of X G aS) b32 ⟨GT, k22, (PySem.W.mg_of X G a22), b22⟩ ⟨GP, k23, (PySem.W.mg_of X G a23), b23⟩ ⟨GLc, k25, (PySem.W.mg_of X G a25), b25⟩ ⟨GUn, k24, (PySem.W.mg_of X G a24), b24⟩ ⟨GSp, k12, (PySem.W.mg_of X G a12), b12⟩ ⟨GTo, ⟨a34, i34, k34⟩, b34⟩ GSE NQ b33 m_MOST_BLOCKS ⟨GRf, k30, (PySem.W.mg_of X G a30), b30⟩ ⟨GAn, k26, (PySem.W.mg_of X G a26), b26⟩ ⟨GLn, k29, (PySem.W.mg_of X G a29), b29⟩ ⟨GLr, k27, (PySem.W.mg_of X G a27), b27⟩ ⟨GLm, k28, (PySem.W.mg_of X G a28), b28⟩ b_sorted b_len b_list b_range b_all
theorem walk {l : PySem.W.OpenLaw} {q : Program} {loose : List Str} {XP : (Str → Option Value) → Heap → Prop} {YP : World → Heap → Prop} {d : DefRec} {K : Params → PySem.W.Frag} (hn : l.most = some 63) (hdf : d.params.defaults = [])
    (hY : ∀ (w : World) (h : Heap), YP w h → (K w.params).In h)
    (F : ∀ (w : World) (mg : Str → Option Value) (fa : Addr) (h : Heap), (K w.params).In h → h.Ns mainGlobals mg → mg d.name = some (.ref fa) →
      ∃ fd : FuncData, (∀ (s : Shared) (u : Value), BindsTo s fd ⟨[u], []⟩ [("_law_script", u)]) ∧ ∀ base : Heap, (K w.params).In base → base.Ns mainGlobals mg → FnOk l.prog w (K w.params) mg base CX0 9 fa fd ["_law_script"] (spLaw (K w.params))) :
    PySem.W.WalkO q loose XP YP l.row.toRowW d [] (fun f vs => PySem.call f vs) :=
  L2.walk_of (n := 63) (k := 9) (x := "_law_script") (CX := fun _ => CX0) (sp := fun w => spLaw (K w.params)) hn (by decide) hdf ⟨rfl, by decide, by decide⟩ hY F (fun _ _ a ns hl _ hS => ⟨a, ns, rfl, hS, hl, fun _ => rfl⟩) fun _ _ _ _ _ z => z
end Pf

set_option Elab.async false
open PySem PySem.W PyProof.Rows
set_option maxRecDepth 100000 in
set_option maxHeartbeats 0 in
theorem PySem.Challenge.cw_plugproof_k70_whole_readings_holds : PySem.Challenge.rw_plugproof_k70_whole_readings.Holds := by
  w_on; o_law; k_head; (case hw => w_witness2)
  k_fill
  refine Pf.walk (l := PySem.Challenge.rw_plugproof_k70_whole_readings) rfl rfl (fun w h Y => PySem.W.kIn_of Y) ?F
  case F =>
    intro w mg fa h KX G hmg
    refine' Pf.all_mk KX G hmg ?aS ?a0 ?l0 ?lT ?c0 ?k0 ?aRg ?lRg ?lr0 ?lr1 ?lr2 ?lr3 ?lr4 ?aLv ?lLv ?a1 ?l1 ?c1 ?k1 ?a2 ?l2 ?c2 ?k2 ?a3 ?l3 ?c3 ?k3 ?a4 ?l4 ?c4 ?k4 ?a5 ?l5 ?c5 ?k5 ?a6 ?l6 ?c6 ?k6 ?a7 ?l7 ?c7 ?k7 ?a8 ?l8 ?c8 ?k8 ?a9 ?l9 ?c9 ?k9 ?a10 ?l10 ?c10 ?k10 ?a11 ?l11 ?c11 ?k11 ?a12 ?l12 ?c12 ?k12 ?a13 ?l13 ?c13 ?k13 ?a14 ?l14 ?c14 ?k14 ?a15 ?l15 ?c15 ?k15 ?a16 ?l16 ?c16 ?k16 ?a17 ?l17 ?c17 ?k17 ?a18 ?l18 ?c18 ?k18 ?a19 ?l19 ?c19 ?k19 ?a20 ?l20 ?c20 ?k20 ?a21 ?l21 ?c21 ?k21 ?a22 ?l22 ?c22 ?k22 ?a23 ?l23 ?c23 ?k23 ?a24 ?l24 ?c24 ?k24 ?a25 ?l25 ?c25 ?k25 ?a26 ?l26 ?c26 ?k26 ?a27 ?l27 ?c27 ?k27 ?a28 ?l28 ?c28 ?k28 ?a29 ?l29 ?c29 ?k29 ?a30 ?l30 ?c30 ?k30 ?a31 ?l31 ?c31 ?k31 ?a32 ?i32 ?l32 ?c32 ?k32 ?a33 ?i33 ?l33 ?c33 ?k33 ?a34 ?i34 ?l34 ?c34 ?k34 ?a35 ?i35 ?l35 ?c35 ?k35 ?a36 ?i36 ?l36 ?c36 ?k36 ?a37 ?i37 ?l37 ?c37 ?k37 ?a38 ?i38 ?l38 ?c38 ?k38 ?a39 ?i39 ?l39 ?c39 ?k39 ?a40 ?i40 ?l40 ?c40 ?k40 ?pgCS ?hdCS ?poCS ?saCS ?mkCS ?kcCS ?m_dirs ?m_rows ?m_files ?m_blocks ?m_users ?m_first_row ?m_first_user ?m_first_file ?m_first_block ?m_plates ?v_WIDTH ?v_NAMES ?v_MOST_BLOCKS ?v_MOST_SIZE ?v_ROOT ?v_FOUND ?v_FIRST_DIR_shape ?v_FIRST_DIR_readings ?v_SIZE_PLACE ?v_OWNER_PLACE ?v_FIRST_POINTER ?v_FIRST_BY_ONE ?v_FIRST_BY_TWO ?z_isinstance ?z_int ?z_bool ?z_tuple ?z_len ?z_range ?z_list ?z_abs ?z_zip ?z_max ?z_min ?z_sum ?z_sorted ?z_all ?aR0 ?xR ?saR ?gaR ?ggR ?nwR ?iR ?tR ?lR ?cR ?kR ?eR ?tcR ?hR ?sR ?io ?ine ?icl ?isp ?itk
    (case aS => k_is)
    (case a0 => k_is)
    (case l0 => k_is)
    (case lT => k_is)
    (case c0 => k_is)
    (case k0 => k_is)
    (case aRg => k_is)
    (case lRg => k_is)
    (case lr0 => k_is)
    (case lr1 => k_is)
    (case lr2 => k_is)
    (case lr3 => k_is)
    (case lr4 => k_is)
    (case aLv => k_is)
    (case lLv => k_is)
    (case a1 => k_is)
    (case l1 => k_is)
    (case c1 => k_is)
    (case k1 => k_is)
    (case a2 => k_is)
    (case l2 => k_is)
    (case c2 => k_is)
    (case k2 => k_is)
    (case a3 => k_is)
    (case l3 => k_is)
    (case c3 => k_is)
    (case k3 => k_is)
    (case a4 => k_is)
    (case l4 => k_is)
    (case c4 => k_is)
    (case k4 => k_is)
    (case a5 => k_is)
    (case l5 => k_is)
    (case c5 => k_is)
    (case k5 => k_is)
    (case a6 => k_is)
    (case l6 => k_is)
    (case c6 => k_is)
    (case k6 => k_is)
    (case a7 => k_is)
    (case l7 => k_is)
    (case c7 => k_is)
    (case k7 => k_is)
    (case a8 => k_is)
    (case l8 => k_is)
    (case c8 => k_is)
    (case k8 => k_is)
    (case a9 => k_is)
    (case l9 => k_is)
    (case c9 => k_is)
    (case k9 => k_is)
    (case a10 => k_is)
    (case l10 => k_is)
    (case c10 => k_is)
    (case k10 => k_is)
    (case a11 => k_is)
    (case l11 => k_is)
    (case c11 => k_is)
    (case k11 => k_is)
    (case a12 => k_is)
    (case l12 => k_is)
    (case c12 => k_is)
    (case k12 => k_is)
    (case a13 => k_is)
    (case l13 => k_is)
    (case c13 => k_is)
    (case k13 => k_is)
    (case a14 => k_is)
    (case l14 => k_is)
    (case c14 => k_is)
    (case k14 => k_is)
    (case a15 => k_is)
    (case l15 => k_is)
    (case c15 => k_is)
    (case k15 => k_is)
    (case a16 => k_is)
    (case l16 => k_is)
    (case c16 => k_is)
    (case k16 => k_is)
    (case a17 => k_is)
    (case l17 => k_is)
    (case c17 => k_is)
    (case k17 => k_is)
    (case a18 => k_is)
    (case l18 => k_is)
    (case c18 => k_is)
    (case k18 => k_is)
    (case a19 => k_is)
    (case l19 => k_is)
    (case c19 => k_is)
    (case k19 => k_is)
    (case a20 => k_is)
    (case l20 => k_is)
    (case c20 => k_is)
    (case k20 => k_is)
    (case a21 => k_is)
    (case l21 => k_is)
    (case c21 => k_is)
    (case k21 => k_is)
    (case a22 => k_is)
    (case l22 => k_is)
    (case c22 => k_is)
    (case k22 => k_is)
    (case a23 => k_is)
    (case l23 => k_is)
    (case c23 => k_is)
    (case k23 => k_is)
    (case a24 => k_is)
    (case l24 => k_is)
    (case c24 => k_is)
    (case k24 => k_is)
    (case a25 => k_is)
    (case l25 => k_is)
    (case c25 => k_is)
    (case k25 => k_is)
    (case a26 => k_is)
    (case l26 => k_is)
    (case c26 => k_is)
    (case k26 => k_is)
    (case a27 => k_is)
    (case l27 => k_is)
    (case c27 => k_is)
    (case k27 => k_is)
    (case a28 => k_is)
    (case l28 => k_is)
    (case c28 => k_is)
    (case k28 => k_is)
    (case a29 => k_is)
    (case l29 => k_is)
    (case c29 => k_is)
    (case k29 => k_is)
    (case a30 => k_is)
    (case l30 => k_is)
    (case c30 => k_is)
    (case k30 => k_is)
    (case a31 => k_is)
    (case l31 => k_is)
    (case c31 => k_is)
    (case k31 => k_is)
    (case a32 => k_is)
    (case i32 => k_is)
    (case l32 => k_is)
    (case c32 => k_is)
    (case k32 => k_is)
    (case a33 => k_is)
    (case i33 => k_is)
    (case l33 => k_is)
    (case c33 => k_is)
    (case k33 => k_is)
    (case a34 => k_is)
    (case i34 => k_is)
    (case l34 => k_is)
    (case c34 => k_is)
    (case k34 => k_is)
    (case a35 => k_is)
    (case i35 => k_is)
    (case l35 => k_is)
    (case c35 => k_is)
    (case k35 => k_is)
    (case a36 => k_is)
    (case i36 => k_is)
    (case l36 => k_is)
    (case c36 => k_is)
    (case k36 => k_is)
    (case a37 => k_is)
    (case i37 => k_is)
    (case l37 => k_is)
    (case c37 => k_is)
    (case k37 => k_is)
    (case a38 => k_is)
    (case i38 => k_is)
    (case l38 => k_is)
    (case c38 => k_is)
    (case k38 => k_is)
    (case a39 => k_is)
    (case i39 => k_is)
    (case l39 => k_is)
    (case c39 => k_is)
    (case k39 => k_is)
    (case a40 => k_is)
    (case i40 => k_is)
    (case l40 => k_is)
    (case c40 => k_is)
    (case k40 => k_is)
    (case pgCS => k_is)
    (case hdCS => k_is)
    (case poCS => k_is)
    (case saCS => k_is)
    (case mkCS => k_is)
    (case kcCS => k_is)
    (case m_dirs => k_is)
    (case m_rows => k_is)
    (case m_files => k_is)
    (case m_blocks => k_is)
    (case m_users => k_is)
    (case m_first_row => k_is)
    (case m_first_user => k_is)
    (case m_first_file => k_is)
    (case m_first_block => k_is)
    (case m_plates => k_is)
    (case v_WIDTH => k_is)
    (case v_NAMES => k_is)
    (case v_MOST_BLOCKS => k_is)
    (case v_MOST_SIZE => k_is)
    (case v_ROOT => k_is)
    (case v_FOUND => k_is)
    (case v_FIRST_DIR_shape => k_is)
    (case v_FIRST_DIR_readings => k_is)
    (case v_SIZE_PLACE => k_is)
    (case v_OWNER_PLACE => k_is)
    (case v_FIRST_POINTER => k_is)
    (case v_FIRST_BY_ONE => k_is)
    (case v_FIRST_BY_TWO => k_is)
    (case z_isinstance => k_is)
    (case z_int => k_is)
    (case z_bool => k_is)
    (case z_tuple => k_is)
    (case z_len => k_is)
    (case z_range => k_is)
    (case z_list => k_is)
    (case z_abs => k_is)
    (case z_zip => k_is)
    (case z_max => k_is)
    (case z_min => k_is)
    (case z_sum => k_is)
    (case z_sorted => k_is)
    (case z_all => k_is)
    (case aR0 => k_is)
    (case xR => k_is)
    (case saR => k_is)
    (case gaR => k_is)
    (case ggR => k_is)
    (case nwR => k_is)
    (case iR => k_is)
    (case tR => k_is)
    (case lR => k_is)
    (case cR => k_is)
    (case kR => k_is)
    (case eR => k_is)
    (case tcR => k_is)
    (case hR => k_is)
    (case sR => first | rfl | k_is)
    (case io => k_is)
    (case ine => k_is)
    (case icl => k_is)
    (case isp => k_is)
    (case itk => k_is)
