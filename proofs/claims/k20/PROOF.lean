import PyProof.Rows.All
import Wide.All
import OpenK.AllK
import Wide.FinOn
import HandS.ForMost
import PySem.Challenge.RW_plugproof_k20_whole_faults
import HandS.Zip
import HandS.ListItems
import KE.KItemsList
import HandS.IsInst
import HandS.Defaults
import HandS.TupAny
import HandS.TupMul
import HandS.Style
import HandS.Conv
import HandS.Walk
import HandS.More
import HandS.Small
import HandS.Dict
import HandS.DictComp
import HandS.SortInts
import HandS.SetFor
import KE.KEqDict
import HandS.SetKeys
import HandS.Strs
import HandS.Deep
import KE.SortData
import KE.KDictPairs
import KE.KDictKeyed
set_option Elab.async false
namespace Pf
open PySem PySem.Spec PyProof.Rows L2
def topS (i : Nat) : Stmt := PySem.Challenge.pw_plugproof_k20_whole_faults.main.body.getD i (.Pass ⟨0, 0, 0, 0⟩)
abbrev sBsI : Stmt := inClass (topS 3) 0
abbrev sWhole : Stmt := topS 11
abbrev sPl : Stmt := topS 12
abbrev sShI : Stmt := inClass (topS 13) 0
abbrev sShEq : Stmt := inClass (topS 13) 1
abbrev sTold : Stmt := inClass (topS 13) 2
abbrev sClk : Stmt := inClass (topS 13) 3
abbrev sDc : Stmt := inClass (topS 13) 4
abbrev sRc : Stmt := inClass (topS 13) 5
abbrev sUc : Stmt := inClass (topS 13) 6
abbrev sFp : Stmt := inClass (topS 13) 7
abbrev sBp : Stmt := inClass (topS 13) 8
abbrev sEh : Stmt := inClass (topS 13) 9
abbrev sCa : Stmt := topS 16
abbrev sDa : Stmt := topS 17
abbrev sRa : Stmt := topS 18
abbrev sIsD : Stmt := topS 19
abbrev sDso : Stmt := topS 20
abbrev sAu : Stmt := topS 24
abbrev sPo : Stmt := topS 25
abbrev sUbu : Stmt := topS 26
abbrev sWu : Stmt := topS 27
abbrev sGo : Stmt := topS 28
abbrev sRio : Stmt := topS 29
abbrev sFbe : Stmt := topS 30
abbrev sFau : Stmt := topS 31
abbrev sIr : Stmt := topS 32
abbrev sNum : Stmt := topS 34
abbrev sTake : Stmt := topS 35
abbrev sPick : Stmt := topS 36
abbrev sLsh : Stmt := topS 37
abbrev sLun : Stmt := topS 38
abbrev sLce : Stmt := topS 39
abbrev sLwi : Stmt := topS 40
abbrev sLpla : Stmt := topS 41
abbrev sLno : Stmt := topS 42
abbrev sLh : Stmt := topS 43
abbrev sLfa : Stmt := topS 44
abbrev sLaw : Stmt := topS 45
end Pf

set_option Elab.async false
set_option linter.all false
set_option maxRecDepth 100000
set_option maxHeartbeats 4000000
/-! list(zip(t, u)) of two tuples: what the hand layer has no rule for -/
namespace LZ
open PySem PySem.Spec PyProof.Rows L2 RZ

/-- a zip whose last pair is held by somebody -/
abbrev IsZO (h : Heap) (z TI TO a : Addr) (f : Bool) : Prop :=
  h.get? z = some { cls := .type "zip", dict := none, data := .fields #[rawInt a, .bool f, .bool false, .ref TI, .ref TO], slots := #[] }
section
variable {prog : Program} {w : World} {A : Around} {E : Value → Shared → Prop} {s : Shared}
theorem notFree {z TI TO a : Addr} {f : Bool} {oa : Obj} {Q : Bool → Shared → Prop} (hz : IsZO s.heap z TI TO a f) (ha : s.heap.get? a = some oa)
    (hQ : ∀ h', IsZO h' z TI TO a true → Heap.SameBut z s.heap h' → Q false { s with heap := h' }) : wpAny (model prog w) A (Builtin.SmallTypes.ownedTupleIsFree (.ref z)) Q E s := by
  unfold Builtin.SmallTypes.ownedTupleIsFree
  refine wpAny_bind (wpAny_field hz rfl (x := rawInt a) rfl ?_)
  show wpAny _ _ (loadIfAlive ((a : Int).toNat) >>= _) _ _ _
  rw [Int.toNat_natCast]
  refine wpAny_bind (PySem.W.kdx_alive ha ?_)
  simp only [Option.isNone_some, Bool.false_eq_true, if_false]
  refine wpAny_bind (wpAny_field hz rfl (x := .bool f) rfl ?_)
  cases f with
  | true =>
    rw [if_neg (show ¬ ((Value.bool true != Value.bool true) = true) from Bool.false_ne_true)]
    exact wpAny_pure (hQ _ hz (Heap.SameBut.refl _ _))
  | false =>
    rw [if_pos (show (Value.bool false != Value.bool true) = true from rfl)]
    refine wpAny_bind (wpAny_setField_rec hz (by simp) fun h₃ he₃ hs₃ => ?_)
    exact wpAny_pure (hQ h₃ he₃ hs₃)
theorem zipO_next_item {z TI TO a i1 i2 l1 l2 : Addr} {f : Bool} {oa : Obj} {k1 k2 : Nat} {xs ys : Array Value} {x y : Value} {Q : Value → Shared → Prop} (D : ZipApart z TI TO i1 i2 l1 l2)
    (hz : IsZO s.heap z TI TO a f) (ha : s.heap.get? a = some oa) (hTI : IsPair s.heap TI (.ref i1) (.ref i2))
    (h1 : s.heap.IsTupleIter i1 l1 k1) (h2 : s.heap.IsTupleIter i2 l2 k2) (hl1 : s.heap.IsTuple l1 xs) (hl2 : s.heap.IsTuple l2 ys) (hx : xs[k1]? = some x) (hy : ys[k2]? = some y)
    (hQ : ∀ h', IsZO h' z TI TO a true → h'.IsTupleIter i1 l1 (k1 + 1) → h'.IsTupleIter i2 l2 (k2 + 1) → IsPair h' s.heap.objs.size x y → h'.objs.size = s.heap.objs.size + 1 →
      (∀ c o, c ≠ z → c ≠ i1 → c ≠ i2 → s.heap.get? c = some o → h'.get? c = some o) → Q (.ref s.heap.objs.size) { s with heap := h' }) :
    wpAny (model prog w) A (Builtin.«zip.__next__» ⟨[.ref z], []⟩) (fun fin s' => ∃ v, fin = .done (.ret v) ∧ Q v s') E s := by
  show wpAny _ _ (field (.ref z) 2 >>= _) _ _ _
  refine wpAny_bind (wpAny_field hz rfl (x := .bool false) rfl ?_)
  show wpAny _ _ (field (.ref z) 3 >>= _) _ _ _
  refine wpAny_bind (wpAny_field hz rfl (x := .ref TI) rfl ?_)
  refine wpAny_bind (wpAny_seqItems hTI rfl ?_)
  show wpAny _ _ (Builtin.SmallTypes.ownedTupleIsFree (.ref z) >>= _) _ _ _
  refine wpAny_bind (notFree hz ha fun h₁ hz₁ hs₁ => ?_)
  simp only [Bool.false_eq_true, if_false]
  refine wpAny_bind ?_
  rw [← Array.forIn_toList]
  simp only [List.forIn_cons, List.forIn_nil]
  refine wpAny_bind (wpAny_bind (wpAny_holding ?_))
  show wpAny _ _ (Builtin.SmallTypes.nextOf (.ref i1) >>= _) _ _ _
  refine wpAny_bind (nextOf_tuple_item (h1.extBut hs₁.extBut D.i1z) (hl1.extBut hs₁.extBut D.l1z) hx fun h₂ h1₂ hs₂ => wpAny_pure ?_)
  refine wpAny_pure ?_
  refine wpAny_bind (wpAny_bind (wpAny_holding ?_))
  show wpAny _ _ (Builtin.SmallTypes.nextOf (.ref i2) >>= _) _ _ _
  refine wpAny_bind (nextOf_tuple_item ((h2.extBut hs₁.extBut D.i2z).extBut hs₂.extBut D.i12.symm)
    ((hl2.extBut hs₁.extBut D.l2z).extBut hs₂.extBut D.l2i1) hy fun h₄ h2₄ hs₄ => wpAny_pure ?_)
  refine wpAny_pure (wpAny_pure ?_)
  refine wpAny_bind (wpAny_newTuple ?_ (by show 2 ≤ sizeLine; decide))
  have hsz : h₄.objs.size = s.heap.objs.size := by rw [hs₄.1, hs₂.1, hs₁.1]
  have hz₄ : IsZO h₄ z TI TO a true := hs₄.extBut _ _ D.i2z.symm (hs₂.extBut _ _ D.i1z.symm hz₁)
  have hk₄ : ∀ c o, c ≠ z → c ≠ i1 → c ≠ i2 → s.heap.get? c = some o → h₄.get? c = some o := fun c o c1 c3 c4 e =>
    hs₄.extBut _ _ c4 (hs₂.extBut _ _ c3 (hs₁.extBut _ _ c1 e))
  refine wpAny_pure ⟨_, rfl, ?_⟩
  show Q (.ref h₄.objs.size) _
  rw [hsz]
  exact hQ _ (Heap.get?_push_of_some _ hz₄) ((h1₂.extBut hs₄.extBut D.i12).at fun o e => Heap.get?_push_of_some _ e) (h2₄.at fun o e => Heap.get?_push_of_some _ e)
    (by rw [← hsz]; exact Heap.get?_push_size _ rfl) (by rw [Heap.size_push, hsz]) fun c o c1 c3 c4 e => Heap.get?_push_of_some _ (hk₄ c o c1 c3 c4 e)
theorem zipO_next_end {z TI TO a i1 i2 l1 l2 : Addr} {f : Bool} {oa : Obj} {k1 k2 : Nat} {xs ys : Array Value} {Q : Fin → Shared → Prop} (hh : A.handled = none) (D : ZipApart z TI TO i1 i2 l1 l2)
    (hz : IsZO s.heap z TI TO a f) (ha : s.heap.get? a = some oa) (hTI : IsPair s.heap TI (.ref i1) (.ref i2))
    (h1 : s.heap.IsTupleIter i1 l1 k1) (h2 : s.heap.IsTupleIter i2 l2 k2) (hl1 : s.heap.IsTuple l1 xs) (hl2 : s.heap.IsTuple l2 ys) (hend : xs[k1]? = none)
    (hE : ∀ h' e, (∀ c o, c ≠ z → c ≠ i1 → c ≠ i2 → s.heap.get? c = some o → h'.get? c = some o) → (∃ o, h'.get? e = some o ∧ o.cls = .type "StopIteration") → E (.ref e) { s with heap := h' }) :
    wpAny (model prog w) A (Builtin.«zip.__next__» ⟨[.ref z], []⟩) Q E s := by
  show wpAny _ _ (field (.ref z) 2 >>= _) _ _ _
  refine wpAny_bind (wpAny_field hz rfl (x := .bool false) rfl ?_)
  show wpAny _ _ (field (.ref z) 3 >>= _) _ _ _
  refine wpAny_bind (wpAny_field hz rfl (x := .ref TI) rfl ?_)
  refine wpAny_bind (wpAny_seqItems hTI rfl ?_)
  show wpAny _ _ (Builtin.SmallTypes.ownedTupleIsFree (.ref z) >>= _) _ _ _
  refine wpAny_bind (notFree hz ha fun h₁ hz₁ hs₁ => ?_)
  simp only [Bool.false_eq_true, if_false]
  refine wpAny_bind ?_
  rw [← Array.forIn_toList]
  simp only [List.forIn_cons, List.forIn_nil]
  refine wpAny_bind (wpAny_bind (wpAny_holding ?_))
  show wpAny _ _ (Builtin.SmallTypes.nextOf (.ref i1) >>= _) _ _ _
  refine wpAny_bind (nextOf_tuple_end hh (h1.extBut hs₁.extBut D.i1z) (hl1.extBut hs₁.extBut D.l1z) hend fun h₂ e hs₂ he => ?_)
  exact hE h₂ e (fun c o c1 c3 _ x => hs₂ _ _ c3 (hs₁.extBut _ _ c1 x)) he
theorem pyNext_zipO_item {z TI TO a i1 i2 l1 l2 : Addr} {f : Bool} {oa : Obj} {k1 k2 : Nat} {xs ys : Array Value} {x y : Value} {Q : Option Value → Shared → Prop} (D : ZipApart z TI TO i1 i2 l1 l2)
    (hz : IsZO s.heap z TI TO a f) (ha : s.heap.get? a = some oa) (hTI : IsPair s.heap TI (.ref i1) (.ref i2))
    (h1 : s.heap.IsTupleIter i1 l1 k1) (h2 : s.heap.IsTupleIter i2 l2 k2) (hl1 : s.heap.IsTuple l1 xs) (hl2 : s.heap.IsTuple l2 ys) (hx : xs[k1]? = some x) (hy : ys[k2]? = some y)
    (hQ : ∀ h', IsZO h' z TI TO a true → h'.IsTupleIter i1 l1 (k1 + 1) → h'.IsTupleIter i2 l2 (k2 + 1) → IsPair h' s.heap.objs.size x y → h'.objs.size = s.heap.objs.size + 1 →
      (∀ c o, c ≠ z → c ≠ i1 → c ≠ i2 → s.heap.get? c = some o → h'.get? c = some o) → Q (some (.ref s.heap.objs.size)) { s with heap := h' }) :
    wpAny (model prog w) A (pyNext (.ref z)) Q E s := by
  have hT : s.TypeIs (.ref z) "zip" := ⟨_, hz, rfl⟩
  unfold pyNext
  exact wpAny_bind (wpAny_attempt (wpAny_callSpecial?_slot (name := Str.ofString "__next__") hT F.slot_zip_next
    (wpAny_call_entry F.slot_zip_next hT F.entry_zip_next
      (zipO_next_item D hz ha hTI h1 h2 hl1 hl2 hx hy fun h' a1 a3 a4 a5 a6 a7 => wpAny_pure (hQ h' a1 a3 a4 a5 a6 a7)) (F.args_zip_next_1 _))))
theorem pyNext_zipO_end {z TI TO a i1 i2 l1 l2 : Addr} {f : Bool} {oa : Obj} {k1 k2 : Nat} {xs ys : Array Value} {Q : Option Value → Shared → Prop} (hh : A.handled = none) (D : ZipApart z TI TO i1 i2 l1 l2)
    (hz : IsZO s.heap z TI TO a f) (ha : s.heap.get? a = some oa) (hTI : IsPair s.heap TI (.ref i1) (.ref i2))
    (h1 : s.heap.IsTupleIter i1 l1 k1) (h2 : s.heap.IsTupleIter i2 l2 k2) (hl1 : s.heap.IsTuple l1 xs) (hl2 : s.heap.IsTuple l2 ys) (hend : xs[k1]? = none)
    (hQ : ∀ h', (∀ c o, c ≠ z → c ≠ i1 → c ≠ i2 → s.heap.get? c = some o → h'.get? c = some o) → Q none { s with heap := h' }) : wpAny (model prog w) A (pyNext (.ref z)) Q E s := by
  have hT : s.TypeIs (.ref z) "zip" := ⟨_, hz, rfl⟩
  unfold pyNext
  refine wpAny_bind (wpAny_attempt (wpAny_callSpecial?_slot (name := Str.ofString "__next__") hT F.slot_zip_next
    (wpAny_call_entry F.slot_zip_next hT F.entry_zip_next (zipO_next_end hh D hz ha hTI h1 h2 hl1 hl2 hend fun h' e hk he => ?_) (F.args_zip_next_1 _))))
  obtain ⟨o, ho, hc⟩ := he
  refine wpAny_bind (wpAny_isInstance (T := "StopIteration") (b := true) ⟨o, ho, hc⟩ isSubtype_stop ?_)
  exact wpAny_pure (hQ _ hk)
/-- where a zip of two tuples stands: its first pair to come, or later; the list at S is none of its objects -/
structure ZS (h : Heap) (z TI TO i1 i2 l1 l2 S : Addr) (i : Nat) : Prop where
  zz : (i = 0 ∧ IsZip h z TI TO .none ∧ ∃ x y, IsPair h TO x y) ∨ ∃ a f oa, IsZO h z TI TO a f ∧ h.get? a = some oa ∧ a ≠ S ∧ a ≠ z ∧ a ≠ i1 ∧ a ≠ i2
  ti : IsPair h TI (.ref i1) (.ref i2)
  h1 : h.IsTupleIter i1 l1 i
  h2 : h.IsTupleIter i2 l2 i
theorem ZS.keep {h h' : Heap} {z TI TO i1 i2 l1 l2 S : Addr} {i : Nat} (x : ZS h z TI TO i1 i2 l1 l2 S i) (hk : ∀ b o, b ≠ S → h.get? b = some o → h'.get? b = some o) (nz : z ≠ S) (nTI : TI ≠ S) (nTO : TO ≠ S) (n1 : i1 ≠ S) (n2 : i2 ≠ S) : ZS h' z TI TO i1 i2 l1 l2 S i := by
  obtain ⟨zz, ti, h1, h2⟩ := x
  refine ⟨?_, hk _ _ nTI ti, h1.at fun o e => hk _ o n1 e, h2.at fun o e => hk _ o n2 e⟩
  rcases zz with ⟨e, hz, a, b, ht⟩ | ⟨a, f, oa, hz, ha, n3, n4⟩
  · exact .inl ⟨e, hk _ _ nz hz, a, b, hk _ _ nTO ht⟩
  · exact .inr ⟨a, f, oa, hk _ _ nz hz, hk _ _ n3 ha, n3, n4⟩
theorem zs_item {z TI TO i1 i2 l1 l2 S : Addr} {i : Nat} {xs ys : Array Value} {x y : Value} {Q : Option Value → Shared → Prop} (D : ZipApart z TI TO i1 i2 l1 l2) (st : ZS s.heap z TI TO i1 i2 l1 l2 S i) (hS : S < s.heap.objs.size)
    (hl1 : s.heap.IsTuple l1 xs) (hl2 : s.heap.IsTuple l2 ys) (hx : xs[i]? = some x) (hy : ys[i]? = some y)
    (hQ : ∀ h', ZS h' z TI TO i1 i2 l1 l2 S (i + 1) → IsPair h' s.heap.objs.size x y → h'.objs.size = s.heap.objs.size + 1 →
      (∀ c o, c ≠ z → c ≠ TO → c ≠ i1 → c ≠ i2 → s.heap.get? c = some o → h'.get? c = some o) → Q (some (.ref s.heap.objs.size)) { s with heap := h' }) :
    wpAny (model prog w) A (pyNext (.ref z)) Q E s := by
  obtain ⟨zz, ti, h1, h2⟩ := st
  have l1 : i1 < s.heap.objs.size := let ⟨_, e, _⟩ := h1; Heap.lt_size e
  have l2 : i2 < s.heap.objs.size := let ⟨_, e, _⟩ := h2; Heap.lt_size e
  rcases zz with ⟨rfl, hz, a, b, ht⟩ | ⟨a, f, oa, hz, ha, n3, n4, n5, n6⟩
  · have lz : z < s.heap.objs.size := Heap.lt_size hz
    exact pyNext_zipT_item D hz ti ht h1 h2 hl1 hl2 hx hy fun h' a1 a2 a3 a4 a5 a6 a7 => hQ h' ⟨.inr ⟨_, false, _, a1, a5, Nat.ne_of_gt hS, Nat.ne_of_gt lz, Nat.ne_of_gt l1, Nat.ne_of_gt l2⟩, a7 _ _ D.TIz D.TITO D.TIi1 D.TIi2 ti, a3, a4⟩ a5 a6 a7
  · exact pyNext_zipO_item D hz ha ti h1 h2 hl1 hl2 hx hy fun h' a1 a3 a4 a5 a6 a7 => hQ h' ⟨.inr ⟨a, true, oa, a1, a7 _ _ n4 n5 n6 ha, n3, n4, n5, n6⟩, a7 _ _ D.TIz D.TIi1 D.TIi2 ti, a3, a4⟩ a5 a6 fun c o c1 _ c3 c4 => a7 c o c1 c3 c4
theorem zs_end {z TI TO i1 i2 l1 l2 S : Addr} {i : Nat} {xs ys : Array Value} {Q : Option Value → Shared → Prop} (hh : A.handled = none) (D : ZipApart z TI TO i1 i2 l1 l2) (st : ZS s.heap z TI TO i1 i2 l1 l2 S i)
    (hl1 : s.heap.IsTuple l1 xs) (hl2 : s.heap.IsTuple l2 ys) (hend : xs[i]? = none)
    (hQ : ∀ h', (∀ c o, c ≠ z → c ≠ TO → c ≠ i1 → c ≠ i2 → s.heap.get? c = some o → h'.get? c = some o) → Q none { s with heap := h' }) :
    wpAny (model prog w) A (pyNext (.ref z)) Q E s := by
  obtain ⟨zz, ti, h1, h2⟩ := st
  rcases zz with ⟨rfl, hz, a, b, ht⟩ | ⟨a, f, oa, hz, ha, n3, n4⟩
  · exact pyNext_zipT_end hh D hz ti ht h1 h2 hl1 hl2 (.inl hend) hQ
  · exact pyNext_zipO_end hh D hz ha ti h1 h2 hl1 hl2 hend fun h' k => hQ h' fun c o c1 _ c3 c4 => k c o c1 c3 c4
/-- the pairs made so far -/
structure PG (xs ys : Array Value) (lo : Addr) (h : Heap) (as : List Addr) : Prop where
  rise : as.Pairwise (· < ·)
  above : ∀ a ∈ as, lo < a
  pairs : ∀ (j : Nat) (a : Addr), as[j]? = some a → ∃ x y, xs[j]? = some x ∧ ys[j]? = some y ∧ IsPair h a x y
theorem PG.there {xs ys : Array Value} {lo : Addr} {h : Heap} {as : List Addr} (g : PG xs ys lo h as) {a : Addr} (ha : a ∈ as) : a < h.objs.size := by
  obtain ⟨j, hj⟩ := List.mem_iff_getElem?.mp ha
  obtain ⟨_, _, _, _, e⟩ := g.pairs j a hj
  exact Heap.lt_size e
end
section
variable {prog : Program} {w : World} {A : Around} {s : Shared} {R : Result → Shared → Prop} {xs ys : Array Value}
theorem zip_loop {S z TI TO i1 i2 l1 l2 M : Addr} (hh : A.handled = none) (D : ZipApart z TI TO i1 i2 l1 l2) (hz : z ≤ M) (hi1 : i1 ≤ M) (hi2 : i2 ≤ M) (hTO : TO ≤ M) (hSM : S ≤ M) (hSz : z ≠ S) (hSTI : TI ≠ S) (hSTO : TO ≠ S) (hS1 : i1 ≠ S) (hS2 : i2 ≠ S) (hSl1 : l1 ≠ S) (hSl2 : l2 ≠ S) (hxy : xs.size = ys.size) (hn : xs.size ≤ sizeLine) (res : Value) {h₁ : Heap}
    (hR : ∀ h' tk acc c as, (∀ b o, b ≠ S → b ≠ z → b ≠ TO → b ≠ i1 → b ≠ i2 → h₁.get? b = some o → h'.get? b = some o) → h'.get? S = some { cls := .type "list", dict := none, data := .seq acc c, slots := #[] } → as.length = xs.size → PG xs ys M h' as →
      acc.toList = as.map Value.ref → R (.ok (.ret res)) { s with heap := h', toks := tk }) :
    ∀ (k i : Nat) (h : Heap) (tk c : Nat) (acc : Array Value) (as : List Addr), xs.size - i = k → i ≤ xs.size → ZS h z TI TO i1 i2 l1 l2 S i → h.IsTuple l1 xs → h.IsTuple l2 ys → (∀ b o, b ≠ S → b ≠ z → b ≠ TO → b ≠ i1 → b ≠ i2 → h₁.get? b = some o → h.get? b = some o) →
      h.get? S = some { cls := .type "list", dict := none, data := .seq acc c, slots := #[] } → acc.toList = as.map Value.ref → as.length = i → PG xs ys M h as → M < h.objs.size →
      codeAny (model prog w) A (.builtin "list.extend.loop" ⟨[.ref S, .ref z, res], []⟩) R { s with heap := h, toks := tk } := by
  intro k
  induction k with
  | zero =>
    intro i h tk c acc as hk hi hst hl1 hl2 hkeep hS hacc hal hG hIs
    refine codeAny_builtin PySem.F.entry_extend_loop ?_
    rw [Around.under_plainId PySem.F.plain_extend_loop _]
    show wpAny _ A.in1 (pyNext (.ref z) >>= _) _ _ _
    refine wpAny_bind (zs_end (s := { s with heap := h, toks := tk }) (A := A.in1) hh D hst hl1 hl2 (Array.getElem?_eq_none (by omega)) fun h' he => ?_)
    have nM : ∀ {a : Addr}, M < a → a ≠ z ∧ a ≠ TO ∧ a ≠ i1 ∧ a ≠ i2 := fun hM => ⟨Nat.ne_of_gt (Nat.lt_of_le_of_lt hz hM), Nat.ne_of_gt (Nat.lt_of_le_of_lt hTO hM), Nat.ne_of_gt (Nat.lt_of_le_of_lt hi1 hM), Nat.ne_of_gt (Nat.lt_of_le_of_lt hi2 hM)⟩
    refine wpAny_pure (hR h' tk acc c as (fun b o h0 h1 h2 h3 h4 e => he b o h1 h2 h3 h4 (hkeep b o h0 h1 h2 h3 h4 e)) (he S _ hSz.symm hSTO.symm hS1.symm hS2.symm hS) (by omega) ⟨hG.rise, hG.above, fun j a hj => ?_⟩ hacc)
    obtain ⟨x, y, e1, e2, e3⟩ := hG.pairs j a hj
    obtain ⟨m1, m2, m3, m4⟩ := nM (hG.above a (List.mem_of_getElem? hj))
    exact ⟨x, y, e1, e2, he a _ m1 m2 m3 m4 e3⟩
  | succ k ih =>
    intro i h tk c acc as hk hi hst hl1 hl2 hkeep hS hacc hal hG hIs
    have hlt : i < xs.size := by omega
    obtain ⟨x, hx⟩ : ∃ p, xs[i]? = some p := ⟨xs[i], Array.getElem?_eq_getElem hlt⟩
    obtain ⟨y, hy⟩ : ∃ p, ys[i]? = some p := ⟨ys[i]'(by omega), Array.getElem?_eq_getElem (by omega)⟩
    have hsz : acc.size = i := by rw [← Array.length_toList, hacc, List.length_map, hal]
    refine codeAny_builtin PySem.F.entry_extend_loop ?_
    rw [Around.under_plainId PySem.F.plain_extend_loop _]
    show wpAny _ A.in1 (pyNext (.ref z) >>= _) _ _ _
    refine wpAny_bind (zs_item (s := { s with heap := h, toks := tk }) (S := S) D hst (Heap.lt_size hS) hl1 hl2 hx hy fun h' hst' ht hz' hkp => ?_)
    dsimp only at ht hz' hkp ⊢
    have hS' := hkp S _ hSz.symm hSTO.symm hS1.symm hS2.symm hS
    have up : ∀ b o, b ≠ S → h'.get? b = some o → (h'.update S (Obj.mapSeq (·.push (Value.ref h.objs.size)))).get? b = some o := fun b o hb e => (Heap.get?_update_other _ _ (Ne.symm hb)).trans e
    have hSl : S < h.objs.size := Heap.lt_size hS
    have nM : ∀ {a : Addr}, M < a → a ≠ z ∧ a ≠ TO ∧ a ≠ i1 ∧ a ≠ i2 ∧ a ≠ S := fun hM => ⟨Nat.ne_of_gt (Nat.lt_of_le_of_lt hz hM), Nat.ne_of_gt (Nat.lt_of_le_of_lt hTO hM), Nat.ne_of_gt (Nat.lt_of_le_of_lt hi1 hM), Nat.ne_of_gt (Nat.lt_of_le_of_lt hi2 hM), Nat.ne_of_gt (Nat.lt_of_le_of_lt hSM hM)⟩
    have tup : ∀ {l : Addr} {vs : Array Value}, l ≠ S → l ≠ z → l ≠ TO → l ≠ i1 → l ≠ i2 → h.IsTuple l vs → (h'.update S (Obj.mapSeq (·.push (Value.ref h.objs.size)))).IsTuple l vs := fun n0 n1 n2 n3 n4 ht => by
      obtain ⟨o, ho, r⟩ := ht
      exact ⟨o, up _ _ n0 (hkp _ _ n1 n2 n3 n4 ho), r⟩
    show wpAny _ A.in1 (updateSeq S (·.push (Value.ref h.objs.size)) >>= _) _ _ _
    refine wpAny_bind ?_
    refine wpAny_updateSeq hS' rfl (wpAny_pure ⟨plainId_quiet PySem.F.plain_extend_loop _, ih (i + 1) _ tk _ (acc.push (Value.ref h.objs.size)) (as ++ [h.objs.size]) (by omega) hlt (hst'.keep up hSz hSTI hSTO hS1 hS2) (tup hSl1 D.l1z D.l1TO D.l1i1 D.l1i2 hl1) (tup hSl2 D.l2z D.l2TO D.l2i1 D.l2i2 hl2)
      (fun b o h0 h1 h2 h3 h4 e => up b o h0 (hkp b o h1 h2 h3 h4 (hkeep b o h0 h1 h2 h3 h4 e))) (Heap.get?_update_self _ hS' rfl) (by rw [Array.toList_push, hacc, List.map_append]; rfl) (by rw [List.length_append, hal]; rfl) ⟨?_, ?_, ?_⟩ ?_⟩) (by rw [hsz]; omega) (by show (acc.push (Value.ref h.objs.size)).size ≤ sizeLine + 1; rw [Array.size_push, hsz]; omega)
    · refine List.pairwise_append.mpr ⟨hG.rise, List.pairwise_singleton _ _, fun a ha b hb => ?_⟩
      rw [List.mem_singleton.mp hb]
      exact hG.there ha
    · intro a ha
      rcases List.mem_append.mp ha with ha | ha
      · exact hG.above a ha
      · rw [List.mem_singleton.mp ha]; exact hIs
    · intro j b hj
      rcases Nat.lt_trichotomy j as.length with h1 | h1 | h1
      · rw [List.getElem?_append_left h1] at hj
        obtain ⟨x', y', e1, e2, e3⟩ := hG.pairs j b hj
        obtain ⟨m1, m2, m3, m4, m5⟩ := nM (hG.above b (List.mem_of_getElem? hj))
        exact ⟨x', y', e1, e2, up b _ m5 (hkp b _ m1 m2 m3 m4 e3)⟩
      · subst h1
        have hb : h.objs.size = b := by simpa using hj
        subst hb
        exact ⟨x, y, by rw [hal]; exact hx, by rw [hal]; exact hy, up _ _ (Nat.ne_of_gt hSl) ht⟩
      · have hnone : (as ++ [h.objs.size])[j]? = none := List.getElem?_eq_none (by rw [List.length_append, List.length_singleton]; omega)
        rw [hnone] at hj; cases hj
    · have e : (h'.update S (Obj.mapSeq (·.push (Value.ref h.objs.size)))).get? h.objs.size = _ := up _ _ (Nat.ne_of_gt hSl) ht
      exact Nat.lt_trans hIs (Heap.lt_size e)
end
theorem zip_no_len : typeLookup (.type "zip") "__len__" = pure none := by rw [typeLookup_type, builtinLookup_eq_fast]; kernel_rfl
theorem zip_no_hint : typeLookup (.type "zip") "__length_hint__" = pure none := by rw [typeLookup_type, builtinLookup_eq_fast]; kernel_rfl
end LZ

set_option Elab.async false
set_option linter.all false
set_option maxRecDepth 100000
set_option maxHeartbeats 4000000
namespace LZ
open PySem PySem.Spec PyProof.Rows L2 RZ
section
variable {prog : Program} {w : World} {A : Around} {E : Value → Shared → Prop} {s : Shared} {xs ys : Array Value}
theorem zip_extend {R : Result → Shared → Prop} {S z TI TO i1 i2 l1 l2 : Addr} (hh : A.handled = none) (D : ZipApart z TI TO i1 i2 l1 l2) (hz : z < S) (hi1 : i1 < S) (hi2 : i2 < S) (hTO : TO < S) (hTI : TI < S) (hl1 : l1 < S) (hl2 : l2 < S) (hxy : xs.size = ys.size) (hn : xs.size ≤ sizeLine) (res : Value) (c₀ : Nat)
    (st : ZS s.heap z TI TO i1 i2 l1 l2 S 0) (h0 : ∃ f0, IsZip s.heap z TI TO f0) (t1 : s.heap.IsTuple l1 xs) (t2 : s.heap.IsTuple l2 ys) (hS : s.heap.get? S = some { cls := .type "list", data := .seq #[] c₀ })
    (hR : ∀ h' tk acc c as, (∀ b o, b ≠ S → b ≠ z → b ≠ TO → b ≠ i1 → b ≠ i2 → s.heap.get? b = some o → h'.get? b = some o) → h'.get? S = some { cls := .type "list", dict := none, data := .seq acc c, slots := #[] } → as.length = xs.size → PG xs ys S h' as →
      acc.toList = as.map Value.ref → R (.ok (.ret res)) { s with heap := h', toks := tk }) :
    wpAny (model prog w) A.in1 (Builtin.List.listExtendWith (.ref S) (.ref z) res)
      (fun fin s' => match fin with | .done f => R (.ok f) s' | .again c' => c'.quiet = true ∧ codeAny (model prog w) A c' R s') (fun e s' => R (.error e) s') s := by
  obtain ⟨f0, hz0⟩ := h0
  have nz : z ≠ S := Nat.ne_of_lt hz
  have hT : s.TypeIs (.ref z) "zip" := ⟨_, hz0, rfl⟩
  unfold Builtin.List.listExtendWith
  refine wpAny_bind (wpAny_typeOf hT ?_)
  have h1 : Builtin.List.listSameRef (.ref S) (.ref z) = false := by simp [Builtin.List.listSameRef, nz.symm]
  have h2 : (Value.type "zip" == Value.type "list") = false := by decide
  have h3 : (Value.type "zip" == Value.type "tuple") = false := by decide
  simp only [h1, h2, h3, Bool.or_false, Bool.false_eq_true, if_false]
  refine wpAny_bind (wpAny_pyIter_zip hz0 ?_)
  refine wpAny_bind (wpAny_holding ?_)
  unfold Builtin.List.listLengthHint
  refine wpAny_bind (wpAny_specialOf hT zip_no_len ?_)
  show wpAny _ A.in1 (specialOf (Value.ref z) (Str.ofString "__length_hint__") >>= _) _ _ _
  refine wpAny_bind (wpAny_specialOf hT zip_no_hint ?_)
  refine wpAny_pure ?_
  show wpAny _ A.in1 (rule "list.extend.makes-room" >>= fun _ => Builtin.List.listTouch (.ref S) >>= fun _ =>
    again (.builtin "list.extend.loop" ⟨[.ref S, .ref z, res], []⟩)) _ _ _
  refine wpAny_bind (wpAny_rule ?_)
  refine wpAny_bind ?_
  show wpAny _ A.in1 (updateSeq S (·.push .none) >>= fun _ => updateSeq S (·.pop)) _ _ _
  refine wpAny_bind (wpAny_updateSeq hS rfl ?_)
  have hS₂ := Heap.get?_update_self (Obj.mapSeq (·.push Value.none)) hS rfl
  refine wpAny_updateSeq (hz := by seq_fits) hS₂ rfl ?_
  have hS₃ := Heap.get?_update_self (Obj.mapSeq (·.pop)) hS₂ rfl
  have oth : ∀ b o, b ≠ S → s.heap.get? b = some o → ((s.heap.update S (Obj.mapSeq (·.push Value.none))).update S (Obj.mapSeq (·.pop))).get? b = some o :=
    fun b o hb e => (Heap.get?_update_other _ _ (Ne.symm hb)).trans ((Heap.get?_update_other _ _ (Ne.symm hb)).trans e)
  have tup : ∀ {l : Addr} {vs : Array Value}, l ≠ S → s.heap.IsTuple l vs → ((s.heap.update S (Obj.mapSeq (·.push Value.none))).update S (Obj.mapSeq (·.pop))).IsTuple l vs := fun n ht => by
    obtain ⟨o, ho, r⟩ := ht
    exact ⟨o, oth _ _ n ho, r⟩
  exact wpAny_pure ⟨plainId_quiet PySem.F.plain_extend_loop _, zip_loop (s := s) (h₁ := s.heap) (M := S) hh D (Nat.le_of_lt hz) (Nat.le_of_lt hi1) (Nat.le_of_lt hi2) (Nat.le_of_lt hTO) (Nat.le_refl _) nz (Nat.ne_of_lt hTI) (Nat.ne_of_lt hTO) (Nat.ne_of_lt hi1) (Nat.ne_of_lt hi2) (Nat.ne_of_lt hl1) (Nat.ne_of_lt hl2) hxy hn res hR
    xs.size 0 _ s.toks _ #[] [] (Nat.sub_zero _) (Nat.zero_le _) (st.keep oth nz (Nat.ne_of_lt hTI) (Nat.ne_of_lt hTO) (Nat.ne_of_lt hi1) (Nat.ne_of_lt hi2)) (tup (Nat.ne_of_lt hl1) t1) (tup (Nat.ne_of_lt hl2) t2) (fun b o h0 _ _ _ _ e => oth b o h0 e) hS₃ rfl rfl
    ⟨List.Pairwise.nil, (fun _ ha => nomatch ha), (fun j a hj => by simp at hj)⟩ (Heap.lt_size hS₃)⟩
theorem zip_init {R : Result → Shared → Prop} {S z TI TO i1 i2 l1 l2 : Addr} (hh : A.handled = none) (D : ZipApart z TI TO i1 i2 l1 l2) (hz : z < S) (hi1 : i1 < S) (hi2 : i2 < S) (hTO : TO < S) (hTI : TI < S) (hl1 : l1 < S) (hl2 : l2 < S) (hxy : xs.size = ys.size) (hn : xs.size ≤ sizeLine)
    (st : ZS s.heap z TI TO i1 i2 l1 l2 S 0) (h0 : ∃ f0, IsZip s.heap z TI TO f0) (t1 : s.heap.IsTuple l1 xs) (t2 : s.heap.IsTuple l2 ys) (hS : s.heap.get? S = some { cls := .type "list", data := .seq #[] })
    (hR : ∀ h' tk acc c as, (∀ b o, b ≠ S → b ≠ z → b ≠ TO → b ≠ i1 → b ≠ i2 → s.heap.get? b = some o → h'.get? b = some o) → h'.get? S = some { cls := .type "list", dict := none, data := .seq acc c, slots := #[] } → as.length = xs.size → PG xs ys S h' as →
      acc.toList = as.map Value.ref → R (.ok (.ret .none)) { s with heap := h', toks := tk }) :
    wpAny (model prog w) A.in1 (Builtin.«list.__init__» ⟨[.ref S, .ref z], []⟩)
      (fun fin s' => match fin with | .done f => R (.ok f) s' | .again c' => c'.quiet = true ∧ codeAny (model prog w) A c' R s') (fun e s' => R (.error e) s') s := by
  show wpAny _ _ (do let old ← Builtin.List.listItems (.ref S); Builtin.List.listUpdate (.ref S) (fun _ => #[]); letGo old.toList.reverse; Builtin.List.listExtendWith (.ref S) (.ref z) .none) _ _ s
  refine wpAny_bind ?_
  unfold Builtin.List.listItems
  refine wpAny_bind (wpAny_seqItems hS rfl (wpAny_pure ?_))
  show wpAny _ _ (updateSeq S (fun _ => #[]) >>= fun _ => letGo (#[] : Array Value).toList.reverse >>= fun _ => Builtin.List.listExtendWith (.ref S) (.ref z) .none) _ _ s
  refine wpAny_bind (wpAny_updateSeq hS rfl ?_)
  have hS₂ := Heap.get?_update_self (Obj.mapSeq (fun _ => (#[] : Array Value))) hS rfl
  have oth : ∀ b o, b ≠ S → s.heap.get? b = some o → (s.heap.update S (Obj.mapSeq (fun _ => (#[] : Array Value)))).get? b = some o :=
    fun b o hb e => (Heap.get?_update_other _ _ (Ne.symm hb)).trans e
  have tup : ∀ {l : Addr} {vs : Array Value}, l ≠ S → s.heap.IsTuple l vs → (s.heap.update S (Obj.mapSeq (fun _ => (#[] : Array Value)))).IsTuple l vs := fun n ht => by
    obtain ⟨o, ho, r⟩ := ht
    exact ⟨o, oth _ _ n ho, r⟩
  refine wpAny_bind (wpAny_letGo ?_)
  exact zip_extend (s := { s with heap := s.heap.update S (Obj.mapSeq (fun _ => (#[] : Array Value))) }) hh D hz hi1 hi2 hTO hTI hl1 hl2 hxy hn .none _ (st.keep oth (Nat.ne_of_lt hz) (Nat.ne_of_lt hTI) (Nat.ne_of_lt hTO) (Nat.ne_of_lt hi1) (Nat.ne_of_lt hi2)) (let ⟨f, e⟩ := h0; ⟨f, oth _ _ (Nat.ne_of_lt hz) e⟩)
    (tup (Nat.ne_of_lt hl1) t1) (tup (Nat.ne_of_lt hl2) t2) hS₂ (fun h' tk acc c as hk hS' hl hG hacc => hR h' tk acc c as (fun b o h0 h1 h2 h3 h4 e => hk b o h0 h1 h2 h3 h4 (oth b o h0 e)) hS' hl hG hacc)
theorem zip_list {Q : Value → Shared → Prop} {z TI TO i1 i2 l1 l2 : Addr} (hh : A.handled = none) (D : ZipApart z TI TO i1 i2 l1 l2) (hxy : xs.size = ys.size) (hn : xs.size ≤ sizeLine)
    (hz : IsZip s.heap z TI TO .none) (hTI : IsPair s.heap TI (.ref i1) (.ref i2)) (hTO : IsPair s.heap TO .none .none) (h1 : s.heap.IsTupleIter i1 l1 0) (h2 : s.heap.IsTupleIter i2 l2 0) (t1 : s.heap.IsTuple l1 xs) (t2 : s.heap.IsTuple l2 ys)
    (hQ : ∀ h' tk acc c as, (∀ b o, b ≠ z → b ≠ TO → b ≠ i1 → b ≠ i2 → s.heap.get? b = some o → h'.get? b = some o) → h'.get? s.heap.objs.size = some { cls := .type "list", dict := none, data := .seq acc c, slots := #[] } → as.length = xs.size → PG xs ys s.heap.objs.size h' as →
      acc.toList = as.map Value.ref → Q (.ref s.heap.objs.size) { s with heap := h', toks := tk }) :
    wpAny (model prog w) A (call (.type "list") [.ref z]) Q E s := by
  refine callType_codes (Q₁ := fun obj s₁ => obj = .ref s.heap.objs.size ∧ s₁ = { s with heap := s.heap.push { cls := .type "list", data := .seq #[] } }) PySem.F.called_list (PySem.F.typeCall_list_1 _) PySem.F.entry_list_init
    (code_list_new _ ⟨rfl, rfl⟩) fun obj s₁ h₁ => ?_
  obtain ⟨rfl, rfl⟩ := h₁
  have hS : (s.heap.push { cls := .type "list", data := .seq #[] }).get? s.heap.objs.size = some { cls := .type "list", data := .seq #[] } := Heap.get?_push_size _ rfl
  have up : ∀ b o, s.heap.get? b = some o → (s.heap.push { cls := .type "list", data := .seq #[] }).get? b = some o := fun b o e => Heap.get?_push_of_some _ e
  have tup : ∀ {l : Addr} {vs : Array Value}, s.heap.IsTuple l vs → (s.heap.push { cls := .type "list", data := .seq #[] }).IsTuple l vs := fun ht => by
    obtain ⟨o, ho, r⟩ := ht
    exact ⟨o, up _ _ ho, r⟩
  have lt : ∀ {b : Addr} {o : Obj}, s.heap.get? b = some o → b < s.heap.objs.size := fun e => Heap.lt_size e
  have lT : ∀ {l : Addr} {vs : Array Value}, s.heap.IsTuple l vs → l < s.heap.objs.size := fun ht => by
    obtain ⟨o, ho, r⟩ := ht
    exact lt ho
  have li : ∀ {i l : Addr} {k : Nat}, s.heap.IsTupleIter i l k → i < s.heap.objs.size := fun ht => by
    obtain ⟨o, ho, r⟩ := ht
    exact lt ho
  refine ⟨⟨_, hS, rfl⟩, PySem.F.args_list_init_2 _ _, zip_init (A := A.in1) hh D (lt hz) (li h1) (li h2) (lt hTO) (lt hTI) (lT t1) (lT t2) hxy hn ⟨.inl ⟨rfl, up _ _ hz, _, _, up _ _ hTO⟩, up _ _ hTI, h1.at fun o e => up _ o e, h2.at fun o e => up _ o e⟩ ⟨_, up _ _ hz⟩ (tup t1) (tup t2) hS (fun h' tk acc c as hk hS' hl hG hacc => ?_)⟩
  exact ⟨rfl, hQ h' tk acc c as (fun b o n1 n2 n3 n4 e => hk b o (Nat.ne_of_lt (Heap.lt_size e)) n1 n2 n3 n4 (up b o e)) hS' hl hG hacc⟩
end
/-! ### over the layer -/
def putP : Hp → List Addr → List V → List V → Hp
  | H, a :: as, x :: xs, y :: ys => putP (upd H a (.tup [x, y])) as xs ys
  | H, _, _, _ => H
theorem putP_off {b : Addr} : ∀ (as : List Addr) (xs ys : List V) (H : Hp), b ∉ as → putP H as xs ys b = H b
  | [], _, _, _, _ => rfl
  | _ :: _, [], _, _, _ => rfl
  | _ :: _, _ :: _, [], _, _ => rfl
  | a :: as, x :: xs, y :: ys, H, h => by
    show putP (upd H a (.tup [x, y])) as xs ys b = H b
    rw [putP_off as xs ys _ (fun z => h (List.mem_cons_of_mem _ z)), upd_ne (fun z => h (by rw [z]; exact List.mem_cons_self))]
theorem putP_at : ∀ (as : List Addr) (xs ys : List V) (H : Hp), as.length = xs.length → xs.length = ys.length → as.Nodup → ∀ (j : Nat) (a : Addr), as[j]? = some a → ∃ x y, xs[j]? = some x ∧ ys[j]? = some y ∧ putP H as xs ys a = some (.tup [x, y])
  | [], _, _, _, _, _, _, j, a, h => by simp at h
  | _ :: _, [], _, _, h, _, _, _, _, _ => by cases h
  | _ :: _, _ :: _, [], _, _, h, _, _, _, _ => by cases h
  | b :: as, x :: xs, y :: ys, H, h1, h2, hn, 0, a, e => by
    cases (Option.some.inj e)
    have hn' := List.nodup_cons.mp hn
    refine ⟨x, y, rfl, rfl, ?_⟩
    show putP (upd H b (.tup [x, y])) as xs ys b = some (.tup [x, y])
    rw [putP_off as xs ys _ hn'.1, upd_same]
  | b :: as, x :: xs, y :: ys, H, h1, h2, hn, j + 1, a, e => by
    have hn' := List.nodup_cons.mp hn
    exact putP_at as xs ys (upd H b (.tup [x, y])) (Nat.succ.inj h1) (Nat.succ.inj h2) hn'.2 j a e
theorem vals_refs : ∀ as : List Addr, Vals (as.map V.ref) (as.map Value.ref)
  | [] => .nil
  | _ :: as => .cons rfl (vals_refs as)
def rLZ (H : Hp) (xs ys : List V) (Q : VK) : Prop :=
  ∀ (H' : Hp) (p : Addr) (ts : List Addr), Same H H' → H p = none → (∀ t ∈ ts, H t = none) → p ∉ ts → ts.length = xs.length → H' p = some (.lst (ts.map V.ref)) → (∀ (j : Nat) (t : Addr), ts[j]? = some t → ∃ x y, xs[j]? = some x ∧ ys[j]? = some y ∧ H' t = some (.tup [x, y])) → Q (.ref p) H'
def tLZ (K : PySem.W.Frag) (ta : TA) : TE := fun σ H Q => ta σ H fun vs H1 => ∃ a b xs ys, vs = [.ref a, .ref b] ∧ SqT K H1 a xs ∧ SqT K H1 b ys ∧ xs.length = ys.length ∧ xs.length ≤ 1000 ∧ rLZ H1 xs ys Q
section
variable {X : Cx} {e e2 : Expr} {ta : TA} {p p2 pos pos2 : Pos}
theorem zip_laid {pins : List (Addr × Obj)} {σ : L2.St} {H : Hp} {s : Shared} {h' : Heap} {tk : Nat} {xs ys : List V} {ux uy : List Value} {acc : Array Value} {c : Nat} {as : List Addr} {S : Addr} (I : Inv X pins σ H s) (hz : xs.length ≤ 1000) (hxy : xs.length = ys.length) (vx : Vals xs ux) (vy : Vals ys uy)
    (hk : ∀ b o, s.heap.get? b = some o → h'.get? b = some o) (hS : h'.get? S = some { cls := .type "list", dict := none, data := .seq acc c, slots := #[] }) (hSs : s.heap.objs.size ≤ S) (hl : as.length = xs.length) (hG : PG ux.toArray uy.toArray S h' as) (hacc : acc.toList = as.map Value.ref) :
    ∃ H' : Hp, Same H H' ∧ H S = none ∧ (∀ t ∈ as, H t = none) ∧ S ∉ as ∧ H' S = some (.lst (as.map V.ref)) ∧ (∀ (j : Nat) (t : Addr), as[j]? = some t → ∃ x y, xs[j]? = some x ∧ ys[j]? = some y ∧ H' t = some (.tup [x, y])) ∧ Inv X pins σ H' { s with heap := h', toks := tk } := by
  have hSn : S ∉ as := fun z => Nat.lt_irrefl _ (hG.above _ z)
  have nd : as.Nodup := List.Pairwise.imp (fun {a b} (h : a < b) => Nat.ne_of_lt h) hG.rise
  have new : ∀ t ∈ as, H t = none := fun t ht => I.hok.fresh (Nat.le_trans hSs (Nat.le_of_lt (hG.above t ht)))
  have newS : H S = none := I.hok.fresh hSs
  have atP := putP_at as xs ys (upd H S (.lst (as.map V.ref))) hl hxy nd
  have off : ∀ b, b ∉ as → b ≠ S → putP (upd H S (.lst (as.map V.ref))) as xs ys b = H b := fun b h1 h2 => by rw [putP_off as xs ys _ h1, upd_ne h2]
  have low : ∀ b o, s.heap.get? b = some o → b ∉ as ∧ b ≠ S := fun b o e => ⟨fun z => absurd (Heap.lt_size e) (Nat.not_lt.mpr (Nat.le_trans hSs (Nat.le_of_lt (hG.above b z)))), Nat.ne_of_lt (Nat.lt_of_lt_of_le (Heap.lt_size e) hSs)⟩
  have kp : ∀ b u, H b = some u → (putP (upd H S (.lst (as.map V.ref))) as xs ys) b = some u := fun b u e => by
    rw [off b (fun z => by rw [new b z] at e; cases e) (fun z => by rw [z, newS] at e; cases e)]
    exact e
  have eS : putP (upd H S (.lst (as.map V.ref))) as xs ys S = some (.lst (as.map V.ref)) := by rw [putP_off as xs ys _ hSn, upd_same]
  refine ⟨putP (upd H S (.lst (as.map V.ref))) as xs ys, kp, newS, new, hSn, eS, atP, ?_⟩
  refine I.call' (ch := []) rfl ⟨fun b o q _ _ _ => hk b o q, fun b o q _ _ _ => ⟨o.slots, hk b o q⟩, fun b o q n _ => ?_, fun b o q _ => ⟨o, hk b o q⟩, fun b xs q => kp b _ q, fun b o u q => kp b _ q, fun b ps q => ⟨#[], by rw [kp b _ q]; simp⟩⟩ (fun b u q => ?_) I.bare fun b z => by simp at z
  · obtain ⟨z1, z2⟩ := low b o q
    rw [off b z1 z2]
    exact n
  · by_cases hb : b ∈ as
    · obtain ⟨j, hj⟩ := List.mem_iff_getElem?.mp hb
      obtain ⟨x, y, e1, e2, e3⟩ := atP j b hj
      rw [e3] at q
      cases q
      obtain ⟨u, v, f1, f2, f3⟩ := hG.pairs j b hj
      obtain ⟨u', hu', ru⟩ := vx.get e1
      obtain ⟨v', hv', rv⟩ := vy.get e2
      have eu : u = u' := by
        have f1' : ux[j]? = some u := by simpa using f1
        rw [f1'] at hu'
        exact Option.some.inj hu'
      have ev : v = v' := by
        have f2' : uy[j]? = some v := by simpa using f2
        rw [f2'] at hv'
        exact Option.some.inj hv'
      subst eu
      subst ev
      exact ⟨by show 2 ≤ sizeLine; decide, [u, v], .cons ru (.cons rv .nil), ⟨_, f3, rfl, _, rfl⟩⟩
    · by_cases hb2 : b = S
      · rw [hb2] at q ⊢
        rw [eS] at q
        cases q
        refine ⟨by rw [List.length_map, hl]; exact Nat.le_trans hz (by decide), acc.toList, c, by rw [hacc]; exact vals_refs as, ?_⟩
        rw [Array.toArray_toList]
        exact hS
      · rw [off b hb hb2] at q
        exact (I.hok b u q).stay (fun d v _ y => hk d v y) (fun d y => kp d _ y) fun d xs y => kp d _ y
theorem pe_listZip (hc : X.calm = true) (hg : Gl X "list") (hm : X.mg "list" = none) (hv : bootBuiltins "list" = some (.type "list")) (hg2 : Gl X "zip") (hm2 : X.mg "zip" = none) (ha : PA X [e, e2] ta)
    (hs : starEach [.Call (.Name "zip" p2) [e, e2] [] pos2] X.env = (false, eval (.Call (.Name "zip" p2) [e, e2] [] pos2) X.env) :: starEach [] X.env := by rfl)
    (hs2 : starEach [e, e2] X.env = (false, eval e X.env) :: starEach [e2] X.env := by rfl) (hpl : (backTo pos2 (starEach [e2] X.env)).any (·.1) = false := by rfl) :
    PE X (.Call (.Name "list" p) [.Call (.Name "zip" p2) [e, e2] [] pos2] [] pos) (tLZ X.K ta) := by
  refine ⟨fun pins s σ H Q I hq => ?_⟩
  refine wpAny_Call_Name_kw (ld_blt I hg hm hv ?_)
  refine PyProof.Rows.callWith_type1 ?_ hs rfl
  rw [hs]
  show wpAny _ _ (spliced ((false, eval (.Call (.Name "zip" p2) [e, e2] [] pos2) X.env) :: backTo pos (starEach [] X.env))) _ _ s
  refine Calls.spliced_cons ?_
  refine wpAny_Call_Name_kw (ld_blt I hg2 hm2 PyProof.Rows.boot_zip (PyProof.Rows.callWith_type1 (thn (ha.run pos2 pins s σ H _ I hq) fun us s1 ⟨vs, H1, I1, r1, q1⟩ => ?_) hs2 hpl))
  obtain ⟨a, b, xs, ys, ex, hqx, hqy, hxy, hz, q⟩ := q1
  subst ex
  cases r1 with
  | cons r rr =>
    cases rr with
    | cons r' rr =>
      cases rr
      cases r
      cases r'
      obtain ⟨its, rv, p1, _⟩ := I1.tuple hqx
      obtain ⟨its2, rv2, p2, _⟩ := I1.tuple hqy
      obtain ⟨o1, ho1, _⟩ := id p1
      obtain ⟨o2, ho2, _⟩ := id p2
      have e1 := rv.length
      have e2 := rv2.length
      refine call_zipT (show s1.heap.IsTuple a its.toArray from p1) (show s1.heap.IsTuple b its2.toArray from p2) fun h' hz' hTI hTO h1 h2 hsz hk => ?_
      refine Calls.spliced_nil ?_
      have tup : ∀ {l : Addr} {vs : Array Value}, s1.heap.IsTuple l vs → h'.IsTuple l vs := fun ht => by
        obtain ⟨o, ho, r⟩ := ht
        exact ⟨o, hk _ _ ho, r⟩
      refine zip_list (s := { s1 with heap := h' }) (I1.ok.hd hc) (PySem.W.ktu_apart s1.heap.objs.size a b (Heap.lt_size ho1) (Heap.lt_size ho2)) (by simp; omega) (by simp; exact Nat.le_trans (by omega) (show 1000 ≤ sizeLine by decide)) hz' hTI hTO h1 h2 (tup p1) (tup p2) fun h'' tk acc c as hk2 hS hl hG hacc => ?_
      dsimp only at hS hG ⊢
      obtain ⟨H', k1, k2, k3, k4, k5, k6, J⟩ := zip_laid (tk := tk) I1 hz hxy rv rv2 (fun b o e => hk2 b o (Nat.ne_of_lt (Nat.lt_of_lt_of_le (Heap.lt_size e) (Nat.le_add_right _ _))) (Nat.ne_of_lt (Nat.lt_of_lt_of_le (Heap.lt_size e) (Nat.le_add_right _ _))) (Nat.ne_of_lt (Heap.lt_size e)) (Nat.ne_of_lt (Nat.lt_of_lt_of_le (Heap.lt_size e) (Nat.le_add_right _ _))) (hk b o e)) hS (by omega) (by simp at hl; omega) hG hacc
      exact ⟨.ref _, H', J, rfl, q H' _ as k1 k2 k3 k4 (by simp at hl; omega) k5 k6⟩
end
end LZ

set_option Elab.async false
set_option linter.all false
set_option maxRecDepth 100000
set_option maxHeartbeats 4000000
namespace Pf
open PySem PySem.Spec PyProof.Rows L2

/-! ### heaps and data -/
theorem same_upd {H : Hp} {p : Addr} {o : HO} (h : H p = none) : Same H (upd H p o) := fun b x e => by
  rw [upd_ne (ne_of_none e h)]
  exact e
theorem Same.up {G H : Hp} {p : Addr} {o : HO} (s : Same G H) (h : H p = none) : Same G (upd H p o) := s.trans (same_upd h)
theorem same_seqT {K : PySem.W.Frag} {H H' : Hp} {a : Addr} {xs : List V} (e : Same H H') (h : SqT K H a xs) : SqT K H' a xs := by
  rcases h with (h | ⟨o, h⟩) | h
  · exact .inl (.inl (e _ _ h))
  · exact .inl (.inr ⟨o, e _ _ h⟩)
  · exact .inr h
section
variable {K : PySem.W.Frag} {H H' : Hp}
mutual
theorem dp_same (e : Same H H') : ∀ (d : PyData) (v : V), Dp K H v d → Dp K H' v d
  | .none, _, h => by cases h; exact .non
  | .bool b, _, h => by cases h; exact .bl b
  | .int i, _, h => by cases h; exact .int i
  | .str x, _, h => by cases h; exact .str x
  | .list ds, _, h => by cases h with | lst hs ha => exact .lst (Same.seq e hs) (dps_same e ds _ ha)
  | .tuple ds, _, h => by cases h with | tup hs ha => exact .tup (same_seqT e hs) (dps_same e ds _ ha)
  | .dict _, _, h => by cases h
theorem dps_same (e : Same H H') : ∀ (ds : List PyData) (vs : List V), DpAll K H vs ds → DpAll K H' vs ds
  | [], _, h => by cases h; exact .nil
  | d :: ds, _, h => by cases h with | cons h1 h2 => exact .cons (dp_same e d _ h1) (dps_same e ds _ h2)
end
theorem dps_ints : ∀ ns : List Int, DpAll K H (ns.map V.int) (ns.map PyData.int)
  | [] => .nil
  | n :: ns => .cons (.int n) (dps_ints ns)
theorem dps_len : ∀ {vs : List V} {ds : List PyData}, DpAll K H vs ds → vs.length = ds.length
  | [], _, h => by cases h; rfl
  | v :: vs, _, h => by cases h with | cons h1 h2 => simp [dps_len h2]
theorem dps_get : ∀ {vs : List V} {ds : List PyData} {i : Nat} {v : V}, DpAll K H vs ds → vs[i]? = some v → ∃ d, ds[i]? = some d ∧ Dp K H v d
  | [], _, i, v, h, e => by simp at e
  | x :: vs, _, 0, v, h, e => by
    cases h with
    | cons h1 h2 =>
      cases (Option.some.inj e)
      exact ⟨_, rfl, h1⟩
  | x :: vs, _, i + 1, v, h, e => by
    cases h with
    | cons h1 h2 =>
      obtain ⟨d, e1, e2⟩ := dps_get h2 (show vs[i]? = some v from e)
      exact ⟨d, e1, e2⟩
theorem dps_app : ∀ {vs ws : List V} {ds es : List PyData}, DpAll K H vs ds → DpAll K H ws es → DpAll K H (vs ++ ws) (ds ++ es)
  | [], _, _, _, h, g => by cases h; exact g
  | v :: vs, _, _, _, h, g => by cases h with | cons h1 h2 => exact .cons h1 (dps_app h2 g)
theorem dps_take : ∀ {vs : List V} {ds : List PyData} (n : Nat), DpAll K H vs ds → DpAll K H (vs.take n) (ds.take n)
  | _, _, 0, _ => .nil
  | [], _, n + 1, h => by cases h; exact .nil
  | v :: vs, _, n + 1, h => by cases h with | cons h1 h2 => exact .cons h1 (dps_take n h2)
theorem dps_drop : ∀ {vs : List V} {ds : List PyData} (n : Nat), DpAll K H vs ds → DpAll K H (vs.drop n) (ds.drop n)
  | _, _, 0, h => h
  | [], _, n + 1, h => by cases h; exact .nil
  | v :: vs, _, n + 1, h => by cases h with | cons h1 h2 => exact dps_drop n h2
theorem dps_set : ∀ {vs : List V} {ds : List PyData} {v : V} {d : PyData} (i : Nat), DpAll K H vs ds → Dp K H v d → DpAll K H (vs.set i v) (ds.set i d)
  | [], _, _, _, _, h, _ => by cases h; exact .nil
  | x :: vs, _, v, d, 0, h, q => by cases h with | cons h1 h2 => exact .cons q h2
  | x :: vs, _, v, d, i + 1, h, q => by cases h with | cons h1 h2 => exact .cons h1 (dps_set i h2 q)
theorem tyx_tup {a : Addr} {xs : List V} (h : SqT K H a xs) : TyX K H (.ref a) (.type "tuple") := by
  rcases h with (h | ⟨o, h⟩) | ⟨o, its, n, h, c, _⟩
  · exact .base (.tup h)
  · exact .fTuple h
  · exact .kTuple h c
theorem tyx_lst {a : Addr} {xs : List V} (h : SqL K H a xs) : TyX K H (.ref a) (.type "list") := by
  rcases h with (h | ⟨o, h⟩) | ⟨o, its, n, h, c, _⟩
  · exact .base (.lst h)
  · exact .base (.frz h)
  · exact .kList h c
end
def intB : PyData → Bool | .int _ => true | .bool _ => true | _ => false
def boolB : PyData → Bool | .bool _ => true | _ => false
def tupB : PyData → Bool | .tuple _ => true | _ => false
section
variable {K : PySem.W.Frag} {H : Hp} {v : V} {d : PyData}
theorem isi_int (h : Dp K H v d) : ∃ t, TyX K H v t ∧ PySem.W.kitOne K t (.type "int") = some (intB d) := by
  cases h with
  | non => exact ⟨_, .base .non, kit_ty (show kitB "NoneType" "int" = some false by decide +kernel)⟩
  | bl b => exact ⟨_, .base (.bl b), kit_ty (show kitB "bool" "int" = some true by decide +kernel)⟩
  | int i => exact ⟨_, .base (.int i), kit_ty (show kitB "int" "int" = some true by decide +kernel)⟩
  | str x => exact ⟨_, .base (.str x), kit_ty (show kitB "str" "int" = some false by decide +kernel)⟩
  | lst hs _ => exact ⟨_, tyx_lst hs, kit_ty (show kitB "list" "int" = some false by decide +kernel)⟩
  | tup hs _ => exact ⟨_, tyx_tup hs, kit_ty (show kitB "tuple" "int" = some false by decide +kernel)⟩
theorem isi_bool (h : Dp K H v d) : ∃ t, TyX K H v t ∧ PySem.W.kitOne K t (.type "bool") = some (boolB d) := by
  cases h with
  | non => exact ⟨_, .base .non, kit_ty (show kitB "NoneType" "bool" = some false by decide +kernel)⟩
  | bl b => exact ⟨_, .base (.bl b), kit_ty (show kitB "bool" "bool" = some true by decide +kernel)⟩
  | int i => exact ⟨_, .base (.int i), kit_ty (show kitB "int" "bool" = some false by decide +kernel)⟩
  | str x => exact ⟨_, .base (.str x), kit_ty (show kitB "str" "bool" = some false by decide +kernel)⟩
  | lst hs _ => exact ⟨_, tyx_lst hs, kit_ty (show kitB "list" "bool" = some false by decide +kernel)⟩
  | tup hs _ => exact ⟨_, tyx_tup hs, kit_ty (show kitB "tuple" "bool" = some false by decide +kernel)⟩
theorem isi_tup (h : Dp K H v d) : ∃ t, TyX K H v t ∧ PySem.W.kitOne K t (.type "tuple") = some (tupB d) := by
  cases h with
  | non => exact ⟨_, .base .non, kit_ty (show kitB "NoneType" "tuple" = some false by decide +kernel)⟩
  | bl b => exact ⟨_, .base (.bl b), kit_ty (show kitB "bool" "tuple" = some false by decide +kernel)⟩
  | int i => exact ⟨_, .base (.int i), kit_ty (show kitB "int" "tuple" = some false by decide +kernel)⟩
  | str x => exact ⟨_, .base (.str x), kit_ty (show kitB "str" "tuple" = some false by decide +kernel)⟩
  | lst hs _ => exact ⟨_, tyx_lst hs, kit_ty (show kitB "list" "tuple" = some false by decide +kernel)⟩
  | tup hs _ => exact ⟨_, tyx_tup hs, kit_ty (show kitB "tuple" "tuple" = some true by decide +kernel)⟩
end
/-- a list's item, as what an augmented store reads -/
theorem get_list {X : Cx} : PGet X (rIxL X.K) := by
  intro pins s σ H x y v u Q I rx ry h
  obtain ⟨p, xs, i, z, rfl, rfl, hq, he, q⟩ := h
  cases rx
  obtain ⟨t, rfl⟩ := ry
  obtain ⟨its, r, pl, hz⟩ := I.list hq
  obtain ⟨j, h1, h2, h3, h4, h5⟩ := atI_get he
  obtain ⟨w, ew, rw'⟩ := r.get h2
  have hl := r.length
  have hn := line63
  have fin : EP X pins σ Q w s := ⟨z, H, I, rw', q⟩
  by_cases h0 : 0 ≤ i
  · have hj : i.toNat = j := by
      rw [seqIndex_of h0 h5] at h1
      exact Option.some.inj h1
    exact wpAny_getItem_list pl.isList h0 (by omega) (by rw [hj]; simpa using ew) fin
  · have hj : (i + (its.toArray.size : Int)).toNat = j := by
      rw [seqIndex_neg (by omega) h4] at h1
      rw [List.size_toArray, ← hl]
      exact Option.some.inj h1
    exact wpAny_getItem_list_neg pl.isList (by omega) (by rw [List.size_toArray] <;> omega) (by omega) (by rw [hj]; simpa using ew) fin

/-! ### a heap without what may change -/
def Off (cs : List Addr) (H : Hp) : Hp := fun b => if b ∈ cs then none else H b
theorem off_in {cs : List Addr} {H : Hp} {b : Addr} (h : b ∈ cs) : Off cs H b = none := by unfold Off; rw [if_pos h]
theorem off_out {cs : List Addr} {H : Hp} {b : Addr} (h : b ∉ cs) : Off cs H b = H b := by unfold Off; rw [if_neg h]
theorem off_le {cs : List Addr} {H : Hp} : Same (Off cs H) H := fun b o e => by
  by_cases h : b ∈ cs
  · rw [off_in h] at e; cases e
  · rw [off_out h] at e; exact e
theorem off_same {cs : List Addr} {H H' : Hp} (s : Same H H') : Same (Off cs H) (Off cs H') := fun b o e => by
  by_cases h : b ∈ cs
  · rw [off_in h] at e; cases e
  · rw [off_out h] at e ⊢; exact s b o e
theorem off_upd {cs : List Addr} {H : Hp} {c : Addr} {o : HO} (h : c ∈ cs) : Off cs (upd H c o) = Off cs H := by
  funext b
  by_cases hb : b ∈ cs
  · rw [off_in hb, off_in hb]
  · rw [off_out hb, off_out hb, upd_ne (fun z => hb (by rw [z]; exact h))]
theorem off_new {cs : List Addr} {H : Hp} {p : Addr} {o : HO} (h : H p = none) : Same (Off cs H) (Off cs (upd H p o)) := off_same (same_upd h)
/-- an unlike set of what may change, where H has nothing of what is new in it -/
theorem off_more {cs ds : List Addr} {H : Hp} (h : ∀ c ∈ ds, c ∈ cs ∨ H c = none) : Same (Off cs H) (Off ds H) := fun b o e => by
  by_cases hb : b ∈ cs
  · rw [off_in hb] at e; cases e
  · rw [off_out hb] at e
    by_cases hd : b ∈ ds
    · rcases h b hd with z | z
      · exact absurd z hb
      · rw [z] at e; cases e
    · rw [off_out hd]; exact e
/-- all is kept but what stands at cs -/
def But (cs : List Addr) (H H' : Hp) : Prop := Same (Off cs H) H'
theorem But.at {cs : List Addr} {H H' : Hp} (s : But cs H H') {b : Addr} {o : HO} (h : H b = some o) (n : b ∉ cs) : H' b = some o := s b o (by rw [off_out n]; exact h)
theorem But.of {cs : List Addr} {H H' : Hp} (s : Same H H') : But cs H H' := (off_le).trans s
theorem But.off {cs ds : List Addr} {H H' : Hp} (s : But cs H H') (h : ∀ c ∈ cs, c ∈ ds) : Same (Off ds H) (Off ds H') := fun b o e => by
  by_cases hb : b ∈ ds
  · rw [off_in hb] at e; cases e
  · rw [off_out hb] at e ⊢
    exact s b o (by rw [off_out (fun z => hb (h b z))]; exact e)

/-- what is new in H' -/
def New (H H' : Hp) : Hp := fun b => match H b with
  | none => H' b
  | some _ => none
theorem new_at {H H' : Hp} {b : Addr} (h : H b = none) : New H H' b = H' b := by unfold New; rw [h]
theorem new_some {H H' : Hp} {b : Addr} {o : HO} (h : New H H' b = some o) : H b = none ∧ H' b = some o := by
  cases e : H b with
  | none => rw [new_at e] at h; exact ⟨rfl, h⟩
  | some u => unfold New at h; rw [e] at h; cases h
theorem new_same {H H1 H2 : Hp} (s : Same H1 H2) : Same (New H H1) (New H H2) := fun b o e => by
  obtain ⟨e1, e2⟩ := new_some e
  rw [new_at e1]
  exact s _ _ e2
theorem new_le {H H' : Hp} : Same (New H H') H' := fun b o e => (new_some e).2
theorem new_off {cs : List Addr} {H H' : Hp} (h : ∀ c ∈ cs, H c ≠ none) : Same (New H H') (Off cs H') := fun b o e => by
  obtain ⟨e1, e2⟩ := new_some e
  rw [off_out (fun z => h b z e1)]
  exact e2
theorem new_upd {cs : List Addr} {H H' : Hp} {c : Addr} {o : HO} (h : c ∈ cs) : Off cs (New H (upd H' c o)) = Off cs (New H H') := by
  funext b
  by_cases hb : b ∈ cs
  · rw [off_in hb, off_in hb]
  · rw [off_out hb, off_out hb]
    unfold New
    cases H b with
    | none => exact upd_ne (fun z => hb (by rw [z]; exact h))
    | some u => rfl
/-- of a later start less is new -/
theorem new_start {H H1 H2 : Hp} (s : Same H H1) : Same (New H1 H2) (New H H2) := fun b o e => by
  obtain ⟨e1, e2⟩ := new_some e
  rw [new_at (s.free e1)]
  exact e2

theorem new_step {cs : List Addr} {H H1 H2 : Hp} (s : Same H H1) (h : ∀ c ∈ cs, H1 c ≠ none) : Same (New H1 H2) (Off cs (New H H2)) := fun b o e => by
  obtain ⟨e1, e2⟩ := new_some e
  rw [off_out (fun z => h b z e1), new_at (s.free e1)]
  exact e2

/-! ### slices of tuples -/
theorem cut_from (xs : List V) (n : Nat) : cutV xs (some (n : Int)) none = xs.drop n := by
  unfold cutV
  rw [HT.sIx_nat, HT.sIx_none]
  by_cases h : n ≤ xs.length
  · rw [Nat.min_eq_left h]
    exact List.take_of_length_le (by rw [List.length_drop]; omega)
  · rw [Nat.min_eq_right (by omega), List.drop_of_length_le (by omega), List.drop_of_length_le (by omega)]
    exact List.take_nil
theorem cut_to (xs : List V) (n : Nat) : cutV xs none (some (n : Int)) = xs.take n := by
  unfold cutV
  rw [HT.sIx_nat, HT.sIx_none]
  rw [List.drop_zero, Nat.sub_zero]
  by_cases h : n ≤ xs.length
  · rw [Nat.min_eq_left h]
  · rw [Nat.min_eq_right (by omega), List.take_of_length_le (by omega), List.take_of_length_le (by omega)]
theorem slA_use {K : PySem.W.Frag} {a : Addr} {xs : List V} {lo hi : Option Int} {H : Hp} {Q : VK} (h : SqT K H a xs) (k : ∀ p H', Same H H' → SqT K H' p (cutV xs lo hi) → Q (.ref p) H') : rSlA K (.ref a) lo hi H Q := by
  refine ⟨a, xs, rfl, h, fun c => ?_, fun _ p hp => ?_⟩
  · have e : cutV xs lo hi = xs := by
      unfold cutV
      rw [c.1, c.2, List.drop_zero, Nat.sub_zero, List.take_length]
    exact k a H (Same.refl _) (by rw [e]; exact h)
  · exact k p _ (same_upd hp) (.inl (.inl upd_same))

theorem slA_new {K : PySem.W.Frag} {a : Addr} {xs : List V} {lo hi : Option Int} {H : Hp} {Q : VK} (h : SqT K H a xs) (hl : (cutV xs lo hi).length ≠ xs.length) (k : ∀ p, H p = none → Q (.ref p) (upd H p (.tup (cutV xs lo hi)))) : rSlA K (.ref a) lo hi H Q := by
  refine ⟨a, xs, rfl, h, fun c => ?_, fun _ p hp => k p hp⟩
  refine absurd ?_ hl
  unfold cutV
  rw [c.1, c.2, List.drop_zero, Nat.sub_zero, List.take_length]

theorem dps_inv {K : PySem.W.Frag} {H : Hp} : ∀ {ns : List Int} {vs : List V}, DpAll K H vs (ns.map PyData.int) → vs = ns.map V.int
  | [], _, h => by cases h; rfl
  | n :: ns, _, h => by
    cases h with
    | cons h1 h2 =>
      cases h1
      rw [dps_inv h2]
      rfl
theorem lay_ints : ∀ ns : List Int, PyData.canLayAll0 (ns.map PyData.int) = true
  | [] => by simp [PyData.canLayAll0]
  | n :: ns => by simp [PyData.canLayAll0, PyData.canLay0, lay_ints ns]
theorem dep_ints : ∀ ns : List Int, PyData.depthAll (ns.map PyData.int) = 0
  | [] => by simp [PyData.depthAll]
  | n :: ns => by simp [PyData.depthAll, PyData.depth, dep_ints ns]
theorem shaped_list {ds : List PyData} (h1 : PyData.canLayAll0 ds = true) (h2 : PyData.depthAll ds ≤ 60) : SeqAt.shaped (.list ds) = true := by
  have h3 : PyData.depth (.list ds) ≤ 64 := by
    simp only [PyData.depth]
    omega
  show (PyData.canLay0 (.list ds) && decide (PyData.depth (.list ds) ≤ 64)) = true
  rw [Bool.and_eq_true]
  exact ⟨by simp only [PyData.canLay0]; exact h1, decide_eq_true h3⟩
theorem shaped_tup {ds : List PyData} (h1 : PyData.canLayAll0 ds = true) (h2 : PyData.depthAll ds ≤ 60) : SeqAt.shaped (.tuple ds) = true := by
  have h3 : PyData.depth (.tuple ds) ≤ 64 := by
    simp only [PyData.depth]
    omega
  show (PyData.canLay0 (.tuple ds) && decide (PyData.depth (.tuple ds) ≤ 64)) = true
  rw [Bool.and_eq_true]
  exact ⟨by simp only [PyData.canLay0]; exact h1, decide_eq_true h3⟩
abbrev Ch := Int × List Int
def rowD (ns : List Int) : PyData := .tuple (ns.map PyData.int)
theorem tup_off {K : PySem.W.Frag} {H : Hp} {p : Addr} {xs : List V} {cs : List Addr} (h : SqT K H p xs) (n : p ∉ cs) : SqT K (Off cs H) p xs := by
  rcases h with (h | ⟨o, h⟩) | h
  · exact .inl (.inl (by rw [off_out n]; exact h))
  · exact .inl (.inr ⟨o, by rw [off_out n]; exact h⟩)
  · exact .inr h
theorem eqv_int (a b : Int) : PyData.eqv (.int a) (.int b) = decide (a = b) := by
  simp [PyData.eqv]
  rfl
theorem eqvAll_ints : ∀ ns ms : List Int, PyData.eqvAll (ns.map PyData.int) (ms.map PyData.int) = decide (ns = ms)
  | [], [] => by simp [PyData.eqvAll]
  | [], m :: ms => by simp [PyData.eqvAll]
  | n :: ns, [] => by simp [PyData.eqvAll]
  | n :: ns, m :: ms => by
    simp only [List.map_cons, PyData.eqvAll, eqvAll_ints ns ms, eqv_int]
    by_cases h : n = m <;> by_cases h2 : ns = ms <;> simp [h, h2]
theorem eqv_ints (ns ms : List Int) : PyData.eqv (.tuple (ns.map PyData.int)) (.tuple (ms.map PyData.int)) = decide (ns = ms) := by
  rw [← eqvAll_ints]
  simp [PyData.eqv]
theorem shaped_ints (ns : List Int) : SeqAt.shaped (.tuple (ns.map PyData.int)) = true := shaped_tup (lay_ints ns) (by rw [dep_ints]; decide)
def isT : HO → Bool
  | .tup _ => true
  | .frz _ (.tup _) => true
  | _ => false
def Fr (cs : List Addr) (H H' : Hp) : Prop := ∀ b o, H b = some o → (b ∉ cs ∨ isT o = true) → H' b = some o
theorem Fr.of {cs : List Addr} {H H' : Hp} (s : Same H H') : Fr cs H H' := fun b o e _ => s b o e
theorem Fr.trans {cs : List Addr} {H H1 H2 : Hp} (h : Fr cs H H1) (g : Fr cs H1 H2) : Fr cs H H2 := fun b o e c => g b o (h b o e c) c
theorem Fr.mono {cs ds : List Addr} {H H' : Hp} (h : Fr cs H H') (s : ∀ c ∈ cs, c ∈ ds) : Fr ds H H' := fun b o e c => h b o e (c.imp (fun z y => z (s b y)) id)
theorem Fr.drop {cs ds : List Addr} {H H' : Hp} (h : Fr ds H H') (s : ∀ c ∈ ds, c ∈ cs ∨ H c = none) : Fr cs H H' := fun b o e c => by
  refine h b o e ?_
  rcases c with c | c
  · by_cases hb : b ∈ ds
    · rcases s b hb with z | z
      · exact absurd z c
      · rw [z] at e; cases e
    · exact .inl hb
  · exact .inr c
theorem Fr.at {cs : List Addr} {H H' : Hp} (h : Fr cs H H') {b : Addr} {o : HO} (e : H b = some o) (n : b ∉ cs) : H' b = some o := h b o e (.inl n)
theorem Fr.tup {cs : List Addr} {H H' : Hp} (h : Fr cs H H') {b : Addr} {xs : List V} (e : H b = some (.tup xs)) : H' b = some (.tup xs) := h b _ e (.inr rfl)
theorem Fr.same {H H' : Hp} (h : Fr [] H H') : Same H H' := fun b o e => h b o e (.inl (by simp))
theorem Fr.put {cs : List Addr} {H : Hp} {c : Addr} {o : HO} (hc : c ∈ cs) (ht : ∀ u, H c = some u → isT u = false) : Fr cs H (upd H c o) := fun b u e z => by
  by_cases hb : b = c
  · subst hb
    rcases z with z | z
    · exact absurd hc z
    · rw [ht _ e] at z; cases z
  · rw [upd_ne hb]
    exact e
theorem Fr.new {cs : List Addr} {H : Hp} {c : Addr} {o : HO} (hc : H c = none) : Fr cs H (upd H c o) := .of (same_upd hc)
theorem Fr.but {cs : List Addr} {H H' : Hp} (s : But cs H H') (ht : ∀ c ∈ cs, ∀ u, H c = some u → isT u = false) : Fr cs H H' := fun b o e z => by
  by_cases hb : b ∈ cs
  · rcases z with z | z
    · exact absurd hb z
    · rw [ht b hb _ e] at z; cases z
  · exact s.at e hb
/-- the tuples of a heap -/
def Tp (H : Hp) : Hp := fun b => match H b with
  | some o => if isT o = true then some o else none
  | none => none
theorem tp_some {H : Hp} {b : Addr} {o : HO} (h : Tp H b = some o) : H b = some o ∧ isT o = true := by
  unfold Tp at h
  split at h
  · split at h
    · rename_i e c
      cases h
      exact ⟨e, c⟩
    · cases h
  · cases h
theorem tp_le {H : Hp} : Same (Tp H) H := fun b o e => (tp_some e).1
theorem tp_at {H : Hp} {b : Addr} {o : HO} (h : H b = some o) (t : isT o = true) : Tp H b = some o := by
  unfold Tp
  rw [h]
  exact if_pos t
theorem Fr.tp {cs : List Addr} {H H' : Hp} (h : Fr cs H H') : Same (Tp H) (Tp H') := fun b o e => by
  obtain ⟨e1, e2⟩ := tp_some e
  exact tp_at (h b o e1 (.inr e2)) e2
theorem sqt_tp {K : PySem.W.Frag} {H : Hp} {a : Addr} {xs : List V} (h : SqT K H a xs) : SqT K (Tp H) a xs := by
  rcases h with (h | ⟨o, h⟩) | h
  · exact .inl (.inl (tp_at h rfl))
  · exact .inl (.inr ⟨o, tp_at h rfl⟩)
  · exact .inr h
theorem row_tp {K : PySem.W.Frag} {H : Hp} {v : V} {ns : List Int} (h : Dp K H v (rowD ns)) : Dp K (Tp H) v (rowD ns) := by
  cases h with
  | tup hs ha => exact .tup (sqt_tp hs) (by rw [dps_inv ha]; exact dps_ints _)
theorem ixN_nn {n j : Nat} (hj : j < n) : ixN n (j : Int) = some j := by
  unfold ixN
  rw [if_pos (Int.natCast_nonneg j), if_pos (by omega), Int.toNat_natCast]
abbrev Tr := Int × V × List Int
def tk (ts : List Tr) : List (Key × V) := ts.map fun t => (Sum.inl t.1, t.2.1)
def tc (ts : List Tr) : List Ch := ts.map fun t => (t.1, t.2.2)
def putT (ts : List Tr) (k : Int) (v : V) (l : List Int) : List Tr := if (ts.any fun t => decide (t.1 = k)) = true then ts.map (fun t => if t.1 = k then (t.1, v, l) else t) else ts ++ [(k, v, l)]
def putC (cs : List Ch) (k : Int) (l : List Int) : List Ch := if (cs.any fun t => decide (t.1 = k)) = true then cs.map (fun t => if t.1 = k then (t.1, l) else t) else cs ++ [(k, l)]
theorem putT_tk (ts : List Tr) (k : Int) (v : V) (l : List Int) : tk (putT ts k v l) = putK (tk ts) (Sum.inl k) v := by
  have e : ((tk ts).any fun kv => decide (kv.1 = Sum.inl k)) = (ts.any fun t => decide (t.1 = k)) := by
    unfold tk
    rw [List.any_map]
    congr 1
    funext t
    simp
  unfold putT putK
  rw [e]
  split
  · unfold tk
    rw [List.map_map, List.map_map]
    apply List.map_congr_left
    intro t _
    by_cases c : t.1 = k <;> simp [c]
  · simp [tk]
theorem putT_tc (ts : List Tr) (k : Int) (v : V) (l : List Int) : tc (putT ts k v l) = putC (tc ts) k l := by
  have e : ((tc ts).any fun kv => decide (kv.1 = k)) = (ts.any fun t => decide (t.1 = k)) := by
    unfold tc
    rw [List.any_map]
    rfl
  unfold putT putC
  rw [e]
  split
  · unfold tc
    rw [List.map_map, List.map_map]
    apply List.map_congr_left
    intro t _
    by_cases c : t.1 = k <;> simp [c]
  · simp [tc]
theorem putT_all {Pr : Tr → Prop} {ts : List Tr} {k : Int} {v : V} {l : List Int} (h : ∀ t ∈ ts, Pr t) (q : Pr (k, v, l)) : ∀ t ∈ putT ts k v l, Pr t := by
  intro t ht
  unfold putT at ht
  split at ht
  · obtain ⟨t', h1, h2⟩ := List.mem_map.mp ht
    by_cases c : t'.1 = k
    · rw [if_pos c, c] at h2
      rw [← h2]
      exact q
    · rw [if_neg c] at h2
      rw [← h2]
      exact h _ h1
  · rcases List.mem_append.mp ht with z | z
    · exact h _ z
    · rw [List.mem_singleton.mp z]
      exact q
theorem putC_keys (cs : List Ch) (k : Int) (l : List Int) : (putC cs k l).map (·.1) = if (cs.any fun t => decide (t.1 = k)) = true then cs.map (·.1) else cs.map (·.1) ++ [k] := by
  unfold putC
  split
  · rw [List.map_map]
    apply List.map_congr_left
    intro t _
    by_cases c : t.1 = k <;> simp [c]
  · simp
theorem putC_nodup {cs : List Ch} {k : Int} {l : List Int} (h : (cs.map (·.1)).Nodup) : ((putC cs k l).map (·.1)).Nodup := by
  rw [putC_keys]
  split
  · exact h
  · rename_i c
    rw [List.nodup_append]
    refine ⟨h, by simp, ?_⟩
    intro a ha b hb e
    rw [List.mem_singleton] at hb
    subst hb
    subst e
    apply c
    obtain ⟨t, h1, h2⟩ := List.mem_map.mp ha
    exact List.any_eq_true.mpr ⟨t, h1, decide_eq_true h2⟩
theorem putC_len (cs : List Ch) (k : Int) (l : List Int) : (putC cs k l).length ≤ cs.length + 1 := by
  unfold putC
  split <;> simp
theorem putC_all {Pr : Ch → Prop} {cs : List Ch} {k : Int} {l : List Int} (h : ∀ t ∈ cs, Pr t) (q : Pr (k, l)) : ∀ t ∈ putC cs k l, Pr t := by
  intro t ht
  unfold putC at ht
  split at ht
  · obtain ⟨t', h1, h2⟩ := List.mem_map.mp ht
    by_cases c : t'.1 = k
    · rw [if_pos c, c] at h2
      rw [← h2]
      exact q
    · rw [if_neg c] at h2
      rw [← h2]
      exact h _ h1
  · rcases List.mem_append.mp ht with z | z
    · exact h _ z
    · rw [List.mem_singleton.mp z]
      exact q
/-- a key's value -/
theorem tk_get : ∀ {ts : List Tr} {t : Tr}, (ts.map (·.1)).Nodup → t ∈ ts → valV (tk ts) (Sum.inl t.1) = some t.2.1
  | x :: ts, t, hn, h => by
    have hn' : x.1 ∉ ts.map (·.1) ∧ (ts.map (·.1)).Nodup := List.nodup_cons.mp hn
    rcases List.mem_cons.mp h with z | z
    · subst z
      exact valV_pos rfl
    · have hne : ¬ x.1 = t.1 := fun e => hn'.1 (by rw [e]; exact List.mem_map.mpr ⟨t, z, rfl⟩)
      show valV ((Sum.inl x.1, x.2.1) :: tk ts) (Sum.inl t.1) = _
      rw [valV_neg (fun e => hne (by injection e))]
      exact tk_get hn'.2 z
theorem tc_keys (ts : List Tr) : (tc ts).map (·.1) = ts.map (·.1) := by
  unfold tc
  rw [List.map_map]
  rfl
theorem zip_get : ∀ {ns : List Str} {vs : List V} {i : Nat} {x : Str} {v : V}, ns.Nodup → ns[i]? = some x → vs[i]? = some v → (ns.zip vs).lookup x = some v
  | [], _, _, _, _, _, h, _ => by simp at h
  | n :: ns, [], _, _, _, _, _, h => by simp at h
  | n :: ns, u :: vs, 0, x, v, _, h1, h2 => by
    have e1 : n = x := Option.some.inj h1
    have e2 : u = v := Option.some.inj h2
    subst e1
    subst e2
    show List.lookup n ((n, u) :: ns.zip vs) = some u
    have e : (n == n) = true := beq_self_eq_true n
    simp only [List.lookup, e]
  | n :: ns, u :: vs, i + 1, x, v, hn, h1, h2 => by
    have hn' := List.nodup_cons.mp hn
    have h1' : ns[i]? = some x := h1
    have hne : (x == n) = false := by
      have : x ≠ n := fun e => hn'.1 (e ▸ List.mem_of_getElem? h1')
      simpa using this
    show List.lookup x ((n, u) :: ns.zip vs) = some v
    simp only [List.lookup, hne]
    exact zip_get hn'.2 h1' h2
theorem zip_put : ∀ {ns : List Str} {vs : List V} {i : Nat} {x : Str} {v : V}, ns.Nodup → ns[i]? = some x → i < vs.length → putF x v (ns.zip vs) = ns.zip (vs.set i v)
  | [], _, _, _, _, _, h, _ => by simp at h
  | n :: ns, [], _, _, _, _, _, h => by simp at h
  | n :: ns, u :: vs, 0, x, v, _, h1, _ => by
    cases (Option.some.inj h1)
    exact if_pos rfl
  | n :: ns, u :: vs, i + 1, x, v, hn, h1, h2 => by
    have hn' := List.nodup_cons.mp hn
    have h1' : ns[i]? = some x := h1
    have hne : ¬ n = x := fun e => hn'.1 (e ▸ List.mem_of_getElem? h1')
    show putF x v ((n, u) :: ns.zip vs) = (n, u) :: ns.zip (vs.set i v)
    rw [← zip_put hn'.2 h1' (Nat.lt_of_succ_lt_succ h2)]
    exact if_neg hne
theorem zip_no : ∀ {ns : List Str} {vs : List V} {x : Str}, x ∉ ns → (ns.zip vs).lookup x = none
  | [], _, _, _ => rfl
  | n :: ns, [], _, _ => rfl
  | n :: ns, u :: vs, x, h => by
    have hne : (x == n) = false := by
      have : x ≠ n := fun e => h (e ▸ List.mem_cons_self)
      simpa using this
    show List.lookup x ((n, u) :: ns.zip vs) = none
    simp only [List.lookup, hne]
    exact zip_no (fun z => h (List.mem_cons_of_mem _ z))
def DcAt (K : PySem.W.Frag) (H : Hp) (h : Addr) (cs : List Ch) : Prop := ∃ ts : List Tr, H h = some (.dK (tk ts)) ∧ tc ts = cs ∧ ∀ t ∈ ts, Dp K (Tp H) t.2.1 (rowD t.2.2)
theorem DcAt.fr {K : PySem.W.Frag} {H H' : Hp} {h : Addr} {cs : List Ch} {xs : List Addr} (A : DcAt K H h cs) (f : Fr xs H H') (n : h ∉ xs) : DcAt K H' h cs := by
  obtain ⟨ts, e, et, ht⟩ := A
  exact ⟨ts, f.at e n, et, fun t z => dp_same f.tp _ _ (ht t z)⟩
theorem zip_add : ∀ {ns : List Str} {vs : List V} {x : Str} {v : V} (i : Nat), ns.Nodup → ns[i]? = some x → vs.length = i → putF x v (ns.zip vs) = ns.zip (vs ++ [v])
  | [], _, _, _, _, _, h, _ => by simp at h
  | n :: ns, [], x, v, i, _, h1, h2 => by
    have hi : i = 0 := h2.symm
    subst hi
    have e1 : n = x := Option.some.inj h1
    subst e1
    rw [List.zip_nil_right]
    show [(n, v)] = (n, v) :: ns.zip []
    rw [List.zip_nil_right]
  | n :: ns, u :: vs, x, v, 0, _, _, h2 => by cases h2
  | n :: ns, u :: vs, x, v, i + 1, hn, h1, h2 => by
    have hn' := List.nodup_cons.mp hn
    have h1' : ns[i]? = some x := h1
    have hne : ¬ n = x := fun e => hn'.1 (e ▸ List.mem_of_getElem? h1')
    show putF x v ((n, u) :: ns.zip vs) = (n, u) :: ns.zip (vs ++ [v])
    rw [← zip_add i hn'.2 h1' (Nat.succ.inj h2)]
    exact if_neg hne
def findC (ds : List Ch) (k : Int) : Option (List Int) := (ds.find? fun d => decide (d.1 = k)).map (·.2)
def allC (cs ds : List Ch) : Bool := cs.all fun c => match findC ds c.1 with
  | none => false
  | some l => decide (c.2 = l)
def eqC (cs ds : List Ch) : Bool := cs.length == ds.length && allC cs ds
theorem find_tk : ∀ (ts : List Tr) (k : Int), (∀ v, valV (tk ts) (Sum.inl k) = some v → ∃ t ∈ ts, t.2.1 = v ∧ findC (tc ts) k = some t.2.2) ∧ (valV (tk ts) (Sum.inl k) = none → findC (tc ts) k = none)
  | [], k => ⟨fun v h => absurd (show (none : Option V) = some v from h) (by simp), fun _ => rfl⟩
  | x :: ts, k => by
    obtain ⟨h1, h2⟩ := find_tk ts k
    by_cases e : x.1 = k
    · have e1 : valV (tk (x :: ts)) (Sum.inl k) = some x.2.1 := valV_pos (p := (Sum.inl x.1, x.2.1)) (by rw [e])
      have e2 : findC (tc (x :: ts)) k = some x.2.2 := by
        unfold findC tc
        rw [List.map_cons, List.find?_cons_of_pos (by simp [e])]
        rfl
      refine ⟨fun v h => ?_, fun h => by rw [e1] at h; cases h⟩
      rw [e1] at h
      exact ⟨x, List.mem_cons_self, Option.some.inj h, e2⟩
    · have e1 : valV (tk (x :: ts)) (Sum.inl k) = valV (tk ts) (Sum.inl k) := valV_neg (p := (Sum.inl x.1, x.2.1)) (fun z => e (by injection z))
      have e2 : findC (tc (x :: ts)) k = findC (tc ts) k := by
        unfold findC tc
        rw [List.map_cons, List.find?_cons_of_neg (by simp [e])]
      refine ⟨fun v h => ?_, fun h => ?_⟩
      · rw [e1] at h
        obtain ⟨t, t1, t2, t3⟩ := h1 v h
        exact ⟨t, List.mem_cons_of_mem _ t1, t2, by rw [e2]; exact t3⟩
      · rw [e1] at h
        rw [e2]
        exact h2 h
section
variable {X : Cx}
theorem hits_of {pins : List (Addr × Obj)} {σ : L2.St} {H : Hp} {s : Shared} {A : Around} (I : Inv X pins σ H s) (hu : A.units + 64 < cLine) {us : List Tr} {ws : List (Key × Value)} (rw' : KV (tk us) ws) (hus : ∀ t ∈ us, Dp X.K H t.2.1 (rowD t.2.2)) :
    ∀ {ts : List Tr} {vs : List (Key × Value)}, KV (tk ts) vs → (∀ t ∈ ts, Dp X.K H t.2.1 (rowD t.2.2)) → PySem.W.KeqHits A.in1 s ws vs (allC (tc ts) (tc us))
  | [], _, r, _ => by
    cases r
    exact .nil
  | t :: ts, vs, r, h => by
    have r' : KV ((Sum.inl t.1, t.2.1) :: tk ts) vs := r
    cases r' with
    | @cons p q ps qs h1 h2 =>
      obtain ⟨k, v⟩ := q
      obtain ⟨hk, hv⟩ := h1
      have hk' : Sum.inl t.1 = k := hk
      subst hk'
      have ih := hits_of I hu rw' hus h2 (fun z hz => h z (List.mem_cons_of_mem _ hz))
      have rv := rw'.val (Sum.inl t.1)
      obtain ⟨f1, f2⟩ := find_tk us t.1
      have ea : allC (tc (t :: ts)) (tc us) = ((match findC (tc us) t.1 with | none => false | some l => decide (t.2.2 = l)) && allC (tc ts) (tc us)) := rfl
      rw [ea]
      cases e1 : valV (tk us) (Sum.inl t.1) with
      | none =>
        rw [e1] at rv
        rw [f2 e1]
        have e2 : valueAt ws (Sum.inl t.1) = none := by
          cases e : valueAt ws (Sum.inl t.1) with
          | none => rfl
          | some y => rw [e] at rv; exact rv.elim
        exact .miss e2
      | some y =>
        rw [e1] at rv
        obtain ⟨u, hu1, hu2, hu3⟩ := f1 y e1
        rw [hu3]
        cases e : valueAt ws (Sum.inl t.1) with
        | none => rw [e] at rv; exact rv.elim
        | some y' =>
          rw [e] at rv
          obtain ⟨as, ra⟩ := Dp.reads I _ _ v (h t List.mem_cons_self) hv
          obtain ⟨bs, rb⟩ := Dp.reads I _ _ y' (hu2 ▸ hus u hu1) rv
          have hq : SeqAt.EqAt A.in1 s v y' (PyData.eqv (rowD t.2.2) (rowD u.2.2)) := SeqAt.eqAt_reads _ _ A.in1 s v y' as bs ra rb (SeqAt.canLay_of_shaped (shaped_ints t.2.2)) (SeqAt.canLay_of_shaped (shaped_ints u.2.2)) (by
            have hd : PyData.depth (rowD t.2.2) = 1 := by
              show PyData.depth (.tuple (t.2.2.map PyData.int)) = 1
              simp only [PyData.depth, dep_ints]
            rw [hd]
            show A.units + 1 + 1 < cLine
            omega)
          have eq0 : PyData.eqv (rowD t.2.2) (rowD u.2.2) = decide (t.2.2 = u.2.2) := eqv_ints _ _
          rw [eq0] at hq
          exact .hit e hq ih
end
theorem scWhole : FnScope ["thing", "low", "high"] ["thing", "low", "high"] (defScope sWhole) := ⟨rfl, rfl, rfl, by decide +kernel, rfl, by decide +kernel, by decide +kernel⟩
def loB (i : Int) : Option Int → Bool
  | none => true
  | some l => decide (l ≤ i)
def hiB (i : Int) : Option Int → Bool
  | none => true
  | some h => decide (i ≤ h)
def wholeB (d : PyData) (lo hi : Option Int) : Bool := match d with
  | .int i => loB i lo && hiB i hi
  | _ => false
def optV : Option Int → V
  | none => .non
  | some i => .int i
def spWhole (K : PySem.W.Frag) : Sp := fun vs H Q _ => ∃ v d lo hi, vs = [v, optV lo, optV hi] ∧ Dp K H v d ∧ Q (.bl (wholeB d lo hi)) H
section
variable {P : Program} {w : World} {K : PySem.W.Frag} {mg : Str → Option Value} {base : Heap}
theorem ok_whole {f : Addr} {fd : FuncData} {kws : List (Str × V)} (F : FunD K "is_whole" "is_whole" (defArgs sWhole) (defBody sWhole) (defScope sWhole) [.non, .non] kws f fd) (mi : mg "isinstance" = none) (mt : mg "int" = none) (mb : mg "bool" = none) :
    FnOk P w K mg base CX0 1 f fd ["thing", "low", "high"] (spWhole K) := by
  refine F.ok scWhole (fun vs H Q E h => ?_) (fun cdv A outer s H vs Q E hr h => ?_)
  · obtain ⟨v, d, lo, hi, rfl, _⟩ := h
    rfl
  · obtain ⟨v, d, lo, hi, rfl, hd, q⟩ := h
    refine ⟨_, pss_cons (ps_if (PW.pt (pw_or (pt_not (pt_val (pe_callB call_isi (by rfl) mi (by decide +kernel) (pa_cons (pv 0) (pa_cons (pe_bltn (v := .ty "int") (by rfl) mt boot_int rfl) pa_nil)))))
        (pw_or1 (pt_val (pe_callB call_isi (by rfl) mi (by decide +kernel) (pa_cons (pv 0) (pa_cons (pe_bltn (v := .ty "bool") (by rfl) mb boot_bool rfl) pa_nil))))))) (pss_one (ps_ret pe_bl)) pss_nil)
      (pss_cons (ps_if (PW.pt (pw_and (pt_cmpR op_notN (pv 1) pe_non (nomark _)) (pw_and1 (pt_cmpR op_lt (pv 0) (pv 1) (nomark _))))) (pss_one (ps_ret pe_bl)) pss_nil)
      (pss_one (ps_ret (pe_or (pe_cmp (pc_isN (pv 2))) (pe_one (pe_cmp (pc_le (pv 0) (pv 2)))))))), ?_⟩
    obtain ⟨t, ty, kt⟩ := isi_int hd
    obtain ⟨t2, ty2, kt2⟩ := isi_bool hd
    refine ⟨_, rfl, _, _, t, _, _, rfl, .ty _, ty, kt, _, rfl, ?_⟩
    cases hd with
    | non => exact iteT (iteT q)
    | str x => exact iteT (iteT q)
    | lst _ _ => exact iteT (iteT q)
    | tup _ _ => exact iteT (iteT q)
    | bl b => exact iteF ⟨_, rfl, _, _, t2, _, _, rfl, .ty _, ty2, kt2, _, rfl, iteT q⟩
    | int i =>
      refine iteF ⟨_, rfl, _, _, t2, _, _, rfl, .ty _, ty2, kt2, _, rfl, iteF ?_⟩
      have fin : ∀ b : Bool, Q (.bl (b && hiB i hi)) H → b = true → tRet (tOrV (tIsN (tVar 2)) (tLe (tVar 0) (tVar 2))) { nx := fun _ H' => Q .non H', rt := Q } [some (V.int i), some (optV lo), some (optV hi)] H := by
        intro b q hb
        subst hb
        cases hi with
        | none => exact ⟨_, rfl, _, rfl, iteT q⟩
        | some h => exact ⟨_, rfl, _, rfl, iteF ⟨_, rfl, _, rfl, i, h, rfl, rfl, q⟩⟩
      cases lo with
      | none => exact ⟨_, rfl, rfl, _, rfl, iteF (iteF (fin true q rfl))⟩
      | some l =>
        refine ⟨_, rfl, rfl, _, rfl, iteT ⟨_, rfl, _, rfl, i, l, rfl, rfl, _, rfl, ite2 (fun hc => ?_) (fun hc => ?_)⟩⟩
        · have hl : i < l := of_decide_eq_true hc
          have e : wholeB (.int i) (some l) hi = false := by
            show (decide (l ≤ i) && _) = false
            rw [decide_eq_false (by omega)]
            rfl
          rw [e] at q
          exact q
        · have hl : ¬ i < l := fun z => hc (decide_eq_true z)
          exact fin (decide (l ≤ i)) q (decide_eq_true (by omega))
theorem tyes_go {σ : L2.St} {H : Hp} {A B : Hp → Prop} (h : A H) : tYes σ H (fun b H3 => if b = true then A H3 else B H3) := by
  show if true = true then A H else B H
  rw [if_pos rfl]
  exact h
end
theorem scNum : FnScope ["script", "index", "cell", "blend"] ["script", "index"] (defScope sNum) := ⟨rfl, rfl, rfl, by decide +kernel, rfl, by decide +kernel, by decide +kernel⟩
theorem scTake : FnScope ["draw", "many"] ["draw", "many"] (defScope sTake) := ⟨rfl, rfl, rfl, by decide +kernel, rfl, by decide +kernel, by decide +kernel⟩
theorem scPick : FnScope ["draw", "items"] ["draw", "items"] (defScope sPick) := ⟨rfl, rfl, rfl, by decide +kernel, rfl, by decide +kernel, by decide +kernel⟩
section
variable {P : Program} {w : World} {K : PySem.W.Frag} {mg : Str → Option Value} {base : Heap}
def spNum (K : PySem.W.Frag) : Sp := fun vs H Q _ => ∃ (a : Addr) (ns : List Int) (i : Int), vs = [.ref a, .int i] ∧ SqL K H a (ns.map V.int) ∧ ns.length ≤ 63 ∧ ∀ r H', Same H H' → Q (.int r) H'
theorem ok_num {f : Addr} {fd : FuncData} (F : Fun K "_law_number" "_law_number" sNum f fd) (mi : mg "int" = none) (ml : mg "len" = none) (ma : mg "abs" = none) : FnOk P w K mg base CX0 1 f fd ["script", "index"] (spNum K) := by
  refine F.ok scNum (fun vs H Q E h => ?_) (fun cdv A outer s H vs Q E hr h => ?_)
  · obtain ⟨a, ns, i, rfl, _⟩ := h
    rfl
  · obtain ⟨a, ns, i, rfl, hS, hlen, k⟩ := h
    refine ⟨_, pss_cons (ps_if (pt_cmpR (op_eqD hr.units) (pv 0) (pe_lst pa_nil) (nomark _))
        (pss_one (ps_ret (pe_callTy call_int1 (by rfl) mi boot_int (pa_cons (pe_op op_mod (pe_op op_add (pe_op op_mul (pv 1) pe_int) pe_int) pe_int) pa_nil)))) pss_nil)
      (pss_cons (ps_set (i := 2) scNum.nd rfl (.inl rfl) (pe_ix ix_list (pv 0) (pe_op op_mod (pv 1) (pe_callB call_len_seq (by rfl) ml boot_len (pa_cons (pv 0) pa_nil))) (fun _ _ => rfl)))
      (pss_cons (ps_if (pt_cmpR op_ge (pe_callB call_abs (by rfl) ma (by decide +kernel) (pa_cons (pv 2) pa_nil)) (pe_op op_pow pe_int pe_int) (nomark _))
        (pss_one (ps_set (i := 2) scNum.nd rfl (.inl rfl) (pe_op op_mod (pv 2) (pe_op op_pow pe_int pe_int)))) pss_nil)
      (pss_cons (ps_set (i := 3) scNum.nd rfl (.inl rfl) (pe_op op_mod (pe_op op_add (pe_op op_mul (pe_op op_add (pv 2) (pe_op op_mul pe_int (pv 1))) pe_int) (pe_op op_mul pe_int (pe_callB call_len_seq (by rfl) ml boot_len (pa_cons (pv 0) pa_nil)))) pe_int))
      (pss_one (ps_ret (pe_callTy call_int1 (by rfl) mi boot_int (pa_cons (pe_op op_mod (pe_op op_add (pe_op op_mul (pe_op op_mod (pe_op op_mul (pv 3) pe_int) pe_int) pe_int) (pv 1)) pe_int) pa_nil))))))), ?_⟩
    refine ⟨_, rfl, Nat.zero_le _, fun p hp => ?_⟩
    have s1 : Same H (upd H p (.lst [])) := same_upd hp
    have hS1 : SqL K (upd H p (.lst [])) a (ns.map V.int) := s1.seq hS
    refine ⟨.list (ns.map PyData.int), .list [], .lst hS1 (dps_ints ns), .lst (SqL.of upd_same) .nil, shaped_list (lay_ints ns) (by rw [dep_ints]; decide), shaped_list (by simp [PyData.canLayAll0]) (by simp [PyData.depthAll]), _, rfl, ?_⟩
    cases ns with
    | nil =>
      have e : PyData.eqv (.list (([] : List Int).map PyData.int)) (.list []) = true := by simp [PyData.eqv, PyData.eqvAll]
      rw [e]
      exact iteT ⟨_, rfl, _, _, rfl, rfl, .inr ⟨by decide, by decide⟩, _, _, rfl, rfl, _, _, rfl, rfl, (by show (0 : Int) < 2147483647; decide), .inl ⟨_, rfl, k _ _ s1⟩⟩
    | cons n0 ns =>
      have e : PyData.eqv (.list ((n0 :: ns).map PyData.int)) (.list []) = false := by simp [PyData.eqv, PyData.eqvAll]
      rw [e]
      have hpos : (0 : Int) < (((n0 :: ns).map V.int).length : Nat) := by simp
      have hj0 : 0 ≤ i % (((n0 :: ns).map V.int).length : Nat) := Int.emod_nonneg _ (by omega)
      have hj1 : i % (((n0 :: ns).map V.int).length : Nat) < (((n0 :: ns).map V.int).length : Nat) := Int.emod_lt_of_pos _ hpos
      obtain ⟨j, ej⟩ : ∃ j : Nat, i % (((n0 :: ns).map V.int).length : Nat) = (j : Int) := ⟨_, (Int.toNat_of_nonneg hj0).symm⟩
      have hjl : j < (n0 :: ns).length := by
        rw [ej, List.length_map] at hj1
        omega
      have hat : atI ((n0 :: ns).map V.int) (i % (((n0 :: ns).map V.int).length : Nat)) = some (.int ((n0 :: ns)[j])) := by
        rw [ej]
        exact atI_nat (by rw [List.getElem?_map, List.getElem?_eq_getElem hjl]; rfl)
      refine iteF ⟨_, rfl, _, rfl, _, rfl, a, _, rfl, .inl hS1, _, _, rfl, rfl, hpos, a, _, _, _, rfl, rfl, hS1, hat, ?_⟩
      refine ⟨_, rfl, _, rfl, _, _, rfl, rfl, ⟨by decide, by decide, by decide⟩, _, _, rfl, rfl, _, rfl, ite2 (fun _ => ?_) (fun _ => ?_)⟩
      · refine ⟨_, rfl, _, _, rfl, rfl, ⟨by decide, by decide, by decide⟩, _, _, rfl, rfl, (by show (0 : Int) < 10 ^ 18; decide), ?_⟩
        refine ⟨_, rfl, _, rfl, _, _, rfl, rfl, .inl ⟨by decide, by decide⟩, _, _, rfl, rfl, _, _, rfl, rfl, .inr ⟨by decide, by decide⟩, _, rfl, a, _, rfl, .inl hS1, _, _, rfl, rfl, .inl ⟨by decide, by decide⟩, _, _, rfl, rfl, _, _, rfl, rfl, (by show (0 : Int) < 2147483647; decide), ?_⟩
        exact ⟨_, rfl, _, _, rfl, rfl, .inr ⟨by decide, by decide⟩, _, _, rfl, rfl, (by show (0 : Int) < 2147483629; decide), _, _, rfl, rfl, .inr ⟨by decide, by decide⟩, _, rfl, _, _, rfl, rfl, _, _, rfl, rfl, (by show (0 : Int) < 2147483587; decide), .inl ⟨_, rfl, k _ _ s1⟩⟩
      · refine ⟨_, rfl, _, rfl, _, _, rfl, rfl, .inl ⟨by decide, by decide⟩, _, _, rfl, rfl, _, _, rfl, rfl, .inr ⟨by decide, by decide⟩, _, rfl, a, _, rfl, .inl hS1, _, _, rfl, rfl, .inl ⟨by decide, by decide⟩, _, _, rfl, rfl, _, _, rfl, rfl, (by show (0 : Int) < 2147483647; decide), ?_⟩
        exact ⟨_, rfl, _, _, rfl, rfl, .inr ⟨by decide, by decide⟩, _, _, rfl, rfl, (by show (0 : Int) < 2147483629; decide), _, _, rfl, rfl, .inr ⟨by decide, by decide⟩, _, rfl, _, _, rfl, rfl, _, _, rfl, rfl, (by show (0 : Int) < 2147483587; decide), .inl ⟨_, rfl, k _ _ s1⟩⟩
/-- draw: the list of the script and how many were drawn -/
def DrawAt (K : PySem.W.Frag) (H : Hp) (a sc : Addr) (ns : List Int) : Prop := (∃ i : Int, H a = some (.lst [.ref sc, .int i])) ∧ SqL K (Off [a] H) sc (ns.map V.int) ∧ ns.length ≤ 63
theorem sql_but {H H' : Hp} {cs : List Addr} {p : Addr} {xs : List V} (h : SqL K H p xs) (s : But cs H H') (n : p ∉ cs) : SqL K H' p xs := by
  rcases h with (h | ⟨o, h⟩) | h
  · exact .inl (.inl (s.at h n))
  · exact .inl (.inr ⟨o, s.at h n⟩)
  · exact .inr h
theorem DrawAt.next {H H' : Hp} {a sc : Addr} {ns : List Int} (D : DrawAt K H a sc ns) (s : But [a] H H') (h : ∃ i : Int, H' a = some (.lst [.ref sc, .int i])) : DrawAt K H' a sc ns :=
  ⟨h, (s.off (fun c z => z)).seq D.2.1, D.2.2⟩
theorem DrawAt.same {H H' : Hp} {a sc : Addr} {ns : List Int} (D : DrawAt K H a sc ns) (s : Same H H') : DrawAt K H' a sc ns :=
  D.next (.of s) (let ⟨i, e⟩ := D.1; ⟨i, s _ _ e⟩)
def spTake (K : PySem.W.Frag) : Sp := fun vs H Q _ => ∃ (a sc : Addr) (ns : List Int) (m : Int), vs = [.ref a, .int m] ∧ DrawAt K H a sc ns ∧ 0 < m ∧ ∀ r H', 0 ≤ r → r < m → But [a] H H' → DrawAt K H' a sc ns → Q (.int r) H'
theorem ok_take {f fN : Addr} {fd fdN : FuncData} (F : Fun K "_law_take" "_law_take" sTake f fd) (GN : FnOk P w K mg base CX0 1 fN fdN ["script", "index"] (spNum K)) (kN : PySem.W.keepIn K (.ref fN) = true) (gN : mg "_law_number" = some (.ref fN))
    (bN : Binds K fdN ["script", "index"] []) (mi : mg "int" = none) : FnOk P w K mg base CX0 2 f fd ["draw", "many"] (spTake K) := by
  refine F.ok scTake (fun vs H Q E h => ?_) (fun cdv A outer s H vs Q E hr h => ?_)
  · obtain ⟨a, sc, ns, m, rfl, _⟩ := h
    rfl
  · obtain ⟨a, sc, ns, m, rfl, D, hm, k⟩ := h
    obtain ⟨⟨i, ha⟩, hS, hlen⟩ := id D
    refine ⟨_, pss_cons (ps_augS (pv 0) pe_int get_list pe_int ip_add set_list)
      (pss_one (ps_ret (pe_op op_mod (pe_callTy call_int1 (by rfl) mi boot_int (pa_cons (pe_call GN hr rfl gN kN bN .nil pass0
        (pa_cons (pe_ix ix_list (pv 0) pe_int (fun _ _ => rfl)) (pa_cons (pe_callTy call_int1 (by rfl) mi boot_int (pa_cons (pe_ix ix_list (pv 0) pe_int (fun _ _ => rfl)) pa_nil)) pa_nil))) pa_nil)) (pv 1)))), ?_⟩
    have sB : ∀ o, But [a] H (upd H a o) := fun o b u z => by
      have hb : b ∉ [a] := fun y => by rw [off_in y] at z; cases z
      rw [off_out hb] at z
      rw [upd_ne (fun y => hb (by rw [y]; simp))]
      exact z
    refine ⟨_, rfl, a, _, 1, .int i, rfl, rfl, SqL.of ha, rfl, i, 1, rfl, rfl, a, _, 1, 1, rfl, rfl, ha, rfl, ?_⟩
    refine ⟨_, rfl, a, _, 0, _, rfl, rfl, SqL.of upd_same, rfl, _, rfl, a, _, 1, _, rfl, rfl, SqL.of upd_same, rfl, .inl ⟨_, rfl, ?_⟩⟩
    refine ⟨sc, ns, i + 1, rfl, (sB _).seq hS, hlen, fun r H' s' => .inl ⟨_, rfl, _, rfl, _, _, rfl, rfl, hm, ?_⟩⟩
    have ha' : H' a = some (.lst [.ref sc, .int (i + 1)]) := s' _ _ upd_same
    have s2 : But [a] H H' := (sB _).trans s'
    exact k _ _ (Int.emod_nonneg _ (by omega)) (Int.emod_lt_of_pos _ hm) s2 (D.next s2 ⟨_, ha'⟩)
def spPick (K : PySem.W.Frag) : Sp := fun vs H Q _ => ∃ (a b sc : Addr) (ns : List Int) (xs : List V), vs = [.ref a, .ref b] ∧ DrawAt K H a sc ns ∧ H b = some (.lst xs) ∧ b ≠ a ∧ xs ≠ [] ∧ ∀ v H', v ∈ xs → But [a] H H' → DrawAt K H' a sc ns → Q v H'
theorem ok_pick {f fT : Addr} {fd fdT : FuncData} (F : Fun K "_law_pick" "_law_pick" sPick f fd) (GT : FnOk P w K mg base CX0 2 fT fdT ["draw", "many"] (spTake K)) (kT : PySem.W.keepIn K (.ref fT) = true) (gT : mg "_law_take" = some (.ref fT))
    (bT : Binds K fdT ["draw", "many"] []) (ml : mg "len" = none) : FnOk P w K mg base CX0 3 f fd ["draw", "items"] (spPick K) := by
  refine F.ok scPick (fun vs H Q E h => ?_) (fun cdv A outer s H vs Q E hr h => ?_)
  · obtain ⟨a, b, sc, ns, xs, rfl, _⟩ := h
    rfl
  · obtain ⟨a, b, sc, ns, xs, rfl, D, hb, hne, hx, k⟩ := h
    refine ⟨_, pss_one (ps_ret (pe_ix ix_list (pv 1) (pe_call GT hr rfl gT kT bT .nil pass0 (pa_cons (pv 0) (pa_cons (pe_callB call_len_seq (by rfl) ml boot_len (pa_cons (pv 1) pa_nil)) pa_nil))) (fun _ _ => rfl))), ?_⟩
    have hpos : 0 < xs.length := List.length_pos_iff.mpr hx
    refine ⟨_, rfl, _, rfl, _, rfl, b, xs, rfl, .inl (SqL.of hb), a, sc, ns, xs.length, rfl, D, by omega, fun r H' h0 h1 s' D' => ?_⟩
    have hb' : H' b = some (.lst xs) := s'.at hb (by simp [hne])
    have hr' : r.toNat < xs.length := by omega
    have er : ((r.toNat : Nat) : Int) = r := by omega
    refine ⟨b, xs, r, xs[r.toNat], rfl, rfl, SqL.of hb', ?_, k _ _ (List.getElem_mem hr') s' D'⟩
    have hat := atI_nat (j := r.toNat) (List.getElem?_eq_getElem hr')
    rw [er] at hat
    exact hat
end
end Pf

set_option Elab.async false
set_option linter.all false
set_option maxRecDepth 100000
set_option maxHeartbeats 4000000
namespace Pf
open PySem PySem.Spec PyProof.Rows L2
/-! ### t * 1 is t -/
theorem tuple_mul1 (l : Addr) (items : Array Value) (n : Nat) (dd : Option Addr) (sl : Array (Option Value)) (u : Tok) :
    Meets (Builtin.«tuple.__mul__» ⟨[.ref l, .int 1 u], []⟩) (fun _ R s => s.heap.get? l = some { cls := .type "tuple", dict := dd, data := .seq items n, slots := sl } ∧ R (.ok (.ret (Value.ref l))) s) :=
  .of_wp fun prog w A R s h => by
    obtain ⟨hp, g, d, tk, os⟩ := s
    obtain ⟨hl, h⟩ := h
    have f1 := AutoSeq1.idx_int
    have c1 : (items.isEmpty || (1 : Int) == 1) = true := by simp
    wp_walk using wpAny_loadPart' hl
    repeat (first
      | (refine wpAny_ite_true (by rw [c1]) ?_; wp_walk using wpAny_loadPart' hl)
      | (refine wpAny_ite_false (by simp) ?_; wp_walk using wpAny_loadPart' hl))
    exact ⟨_, rfl, h⟩
def rRep1 (K : PySem.W.Frag) : R2 := fun x y H Q => ∃ l xs, x = .ref l ∧ y = .int 1 ∧ SqT K H l xs ∧ Q (.ref l) H
theorem op_rep1 {X : Cx} : OpR X (binaryOp .Mult) (rRep1 X.K) := by
  intro pins s σ H x y v u Q I rx ry h
  obtain ⟨l, xs, rfl, rfl, hT, q⟩ := h
  cases rx
  obtain ⟨t, rfl⟩ := ry
  obtain ⟨its, r, ⟨⟨cls, dd, data, sl⟩, ho, hc, n, hd⟩, hs⟩ := I.tuple hT
  simp only at hc hd
  subst hc hd
  exact wpAny_binaryOp_repeat_ref (T := "tuple") (U := "int") (by decide) ⟨_, ho, rfl⟩ (fun s' => typeIs_int s' 1 t) noFill_tuple_mul F.fills_int_mul F.slot_int_rmul repeat_tuple F.slot_int_index.lookup
    (call_meets F.slot_int_rmul (typeIs_int s 1 t) F.entry_int_rmul (F.args_int_rmul_2 _ _) (int_rmul_tuple 1 t l its.toArray n dd sl)
      ⟨ho, rfl, ⟨_, ho, rfl⟩, call_meets F.slot_tuple_mul ⟨_, ho, rfl⟩ F.entry_tuple_mul (F.args_tuple_mul_2 _ _) (tuple_mul1 l its.toArray n dd sl t) ⟨ho, ⟨.ref l, H, I, rfl, q⟩⟩⟩)
structure Df (P : Program) (w : World) (K : PySem.W.Frag) (mg : Str → Option Value) (base : Heap) (CX : CXT) (k : Nat) (x : Str) (ps : List Str) (sp : Sp) (f : Addr) (fd : FuncData) : Prop where
  G : FnOk P w K mg base CX k f fd ps sp
  kp : PySem.W.keepIn K (.ref f) = true
  g : mg x = some (.ref f)
  b : Binds K fd ps []
structure Me (P : Program) (w : World) (K : PySem.W.Frag) (mg : Str → Option Value) (base : Heap) (k : Nat) (C : Addr) (x : Str) (ps : List Str) (sp : Sp) (f : Addr) (fd : FuncData) : Prop where
  G : FnOk P w K mg base CX0 k f fd ps sp
  m : Meth K C x f
  b : Binds K fd ps []
/-! ### shapes of any size -/
structure Sh where
  d : Int
  r : Int
  f : Int
  b : Int
  u : Int
  hd : 2 ≤ d ∧ d ≤ 40
  hr : 1 ≤ r ∧ r ≤ 60
  hf : 1 ≤ f ∧ f ≤ 40
  hb : 1 ≤ b ∧ b ≤ 200
  hu : 1 ≤ u ∧ u ≤ 4
namespace Sh
def fr (S : Sh) : Int := 1 + (S.d + 8 - 1) / 8
def fu (S : Sh) : Int := S.fr + (S.r + 8 - 1) / 8
def ff (S : Sh) : Int := S.fu + (S.u + 8 - 1) / 8
def fb (S : Sh) : Int := S.ff + S.f
def pl (S : Sh) : Int := S.fb + S.b
end Sh
theorem Sh.bd (S : Sh) : 1 ≤ S.fr ∧ S.fr < S.fu ∧ S.fu < S.ff ∧ S.fb = S.ff + S.f ∧ S.pl = S.fb + S.b ∧ 1 ≤ S.b ∧ S.b ≤ 200 ∧ 1 ≤ S.f ∧ S.f ≤ 40 ∧ S.ff ≤ 20 := by
  have h1 := S.hd
  have h2 := S.hr
  have h3 := S.hf
  have h4 := S.hb
  have h5 := S.hu
  unfold Sh.pl Sh.fb Sh.ff Sh.fu Sh.fr
  omega
def ShN : List Str := ["dirs", "rows", "files", "blocks", "users", "first_row", "first_user", "first_file", "first_block", "plates"]
theorem shn_nodup : ShN.Nodup := by decide +kernel
def shV (S : Sh) : List V := [.int S.d, .int S.r, .int S.f, .int S.b, .int S.u, .int S.fr, .int S.fu, .int S.ff, .int S.fb, .int S.pl]
def ShAt (C : Addr) (H : Hp) (s : Addr) (S : Sh) : Prop := ∃ dx, H s = some (.ins C dx (ShN.zip (shV S)))
theorem ShAt.fr {C : Addr} {H H' : Hp} {s : Addr} {b : Sh} {cs : List Addr} (h : ShAt C H s b) (f : Fr cs H H') (n : s ∉ cs) : ShAt C H' s b := let ⟨dx, e⟩ := h; ⟨dx, f.at e n⟩
theorem ShAt.same {C : Addr} {H H' : Hp} {s : Addr} {b : Sh} (h : ShAt C H s b) (f : Same H H') : ShAt C H' s b := let ⟨dx, e⟩ := h; ⟨dx, f _ _ e⟩
structure ShTxt (K : PySem.W.Frag) (C : Addr) : Prop where
  cl : Cls K C
  no : ∀ x ∈ ShN, NoAttr K C x
theorem scPl : FnScope ["cells"] ["cells"] (defScope sPl) := ⟨rfl, rfl, rfl, by decide +kernel, rfl, by decide +kernel, by decide +kernel⟩
theorem scShI : FnScope ["self", "dirs", "rows", "files", "blocks", "users", "number", "word", "low", "high"] ["self", "dirs", "rows", "files", "blocks", "users"] (defScope sShI) := ⟨rfl, rfl, rfl, by decide +kernel, rfl, by decide +kernel, by decide +kernel⟩
structure RTxt (K : PySem.W.Frag) (mg : Str → Option Value) (aR t0 t1 t2 t3 t4 : Addr) : Prop where
  g : mg "RANGES" = some (.ref aR)
  r : ∀ H, SqT K H aR [.ref t0, .ref t1, .ref t2, .ref t3, .ref t4]
  r0 : ∀ H, SqT K H t0 [.str "dirs", .int 2, .int 40]
  r1 : ∀ H, SqT K H t1 [.str "rows", .int 1, .int 60]
  r2 : ∀ H, SqT K H t2 [.str "files", .int 1, .int 40]
  r3 : ∀ H, SqT K H t3 [.str "blocks", .int 1, .int 200]
  r4 : ∀ H, SqT K H t4 [.str "users", .int 1, .int 4]
section
variable {P : Program} {w : World} {K : PySem.W.Frag} {mg : Str → Option Value} {base : Heap} {C : Addr}
def spPl : Sp := fun vs H Q _ => ∃ n : Int, vs = [.int n] ∧ Q (.int ((n + 8 - 1) / 8)) H
theorem ok_pl {f : Addr} {fd : FuncData} (F : Fun K "plates_for" "plates_for" sPl f fd) {tw : Tok} (mW : mg "WIDTH" = some (.int 8 tw)) : FnOk P w K mg base CX0 1 f fd ["cells"] spPl := by
  refine F.ok scPl (fun vs H Q E h => ?_) (fun cdv A outer s H vs Q E hr h => ?_)
  · obtain ⟨n, rfl, _⟩ := h
    rfl
  · obtain ⟨n, rfl, q⟩ := h
    refine ⟨_, pss_one (ps_ret (pe_op op_fdiv (pe_op op_sub (pe_op op_add (pv 0) (pe_glob (v := .int 8) rfl mW ⟨_, rfl⟩)) pe_int) (pe_glob (v := .int 8) rfl mW ⟨_, rfl⟩))), ?_⟩
    exact ⟨_, rfl, _, _, rfl, rfl, _, _, rfl, rfl, _, _, rfl, rfl, ⟨by decide, by decide⟩, q⟩
theorem fld_go {N : List Str} {st dx : Addr} {vs : List V} {x : Str} {v : V} {H1 : Hp} {σ : L2.St} {D : Ends} (cl : Cls K C) (nd : N.Nodup) (i : Nat) (no : NoAttr K C x) (h0 : σ[0]? = some (some (.ref st))) (est : H1 st = some (.ins C dx (N.zip vs))) (hx : N[i]? = some x) (hl : vs.length = i) (hi : i ≤ 100)
    (k : ∀ H2, H2 st = some (.ins C dx (N.zip (vs ++ [v]))) → Fr [st] H1 H2 → D.nx σ H2) :
    ∃ v1, σ[0]? = some (some v1) ∧ ∃ a C' dx' fs, v1 = V.ref a ∧ H1 a = some (.ins C' dx' fs) ∧ Cls K C' ∧ NoAttr K C' x ∧ fs.length < 1000 ∧ D.nx σ (upd H1 a (.ins C' dx' (putF x v fs))) := by
  have hlen : (N.zip vs).length < 1000 := by
    rw [List.length_zip]
    omega
  refine ⟨_, h0, st, C, dx, _, rfl, est, cl, no, hlen, ?_⟩
  rw [zip_add i nd hx hl]
  exact k _ upd_same (.put (by simp) (fun u z => by rw [est] at z; cases z; rfl))
def spShI (C : Addr) : Sp := fun vs H Q _ => ∃ (s dx : Addr) (b : Sh), vs = [.ref s, .int b.d, .int b.r, .int b.f, .int b.b, .int b.u] ∧ H s = some (.ins C dx []) ∧ ∀ H', Fr [s] H H' → ShAt C H' s b → Q .non H'
theorem ok_shI {f fW fP aR t0 t1 t2 t3 t4 : Addr} {fd dW dP : FuncData} {dsW : List Value} (F : Fun K "__init__" "Shape.__init__" sShI f fd) (T : ShTxt K C) (R : RTxt K mg aR t0 t1 t2 t3 t4) (mz : mg "zip" = none)
    (GW : FnOk P w K mg base CX0 1 fW dW ["thing", "low", "high"] (spWhole K)) (kW : PySem.W.keepIn K (.ref fW) = true) (gW : mg "is_whole" = some (.ref fW)) (bW : Binds K dW ["thing", "low", "high"] [])
    (DP : Df P w K mg base CX0 1 "plates_for" ["cells"] spPl fP dP) {td : Tok} (mD : mg "FIRST_DIR_shape" = some (.int 1 td)) : FnOk P w K mg base CX0 2 f fd ["self", "dirs", "rows", "files", "blocks", "users"] (spShI C) := by
  refine F.ok scShI (fun vs H Q E h => ?_) (fun cdv A outer s H vs Q E hr h => ?_)
  · obtain ⟨sa, dx, b, rfl, _⟩ := h
    rfl
  · obtain ⟨sa, dx, b, rfl, es, k⟩ := h
    have nd := scShI.nd
    refine ⟨_, pss_cons (ps_for PassesOwn.never rfl (RZ.pi_zipA (by rfl) mz (pa_cons (pe_tup (pa_cons (pv 1) (pa_cons (pv 2) (pa_cons (pv 3) (pa_cons (pv 4) (pa_cons (pv 5) pa_nil)))))) (pa_cons (pe_glob (v := .ref aR) rfl R.g rfl) pa_nil)))
        (pg_tup rfl (pgs_cons (pg_name (i := 6) nd rfl (.inl rfl)) (pgs_cons (pg_tup rfl (pgs_cons (pg_name (i := 7) nd rfl (.inl rfl)) (pgs_cons (pg_name (i := 8) nd rfl (.inl rfl)) (pgs_cons (pg_name (i := 9) nd rfl (.inl rfl)) pgs_nil)))) pgs_nil)))
        (pss_one (ps_if (pt_not (pt_val (pe_call GW hr rfl gW kW bW .nil pass0 (pa_cons (pv 6) (pa_cons (pv 8) (pa_cons (pv 9) pa_nil)))))) (pss_one ps_never) pss_nil)))
      (pss_cons (ps_fld (pv 0) (pv 1) rfl)
      (pss_cons (ps_fld (pv 0) (pv 2) rfl)
      (pss_cons (ps_fld (pv 0) (pv 3) rfl)
      (pss_cons (ps_fld (pv 0) (pv 4) rfl)
      (pss_cons (ps_fld (pv 0) (pv 5) rfl)
      (pss_cons (ps_fld (pv 0) (pe_op op_add (pe_glob (v := .int 1) rfl mD ⟨_, rfl⟩) (pe_call DP.G hr rfl DP.g DP.kp DP.b .nil pass0 (pa_cons (pv 1) pa_nil))) rfl)
      (pss_cons (ps_fld (pv 0) (pe_op op_add (pe_fld (pv 0) rfl) (pe_call DP.G hr rfl DP.g DP.kp DP.b .nil pass0 (pa_cons (pv 2) pa_nil))) rfl)
      (pss_cons (ps_fld (pv 0) (pe_op op_add (pe_fld (pv 0) rfl) (pe_call DP.G hr rfl DP.g DP.kp DP.b .nil pass0 (pa_cons (pv 5) pa_nil))) rfl)
      (pss_cons (ps_fld (pv 0) (pe_op op_add (pe_fld (pv 0) rfl) (pv 3)) rfl)
      (pss_one (ps_fld (pv 0) (pe_op op_add (pe_fld (pv 0) rfl) (pv 4)) rfl))))))))))), ?_⟩
    refine ⟨_, rfl, _, rfl, _, rfl, _, rfl, _, rfl, (by show 5 ≤ sizeLine; decide), fun u hu => ⟨u, aR, _, _, rfl, .inr ⟨SqT.of upd_same, R.r _, RZ.for_zipT (K := K) (a := u) (b := aR) (xs := [.int b.d, .int b.r, .int b.f, .int b.b, .int b.u]) (ys := [.ref t0, .ref t1, .ref t2, .ref t3, .ref t4]) rfl
      (fun i σ H' => ∃ y6 y7 y8 y9, σ = [some (.ref sa), some (.int b.d), some (.int b.r), some (.int b.f), some (.int b.b), some (.int b.u), y6, y7, y8, y9] ∧ Same (upd H u (.tup [.int b.d, .int b.r, .int b.f, .int b.b, .int b.u])) H') ⟨none, none, none, none, rfl, Same.refl _⟩ (fun i σ H' p => ?_) ?_ ?_⟩⟩⟩
    · obtain ⟨_, _, _, _, _, s1⟩ := p
      exact ⟨SqT.of (s1 _ _ upd_same), R.r _⟩
    · rintro i x y Tt σ H' hx hy ⟨y6, y7, y8, y9, rfl, s1⟩ hT
      obtain ⟨n, t, wd, lo, hi, rfl, rfl, h1, h2, ht⟩ : ∃ (n : Int) (t : Addr) (wd : Str) (lo hi : Int), x = .int n ∧ y = .ref t ∧ lo ≤ n ∧ n ≤ hi ∧ ∀ H, SqT K H t [.str wd, .int lo, .int hi] := by
        match i, hx, hy with
        | 0, hx, hy => cases hx; cases hy; exact ⟨_, _, _, _, _, rfl, rfl, b.hd.1, b.hd.2, R.r0⟩
        | 1, hx, hy => cases hx; cases hy; exact ⟨_, _, _, _, _, rfl, rfl, b.hr.1, b.hr.2, R.r1⟩
        | 2, hx, hy => cases hx; cases hy; exact ⟨_, _, _, _, _, rfl, rfl, b.hf.1, b.hf.2, R.r2⟩
        | 3, hx, hy => cases hx; cases hy; exact ⟨_, _, _, _, _, rfl, rfl, b.hb.1, b.hb.2, R.r3⟩
        | 4, hx, hy => cases hx; cases hy; exact ⟨_, _, _, _, _, rfl, rfl, b.hu.1, b.hu.2, R.r4⟩
        | i + 5, hx, hy => cases hx
      have s2 := Same.trans s1 (same_upd (o := .tup [.int n, .ref t]) hT)
      refine ⟨Tt, _, rfl, SqT.of upd_same, rfl, _, _, rfl, _, _, rfl, t, _, rfl, ht _, rfl, _, _, rfl, _, _, rfl, _, _, rfl, rfl, rfl, ?_⟩
      refine ⟨_, rfl, _, rfl, _, rfl, _, .int n, some lo, some hi, rfl, .int _, ?_⟩
      have ew : wholeB (.int n) (some lo) (some hi) = true := by
        show (decide (lo ≤ n) && decide (n ≤ hi)) = true
        rw [decide_eq_true h1, decide_eq_true h2]
        rfl
      rw [ew]
      exact ⟨_, rfl, iteF ⟨_, _, _, _, rfl, s2⟩⟩
    · rintro σ H1 ⟨y6, y7, y8, y9, rfl, s1⟩
      have sH : Same H H1 := (same_upd hu).trans s1
      have e1 : H1 sa = some (.ins C dx (ShN.zip [])) := sH _ _ es
      refine ⟨_, rfl, fld_go (N := ShN) (vs := []) T.cl shn_nodup 0 (T.no _ (by decide +kernel)) rfl e1 rfl rfl (by decide) fun H2 e2 f2 => ?_⟩
      refine ⟨_, rfl, fld_go (N := ShN) T.cl shn_nodup 1 (T.no _ (by decide +kernel)) rfl e2 rfl rfl (by decide) fun H3 e3 f3 => ?_⟩
      refine ⟨_, rfl, fld_go (N := ShN) T.cl shn_nodup 2 (T.no _ (by decide +kernel)) rfl e3 rfl rfl (by decide) fun H4 e4 f4 => ?_⟩
      refine ⟨_, rfl, fld_go (N := ShN) T.cl shn_nodup 3 (T.no _ (by decide +kernel)) rfl e4 rfl rfl (by decide) fun H5 e5 f5 => ?_⟩
      refine ⟨_, rfl, fld_go (N := ShN) T.cl shn_nodup 4 (T.no _ (by decide +kernel)) rfl e5 rfl rfl (by decide) fun H6 e6 f6 => ?_⟩
      refine ⟨_, rfl, _, rfl, _, _, rfl, rfl, fld_go (N := ShN) T.cl shn_nodup 5 (T.no _ (by decide +kernel)) rfl e6 rfl rfl (by decide) fun H7 e7 f7 => ?_⟩
      refine ⟨_, rfl, sa, C, dx, _, _, rfl, e7, T.cl, T.no _ (by decide +kernel), zip_get (i := 5) shn_nodup rfl rfl, _, rfl, _, rfl, _, _, rfl, rfl, fld_go (N := ShN) T.cl shn_nodup 6 (T.no _ (by decide +kernel)) rfl e7 rfl rfl (by decide) fun H8 e8 f8 => ?_⟩
      refine ⟨_, rfl, sa, C, dx, _, _, rfl, e8, T.cl, T.no _ (by decide +kernel), zip_get (i := 6) shn_nodup rfl rfl, _, rfl, _, rfl, _, _, rfl, rfl, fld_go (N := ShN) T.cl shn_nodup 7 (T.no _ (by decide +kernel)) rfl e8 rfl rfl (by decide) fun H9 e9 f9 => ?_⟩
      refine ⟨_, rfl, sa, C, dx, _, _, rfl, e9, T.cl, T.no _ (by decide +kernel), zip_get (i := 7) shn_nodup rfl rfl, _, rfl, _, _, rfl, rfl, fld_go (N := ShN) T.cl shn_nodup 8 (T.no _ (by decide +kernel)) rfl e9 rfl rfl (by decide) fun Ha ea fa => ?_⟩
      refine ⟨_, rfl, sa, C, dx, _, _, rfl, ea, T.cl, T.no _ (by decide +kernel), zip_get (i := 8) shn_nodup rfl rfl, _, rfl, _, _, rfl, rfl, fld_go (N := ShN) T.cl shn_nodup 9 (T.no _ (by decide +kernel)) rfl ea rfl rfl (by decide) fun Hb eb fb => ?_⟩
      exact k _ ((((((((((Fr.of sH).trans f2).trans f3).trans f4).trans f5).trans f6).trans f7).trans f8).trans f9).trans fa |>.trans fb) ⟨dx, eb⟩
theorem scDc : FnScope ["self", "number"] ["self", "number"] (defScope sDc) := ⟨rfl, rfl, rfl, by decide +kernel, rfl, by decide +kernel, by decide +kernel⟩
theorem scRc : FnScope ["self", "number"] ["self", "number"] (defScope sRc) := ⟨rfl, rfl, rfl, by decide +kernel, rfl, by decide +kernel, by decide +kernel⟩
/-- a cell of a shape: its plate and its place there -/
def spCellN (C : Addr) (first : Sh → Int) : Sp := fun vs H Q _ => ∃ (s : Addr) (b : Sh) (n : Int), vs = [.ref s, .int n] ∧ ShAt C H s b ∧ ∀ t, H t = none → Q (.ref t) (upd H t (.tup [.int (first b + n / 8), .int (n % 8)]))
theorem ok_dcell {f : Addr} {fd : FuncData} (F : Fun K "dir_cell" "Shape.dir_cell" sDc f fd) {tw td : Tok} (mW : mg "WIDTH" = some (.int 8 tw)) (mD : mg "FIRST_DIR_shape" = some (.int 1 td)) : FnOk P w K mg base CX0 1 f fd ["self", "number"] (spCellN C fun _ => 1) := by
  refine F.ok scDc (fun vs H Q E h => ?_) (fun cdv A outer s H vs Q E hr h => ?_)
  · obtain ⟨s, b, n, rfl, _⟩ := h
    rfl
  · obtain ⟨sa, b, n, rfl, S, q⟩ := h
    refine ⟨_, pss_one (ps_ret (pe_tup (pa_cons (pe_op op_add (pe_glob (v := .int 1) rfl mD ⟨_, rfl⟩) (pe_op op_fdiv (pv 1) (pe_glob (v := .int 8) rfl mW ⟨_, rfl⟩))) (pa_cons (pe_op op_mod (pv 1) (pe_glob (v := .int 8) rfl mW ⟨_, rfl⟩)) pa_nil)))), ?_⟩
    exact ⟨_, rfl, _, _, rfl, rfl, ⟨by decide, by decide⟩, _, _, rfl, rfl, _, rfl, _, _, rfl, rfl, (by show (0 : Int) < 8; decide), (by show 2 ≤ sizeLine; decide), q⟩
theorem ok_rcell {f : Addr} {fd : FuncData} (F : Fun K "row_cell" "Shape.row_cell" sRc f fd) (T : ShTxt K C) {tw : Tok} (mW : mg "WIDTH" = some (.int 8 tw)) : FnOk P w K mg base CX0 1 f fd ["self", "number"] (spCellN C Sh.fr) := by
  refine F.ok scRc (fun vs H Q E h => ?_) (fun cdv A outer s H vs Q E hr h => ?_)
  · obtain ⟨s, b, n, rfl, _⟩ := h
    rfl
  · obtain ⟨sa, b, n, rfl, S, q⟩ := h
    refine ⟨_, pss_one (ps_ret (pe_tup (pa_cons (pe_op op_add (pe_fld (pv 0) rfl) (pe_op op_fdiv (pv 1) (pe_glob (v := .int 8) rfl mW ⟨_, rfl⟩))) (pa_cons (pe_op op_mod (pv 1) (pe_glob (v := .int 8) rfl mW ⟨_, rfl⟩)) pa_nil)))), ?_⟩
    obtain ⟨dx, e⟩ := S
    exact ⟨_, rfl, sa, C, dx, _, _, rfl, e, T.cl, T.no _ (by decide +kernel), zip_get (i := 5) shn_nodup rfl rfl, _, rfl, _, _, rfl, rfl, ⟨by decide, by decide⟩, _, _, rfl, rfl, _, rfl, _, _, rfl, rfl, (by show (0 : Int) < 8; decide), (by show 2 ≤ sizeLine; decide), q⟩
end
end Pf

set_option Elab.async false
set_option linter.all false
set_option maxRecDepth 100000
set_option maxHeartbeats 4000000
namespace Pf
open PySem PySem.Spec PyProof.Rows L2
section
variable {J : It} {n : Nat} {G : Hp → Prop} {Y : Nat → Hp → V → Hp → Prop}
theorem dc_it (w : Walk J n G Y) {g : TG} {tt : TT} {tk tv : TE} {vs : List Nat} {σ : L2.St} {H1 : Hp} {D : Addr} {Qd : Hp → Prop} (Pv : Nat → Hp → Prop) (h0 : Pv 0 (upd H1 D (.dK []))) (hG : ∀ i H, i ≤ n → Pv i H → G H)
    (hs : ∀ i x H H', i < n → Pv i H → Y i H x H' → g x (wipe σ vs) H' fun σ2 H2 => wipe σ2 vs = wipe σ vs ∧ tt σ2 H2 fun b H3 =>
      if b = true then tk σ2 H3 fun y H4 => tv σ2 H4 fun z H5 => ∃ kvs k, y = kV k ∧ H5 D = some (.dK kvs) ∧ kvs.length < sizeLine ∧ Pv (i + 1) (upd H5 D (.dK (putK kvs k z))) else Pv (i + 1) H3) (hd : ∀ H, Pv n H → Qd H) :
    ∃ W : Nat → Nat → Hp → Prop, (∃ m, W 0 m (upd H1 D (.dK []))) ∧ ∀ i m H, W i m H →
      (J.stop i H ∧ Qd H) ∨ (J.go i H ∧ ∃ Nx : Hp → Prop, (∀ H', Nx H' → ∃ m', m' < m ∧ W (i + 1) m' H') ∧ ∀ x H', J.yld i H x H' → g x (wipe σ vs) H' fun σ2 H2 => wipe σ2 vs = wipe σ vs ∧ tt σ2 H2 fun b H3 =>
        if b = true then tk σ2 H3 fun y H4 => tv σ2 H4 fun z H5 => ∃ kvs k, y = kV k ∧ H5 D = some (.dK kvs) ∧ kvs.length < sizeLine ∧ Nx (upd H5 D (.dK (putK kvs k z))) else Nx H3) := by
  refine ⟨fun i m H => m = n - i ∧ i ≤ n ∧ Pv i H, ⟨n, by simp, Nat.zero_le _, h0⟩, ?_⟩
  rintro i m H ⟨rfl, hi, p⟩
  have q := hG i H hi p
  by_cases hlt : i < n
  · refine .inr ⟨w.goes i H hlt q, Pv (i + 1), fun H' p' => ⟨n - (i + 1), by omega, rfl, hlt, p'⟩, fun x H' y => hs i x H H' hlt p (w.yields i H x H' hlt q y)⟩
  · have e : i = n := by omega
    subst e
    exact .inl ⟨w.stops H q, hd H p⟩
end
section
variable {X : Cx}
/-- name = {k: v for ..} on one line, the name a local -/
theorem ps_setDc {i : Nat} {y : Str} {py : Pos} {kx vx tg iter : Expr} {ifs : List Expr} {scope : Scope} {own : List (Str × Nat)} {pos spos : Pos} {wi : TI} {g : TG} {tt : TT} {tk tv : TE} (hc : X.calm = true) (hN : X.N.Nodup) (hy : X.N[i]? = some y) (hyl : X.env.scope.names.lookup y = some .local)
    (hsw : swapsWith (.DictComp kx vx [⟨tg, iter, ifs, 0⟩] scope pos) (some (.Name y py)) spos.line X.env = pure true) (hi : PI X tg iter wi) (ok : BlkOk X.N X.env.scope scope own)
    (hg : ∀ (s : Shared) (H : Hp) (C : Addr) (cl : List (Str × Addr)) (fp : List Addr), PG (X.blk s H scope (compEnvC scope cl C X.env) fp) tg g) (ht : ∀ (s : Shared) (H : Hp) (C : Addr) (cl : List (Str × Addr)) (fp : List Addr), PTs (X.blk s H scope (compEnvC scope cl C X.env) fp) ifs tt)
    (hk : ∀ (s : Shared) (H : Hp) (C : Addr) (cl : List (Str × Addr)) (fp : List Addr), PE (X.blk s H scope (compEnvC scope cl C X.env) fp) kx tk)
    (he : ∀ (s : Shared) (H : Hp) (C : Addr) (cl : List (Str × Addr)) (fp : List Addr), PE (X.blk s H scope (compEnvC scope cl C X.env) fp) vx tv) (hs : ∀ x, foldedSetIterable iter X.env x = pure x := by intro _; rfl) :
    PS X (.Assign [.Name y py] (.DictComp kx vx [⟨tg, iter, ifs, 0⟩] scope pos) spos) (tAsg (tDc wi g tt tk tv (own.map (·.2))) (gName i)) := by
  refine ⟨fun pins s σ H D I h => ?_⟩
  rw [exec_Assign_Name_used _ _ _ _ hsw]
  refine wpAny_bind (wpAny_standAt (wpAny_bind ?_))
  show wpAny _ X.A (do let _ ← comprehension (.DictComp kx vx [⟨tg, iter, ifs, 0⟩] scope pos) scope X.env (firstIterPos [⟨tg, iter, ifs, 0⟩] pos) newDict false (eval iter X.env) (some (assign (.Name y py) X.env))) _ _ s
  have h : tDc wi g tt tk tv (own.map (·.2)) σ H (fun x H1 => gName i x σ H1 D.nx) := h
  refine wpAny_bind (thn (dc_core (Qf := fun _ s' => SP X pins D .next s') hc hN I hi ok hg ht hk he hs h fun L C s' m H' I' q hn f => ?_) fun _ s' hq => wpAny_pure (wpAny_pure hq))
  show wpAny _ _ (assign (.Name y py) X.env (.ref L)) _ _ _
  refine wpAny_assign_Name (store_ok2 (v := V.ref L) I' hN hy (.inl hyl) rfl (fun s2 I2 ⟨a, sb, ha⟩ => ?_) (.inr hyl))
  obtain ⟨f0, f1, f2, f3, f4, f5⟩ := f
  have haC : C ≠ a := by
    rcases ha with z | z
    · rw [z]; exact f1
    · exact fun e => f4 y a z e.symm
  refine ⟨m, hn.sameBut sb haC, fun h3 sb3 => ?_⟩
  exact ⟨_, H', I2.turned (t' := s2.toks) (fun b o hb e => (sb3.2 b hb).trans e) f0 f1 f3 f4 f5, q⟩
theorem swD_true {kx vx : Expr} {gs : List Comprehension} {scope : Scope} {pos py : Pos} {y : Str} {l : Nat} {env : Env} (hk : env.scope.kind = .function) (hy : env.scope.names.lookup y = some .local) (hl : (py.line == pos.line) = true)
    (ha : (scope.names.any fun (n, k) => n == y && (k == .local || k == .cell)) = false) : swapsWith (.DictComp kx vx gs scope pos) (some (.Name y py)) l env = pure true := by
  have ky : env.kindOf y = some .local := hy
  have hb : env.blockKind = .function := by unfold Env.blockKind; rw [hk]; rfl
  unfold swapsWith
  simp only [hb, ky, ha, Expr.pos, hl]
  rfl
end
/-! ### homes: eight whole numbers on each of n plates -/
theorem find_putC (cs : List Ch) (k : Int) (l : List Int) (p : Int) : findC (putC cs k l) p = if p = k then some l else findC cs p := by
  have aux : ∀ cs : List Ch, (cs.any fun t => decide (t.1 = k)) = false → findC cs k = none := by
    intro cs
    induction cs with
    | nil => intro _; rfl
    | cons c cs ih =>
      intro h
      rw [List.any_cons, Bool.or_eq_false_iff] at h
      have hne : ¬ c.1 = k := of_decide_eq_false h.1
      have := ih h.2
      unfold findC at this ⊢
      rw [List.find?_cons_of_neg (by simp [hne])]
      exact this
  have app : ∀ (cs ds : List Ch) (q : Int), findC (cs ++ ds) q = match findC cs q with | some l => some l | none => findC ds q := by
    intro cs ds q
    unfold findC
    rw [List.find?_append]
    cases cs.find? (fun d => decide (d.1 = q)) <;> rfl
  have mp : ∀ cs : List Ch, findC (cs.map (fun t => if t.1 = k then (t.1, l) else t)) p = if p = k then (findC cs k).map (fun _ => l) else findC cs p := by
    intro cs
    induction cs with
    | nil =>
      by_cases e : p = k
      · rw [if_pos e]; rfl
      · rw [if_neg e]; rfl
    | cons c cs ih =>
      unfold findC at ih ⊢
      by_cases hc : c.1 = k
      · rw [List.map_cons, if_pos hc]
        by_cases e : p = k
        · rw [if_pos e, List.find?_cons_of_pos (by simp [hc, e]), List.find?_cons_of_pos (by simp [hc])]
          rfl
        · rw [if_neg e] at ih ⊢
          rw [List.find?_cons_of_neg (by simp [hc]; exact fun z => e z.symm), List.find?_cons_of_neg (by simp [hc]; exact fun z => e z.symm)]
          exact ih
      · rw [List.map_cons, if_neg hc]
        by_cases e : p = k
        · rw [if_pos e] at ih ⊢
          rw [List.find?_cons_of_neg (by simp [e, hc]), List.find?_cons_of_neg (by simp [hc])]
          exact ih
        · rw [if_neg e] at ih ⊢
          by_cases hp : c.1 = p
          · rw [List.find?_cons_of_pos (by simp [hp]), List.find?_cons_of_pos (by simp [hp])]
          · rw [List.find?_cons_of_neg (by simp [hp]), List.find?_cons_of_neg (by simp [hp])]
            exact ih
  unfold putC
  split
  · rename_i h
    rw [mp]
    by_cases e : p = k
    · rw [if_pos e, if_pos e]
      cases e2 : findC cs k with
      | some x => rfl
      | none =>
        exfalso
        obtain ⟨t, ht, hk⟩ := List.any_eq_true.mp h
        have hk' : t.1 = k := of_decide_eq_true hk
        unfold findC at e2
        cases e3 : cs.find? (fun d => decide (d.1 = k)) with
        | some x => rw [e3] at e2; cases e2
        | none =>
          have := List.find?_eq_none.mp e3 t ht
          simp [hk'] at this
    · rw [if_neg e, if_neg e]
  · rename_i h
    have h' := aux cs (Bool.eq_false_iff.mpr h)
    rw [app]
    by_cases e : p = k
    · rw [if_pos e, e, h']
      unfold findC
      rw [List.find?_cons_of_pos (by simp)]
      rfl
    · rw [if_neg e]
      cases findC cs p with
      | some x => rfl
      | none =>
        unfold findC
        rw [List.find?_cons_of_neg (by simp; exact fun z => e z.symm)]
        rfl
structure HW (cs : List Ch) (n : Int) : Prop where
  nd : (cs.map (·.1)).Nodup
  at' : ∀ p : Int, 0 ≤ p → p < n → ∃ l, findC cs p = some l ∧ l.length = 8
  len : (cs.length : Int) ≤ n
theorem HW.put {cs : List Ch} {n k : Int} {l : List Int} (h : HW cs n) (hl : l.length = 8) (h0 : 0 ≤ k) (h1 : k < n) : HW (putC cs k l) n := by
  obtain ⟨l0, e0, _⟩ := h.at' k h0 h1
  refine ⟨putC_nodup h.nd, fun p p0 p1 => ?_, ?_⟩
  · rw [find_putC]
    by_cases e : p = k
    · rw [if_pos e]; exact ⟨l, rfl, hl⟩
    · rw [if_neg e]; exact h.at' p p0 p1
  · have hany : (cs.any fun t => decide (t.1 = k)) = true := by
      unfold findC at e0
      cases e3 : cs.find? (fun d => decide (d.1 = k)) with
      | none => rw [e3] at e0; cases e0
      | some x => exact List.any_eq_true.mpr ⟨x, List.mem_of_find?_eq_some e3, by have := List.find?_some e3; exact this⟩
    have : (putC cs k l).length = cs.length := by
      unfold putC
      rw [if_pos hany, List.length_map]
    rw [this]
    exact h.len
theorem HW.more {cs : List Ch} {k : Nat} {l : List Int} (h : HW cs k) (hl : l.length = 8) : HW (putC cs k l) ((k + 1 : Nat) : Int) := by
  refine ⟨putC_nodup h.nd, fun p p0 p1 => ?_, ?_⟩
  · rw [find_putC]
    by_cases e : p = k
    · rw [if_pos e]; exact ⟨l, rfl, hl⟩
    · rw [if_neg e]; exact h.at' p p0 (by omega)
  · have := putC_len cs k l
    have := h.len
    omega
def HoAt (K : PySem.W.Frag) (H : Hp) (h : Addr) (cs : List Ch) (n : Int) : Prop := DcAt K H h cs ∧ HW cs n
theorem HoAt.fr {K : PySem.W.Frag} {H H' : Hp} {h : Addr} {cs : List Ch} {n : Int} {xs : List Addr} (A : HoAt K H h cs n) (f : Fr xs H H') (nn : h ∉ xs) : HoAt K H' h cs n := ⟨A.1.fr f nn, A.2⟩
theorem HoAt.same {K : PySem.W.Frag} {H H' : Hp} {h : Addr} {cs : List Ch} {n : Int} (A : HoAt K H h cs n) (f : Same H H') : HoAt K H' h cs n := A.fr (xs := []) (.of f) (by simp)
def rowAt (cs : List Ch) (p : Int) : List Int := (findC cs p).getD []
/-- a plate of a home, read -/
theorem HoAt.get {K : PySem.W.Frag} {H : Hp} {h : Addr} {cs : List Ch} {n : Int} (A : HoAt K H h cs n) {p : Int} (h0 : 0 ≤ p) (h1 : p < n) :
    ∃ kvs a, H h = some (.dK kvs) ∧ valV kvs (Sum.inl p) = some (.ref a) ∧ SqT K H a ((rowAt cs p).map V.int) ∧ (rowAt cs p).length = 8 := by
  obtain ⟨⟨ts, e1, e2, e3⟩, hw⟩ := A
  obtain ⟨l, f1, f2⟩ := hw.at' p h0 h1
  obtain ⟨g1, g2⟩ := find_tk ts p
  cases ev : valV (tk ts) (Sum.inl p) with
  | none =>
    have := g2 ev
    rw [e2, f1] at this
    cases this
  | some v =>
    obtain ⟨t, ht, hv, hf⟩ := g1 v ev
    rw [e2, f1] at hf
    have hl : l = t.2.2 := Option.some.inj hf
    have hd := e3 t ht
    have er : rowAt cs p = t.2.2 := by
      unfold rowAt
      rw [f1, ← hl]
      rfl
    rw [er]
    have hd' : Dp K (Tp H) v (.tuple (t.2.2.map PyData.int)) := hv ▸ hd
    cases hd' with
    | tup hs ha =>
      refine ⟨_, _, e1, ev, ?_, by rw [← hl]; exact f2⟩
      rw [dps_inv ha] at hs
      exact same_seqT tp_le hs
end Pf

set_option Elab.async false
set_option linter.all false
set_option maxRecDepth 100000
set_option maxHeartbeats 4000000
namespace Pf
open PySem PySem.Spec PyProof.Rows L2
def cellN (cs : List Ch) (p : Int) (s : Nat) : Int := (rowAt cs p).getD s 0
theorem row_at {l : List Int} {s : Nat} (h : s < l.length) : atI (l.map V.int) (s : Int) = some (.int (l.getD s 0)) := by
  refine atI_nat ?_
  rw [List.getElem?_map, List.getElem?_eq_getElem h, List.getD_eq_getElem?_getD, List.getElem?_eq_getElem h]
  rfl
theorem tp_same {H H' : Hp} (s : Same H H') : Same (Tp H) (Tp H') := (Fr.of (cs := []) s).tp
theorem tp_put {H : Hp} {c : Addr} {o : HO} (ht : ∀ u, H c = some u → isT u = false) : Same (Tp H) (Tp (upd H c o)) := (Fr.put (cs := [c]) (by simp) ht).tp
/-- of the heap the told tuples alone -/
def Tu (H : Hp) : Hp := fun b => match H b with
  | some (.tup xs) => some (.tup xs)
  | _ => none
theorem tu_at {H : Hp} {b : Addr} {xs : List V} (h : H b = some (.tup xs)) : Tu H b = some (.tup xs) := by unfold Tu; rw [h]
theorem tu_some {H : Hp} {b : Addr} {o : HO} (h : Tu H b = some o) : ∃ xs, o = .tup xs ∧ H b = some (.tup xs) := by
  unfold Tu at h
  split at h
  · rename_i xs e
    exact ⟨xs, (Option.some.inj h).symm, e⟩
  · cases h
theorem tu_of {H H' : Hp} (s : Same (Tp H) (Tp H')) : Same (Tu H) (Tu H') := fun b o e => by
  obtain ⟨xs, rfl, h⟩ := tu_some e
  exact tu_at (tp_some (s _ _ (tp_at h rfl))).1
def LsU (H : Hp) (D : Addr) (ds : List PyData) : Prop := ∃ us, H D = some (.lst us) ∧ DpAll [] (Tu H) us ds
theorem LsU.same {H H' : Hp} {D : Addr} {ds : List PyData} (A : LsU H D ds) (s : Same H H') : LsU H' D ds := by
  obtain ⟨us, e, h⟩ := A
  exact ⟨us, s _ _ e, dps_same (tu_of (tp_same s)) _ _ h⟩
theorem LsU.push {H : Hp} {D : Addr} {us : List V} {ds : List PyData} {y : V} {d : PyData} (e : H D = some (.lst us)) (h : DpAll [] (Tu H) us ds) (hy : Dp [] (Tu H) y d) : LsU (upd H D (.lst (us ++ [y]))) D (ds ++ [d]) := by
  have tb : Same (Tu H) (Tu (upd H D (.lst (us ++ [y])))) := tu_of (tp_put fun o q => by rw [e] at q; cases q; rfl)
  exact ⟨_, upd_same, dps_app (dps_same tb _ _ h) (.cons (dp_same tb _ _ hy) .nil)⟩
/-- a told int that is no constant -/
theorem dp_int {H : Hp} {v : V} {i : Int} (h : Dp [] H v (.int i)) : v = .int i := by
  cases h
  rfl
theorem sqt_nil {H : Hp} {a : Addr} {xs : List V} (h : SqT [] (Tu H) a xs) : H a = some (.tup xs) := by
  rcases h with h | ⟨o, its, n, hk, _⟩
  · rcases h with h | ⟨od, h⟩
    · obtain ⟨ys, e, h⟩ := tu_some h
      cases e
      exact h
    · obtain ⟨ys, e, _⟩ := tu_some h
      cases e
  · cases hk
end Pf

set_option Elab.async false
set_option linter.all false
set_option maxRecDepth 100000
set_option maxHeartbeats 4000000
namespace Pf
open PySem PySem.Spec PyProof.Rows L2
theorem scCa : FnScope ["home", "place", "plate", "at"] ["home", "place"] (defScope sCa) := ⟨rfl, rfl, rfl, by decide +kernel, rfl, by decide +kernel, by decide +kernel⟩
theorem scDa : FnScope ["home", "shape", "number", "value"] ["home", "shape", "number"] (defScope sDa) := ⟨rfl, rfl, rfl, by decide +kernel, rfl, by decide +kernel, by decide +kernel⟩
theorem scRa : FnScope ["home", "shape", "number", "value", "place"] ["home", "shape", "number"] (defScope sRa) := ⟨rfl, rfl, rfl, by decide +kernel, rfl, by decide +kernel, by decide +kernel⟩
theorem scIsD : FnScope ["home", "shape", "number"] ["home", "shape", "number"] (defScope sIsD) := ⟨rfl, rfl, rfl, by decide +kernel, rfl, by decide +kernel, by decide +kernel⟩
/-- what the cell of a directory, of a row tells -/
def NM' : Int := 475254
def dirN (cs : List Ch) (b : Sh) (n : Int) : Option (Int × Int) := if 2 ≤ n ∧ n < b.d then (if cellN cs (1 + n / 8) (n % 8).toNat < 1 then none else some ((cellN cs (1 + n / 8) (n % 8).toNat - 1) / 475254, (cellN cs (1 + n / 8) (n % 8).toNat - 1) % 475254)) else none
def rowN (cs : List Ch) (b : Sh) (n : Int) : Option (Int × Int × Int) := if 0 ≤ n ∧ n < b.r then (if cellN cs (b.fr + n / 8) (n % 8).toNat < 1 then none else
  some ((cellN cs (b.fr + n / 8) (n % 8).toNat - 1) / b.f / 475254, (cellN cs (b.fr + n / 8) (n % 8).toNat - 1) / b.f % 475254, (cellN cs (b.fr + n / 8) (n % 8).toNat - 1) % b.f)) else none
section
variable {P : Program} {w : World} {K : PySem.W.Frag} {mg : Str → Option Value} {base : Heap} {C : Addr}
def spCa (K : PySem.W.Frag) (C : Addr) : Sp := fun vs H Q _ => ∃ (h t : Addr) (p : Int) (s : Nat) (b : Sh) (cs : List Ch), vs = [.ref h, .ref t] ∧ 0 ≤ p ∧ p < b.pl ∧ s < 8 ∧ HoAt K H h cs b.pl ∧ SqT K H t [.int p, .int ((s : Nat) : Int)] ∧ Q (.int (cellN cs p s)) H
theorem ok_ca {f : Addr} {fd : FuncData} (F : Fun K "cell_at" "cell_at" sCa f fd) : FnOk P w K mg base CX0 1 f fd ["home", "place"] (spCa K C) := by
  refine F.ok scCa (fun vs H Q E h => ?_) (fun cdv A outer s H vs Q E hr h => ?_)
  · obtain ⟨h, t, p, s, b, cs, rfl, _⟩ := h
    rfl
  · obtain ⟨h, t, p, s, b, cs, rfl, p0, p1, hs, Ho, hT, q⟩ := h
    have nd := scCa.nd
    refine ⟨_, pss_cons (ps_asg (pv 1) (pg_tup rfl (pgs_cons (pg_name (i := 2) nd rfl (.inl rfl)) (pgs_cons (pg_name (i := 3) nd rfl (.inl rfl)) pgs_nil))))
      (pss_one (ps_ret (pe_ix ix_tup (pe_dget (hu_of hr) (pv 0) (pv 2) (fun _ _ => rfl)) (pv 3) (fun _ _ => rfl)))), ?_⟩
    obtain ⟨kvs, ra, e1, e2, e3, e4⟩ := Ho.get p0 p1
    exact ⟨_, rfl, t, _, rfl, hT, rfl, _, _, rfl, _, _, rfl, rfl, _, rfl, _, rfl, h, .ref ra, rfl, (by rw [← e2]; exact DGet.k (k := Sum.inl p) e1), _, rfl, ra, _, _, _, rfl, rfl, e3, row_at (by omega), q⟩
def spDa (K : PySem.W.Frag) (C : Addr) : Sp := fun vs H Q _ => ∃ (h sa : Addr) (n : Int) (b : Sh) (cs : List Ch), vs = [.ref h, .ref sa, .int n] ∧ ShAt C H sa b ∧ HoAt K H h cs b.pl ∧
  (dirN cs b n = none → ∀ H', Same H H' → Q .non H') ∧ (∀ x, dirN cs b n = some x → ∀ H' t, Same H H' → H t = none → H' t = some (.tup [.int x.1, .int x.2]) → Q (.ref t) H')
theorem ok_dirAt {f fC fD : Addr} {fd dC dD : FuncData} (F : Fun K "dir_at" "dir_at" sDa f fd) (T : ShTxt K C) (DC : Df P w K mg base CX0 1 "cell_at" ["home", "place"] (spCa K C) fC dC) (MD : Me P w K mg base 1 C "dir_cell" ["self", "number"] (spCellN C fun _ => 1) fD dD)
    {t1 t2 : Tok} (m2 : mg "FIRST_DIR_readings" = some (.int 2 t1)) (mN : mg "NAMES" = some (.int 475254 t2)) : FnOk P w K mg base CX0 2 f fd ["home", "shape", "number"] (spDa K C) := by
  refine F.ok scDa (fun vs H Q E h => ?_) (fun cdv A outer s H vs Q E hr h => ?_)
  · obtain ⟨h, sa, n, b, cs, rfl, _⟩ := h
    rfl
  · obtain ⟨h, sa, n, b, cs, rfl, S, Ho, k0, k1⟩ := h
    have nd := scDa.nd
    refine ⟨_, pss_cons (ps_if (pt_not (pt_chain op_le op_lt (pe_glob (v := .int 2) rfl m2 ⟨_, rfl⟩) (pv 2) (pe_fld (pv 1) rfl))) (pss_one (ps_ret pe_non)) pss_nil)
      (pss_cons (ps_set (i := 3) nd rfl (.inl rfl) (pe_call DC.G hr rfl DC.g DC.kp DC.b .nil pass0 (pa_cons (pv 0) (pa_cons (pe_meth (pv 1) T.cl MD.m MD.G hr MD.b .nil pass0 (pa_cons (pv 2) pa_nil)) pa_nil))))
      (pss_cons (ps_if (pt_cmpR op_lt (pv 3) pe_int (nomark _)) (pss_one (ps_ret pe_non)) pss_nil)
      (pss_one (ps_ret (pe_tup (pa_cons (pe_op op_fdiv (pe_op op_sub (pv 3) pe_int) (pe_glob (v := .int 475254) rfl mN ⟨_, rfl⟩)) (pa_cons (pe_op op_mod (pe_op op_sub (pv 3) pe_int) (pe_glob (v := .int 475254) rfl mN ⟨_, rfl⟩)) pa_nil))))))), ?_⟩
    obtain ⟨dx, es⟩ := id S
    refine ⟨_, rfl, _, _, rfl, rfl, _, rfl, ite2 (fun c => ?_) (fun c => ?_)⟩
    · have c1 : 2 ≤ n := of_decide_eq_true c
      refine ⟨_, rfl, sa, C, dx, _, _, rfl, es, T.cl, T.no _ (by decide +kernel), zip_get (i := 0) shn_nodup rfl rfl, _, _, rfl, rfl, _, rfl, ?_⟩
      by_cases c2 : n < b.d
      · rw [decide_eq_true c2]
        refine iteF ?_
        have hd := b.hd
        have hbd := b.bd
        have hp0 : 0 ≤ 1 + n / 8 := by omega
        have hp1 : 1 + n / 8 < b.pl := by
          have : 1 + n / 8 ≤ b.fr := by unfold Sh.fr; omega
          omega
        have es8 : n % 8 = (((n % 8).toNat : Nat) : Int) := by omega
        refine ⟨_, rfl, _, rfl, sa, dx, _, rfl, es, zip_no (by decide +kernel), _, rfl, sa, b, n, rfl, S, fun t ht => ?_⟩
        have s1 := same_upd (o := .tup [.int (1 + n / 8), .int (n % 8)]) ht
        refine ⟨h, t, 1 + n / 8, (n % 8).toNat, b, cs, rfl, hp0, hp1, by omega, Ho.same s1, SqT.of (by rw [upd_same, ← es8]), ?_⟩
        refine ⟨_, rfl, _, _, rfl, rfl, _, rfl, ite2 (fun c3 => ?_) (fun c3 => ?_)⟩
        · have c3' : cellN cs (1 + n / 8) (n % 8).toNat < 1 := of_decide_eq_true c3
          refine k0 ?_ _ s1
          unfold dirN
          rw [if_pos ⟨c1, c2⟩, if_pos c3']
        · have c3' : ¬ cellN cs (1 + n / 8) (n % 8).toNat < 1 := fun z => c3 (decide_eq_true z)
          refine ⟨_, rfl, _, _, rfl, rfl, _, _, rfl, rfl, ⟨by decide, by decide⟩, _, rfl, _, _, rfl, rfl, _, _, rfl, rfl, (by show (0 : Int) < 475254; decide), (by show 2 ≤ sizeLine; decide), fun u hu => ?_⟩
          have hd9 : dirN cs b n = some ((cellN cs (1 + n / 8) (n % 8).toNat - 1) / 475254, (cellN cs (1 + n / 8) (n % 8).toNat - 1) % 475254) := by
            unfold dirN
            rw [if_pos ⟨c1, c2⟩, if_neg c3']
          exact k1 _ hd9 _ u (s1.trans (same_upd hu)) (s1.free hu) upd_same
      · rw [decide_eq_false c2]
        refine iteT (k0 ?_ _ (Same.refl _))
        unfold dirN
        rw [if_neg fun z => c2 z.2]
    · have c1 : ¬ 2 ≤ n := fun z => c (decide_eq_true z)
      refine ⟨_, rfl, iteT (k0 ?_ _ (Same.refl _))⟩
      unfold dirN
      rw [if_neg fun z => c1 z.1]
end
end Pf

set_option Elab.async false
set_option linter.all false
set_option maxRecDepth 100000
set_option maxHeartbeats 4000000
namespace Pf
open PySem PySem.Spec PyProof.Rows L2
section
variable {P : Program} {w : World} {K : PySem.W.Frag} {mg : Str → Option Value} {base : Heap} {C : Addr}
def spRa (K : PySem.W.Frag) (C : Addr) : Sp := fun vs H Q _ => ∃ (h sa : Addr) (n : Int) (b : Sh) (cs : List Ch), vs = [.ref h, .ref sa, .int n] ∧ ShAt C H sa b ∧ HoAt K H h cs b.pl ∧
  (rowN cs b n = none → ∀ H', Same H H' → Q .non H') ∧ (∀ x, rowN cs b n = some x → ∀ H' t, Same H H' → H t = none → H' t = some (.tup [.int x.1, .int x.2.1, .int x.2.2]) → Q (.ref t) H')
theorem ok_rowAt {f fC fD : Addr} {fd dC dD : FuncData} (F : Fun K "row_at" "row_at" sRa f fd) (T : ShTxt K C) (DC : Df P w K mg base CX0 1 "cell_at" ["home", "place"] (spCa K C) fC dC) (MD : Me P w K mg base 1 C "row_cell" ["self", "number"] (spCellN C Sh.fr) fD dD)
    {t2 : Tok} (mN : mg "NAMES" = some (.int 475254 t2)) : FnOk P w K mg base CX0 2 f fd ["home", "shape", "number"] (spRa K C) := by
  refine F.ok scRa (fun vs H Q E h => ?_) (fun cdv A outer s H vs Q E hr h => ?_)
  · obtain ⟨h, sa, n, b, cs, rfl, _⟩ := h
    rfl
  · obtain ⟨h, sa, n, b, cs, rfl, S, Ho, k0, k1⟩ := h
    have nd := scRa.nd
    refine ⟨_, pss_cons (ps_if (pt_not (pt_chain op_le op_lt pe_int (pv 2) (pe_fld (pv 1) rfl))) (pss_one (ps_ret pe_non)) pss_nil)
      (pss_cons (ps_set (i := 3) nd rfl (.inl rfl) (pe_call DC.G hr rfl DC.g DC.kp DC.b .nil pass0 (pa_cons (pv 0) (pa_cons (pe_meth (pv 1) T.cl MD.m MD.G hr MD.b .nil pass0 (pa_cons (pv 2) pa_nil)) pa_nil))))
      (pss_cons (ps_if (pt_cmpR op_lt (pv 3) pe_int (nomark _)) (pss_one (ps_ret pe_non)) pss_nil)
      (pss_cons (ps_set (i := 4) nd rfl (.inl rfl) (pe_op op_fdiv (pe_op op_sub (pv 3) pe_int) (pe_fld (pv 1) rfl)))
      (pss_one (ps_ret (pe_tup (pa_cons (pe_op op_fdiv (pv 4) (pe_glob (v := .int 475254) rfl mN ⟨_, rfl⟩)) (pa_cons (pe_op op_mod (pv 4) (pe_glob (v := .int 475254) rfl mN ⟨_, rfl⟩)) (pa_cons (pe_op op_mod (pe_op op_sub (pv 3) pe_int) (pe_fld (pv 1) rfl)) pa_nil))))))))), ?_⟩
    obtain ⟨dx, es⟩ := id S
    have hbf := b.hf
    refine ⟨_, rfl, _, _, rfl, rfl, _, rfl, ite2 (fun c => ?_) (fun c => ?_)⟩
    · have c1 : 0 ≤ n := of_decide_eq_true c
      refine ⟨_, rfl, sa, C, dx, _, _, rfl, es, T.cl, T.no _ (by decide +kernel), zip_get (i := 1) shn_nodup rfl rfl, _, _, rfl, rfl, _, rfl, ?_⟩
      by_cases c2 : n < b.r
      · rw [decide_eq_true c2]
        refine iteF ?_
        have hd := b.hr
        have hbd := b.bd
        have hp0 : 0 ≤ b.fr + n / 8 := by omega
        have hp1 : b.fr + n / 8 < b.pl := by
          have : b.fr + n / 8 ≤ b.fu := by unfold Sh.fu; omega
          omega
        have es8 : n % 8 = (((n % 8).toNat : Nat) : Int) := by omega
        refine ⟨_, rfl, _, rfl, sa, dx, _, rfl, es, zip_no (by decide +kernel), _, rfl, sa, b, n, rfl, S, fun t ht => ?_⟩
        have s1 := same_upd (o := .tup [.int (b.fr + n / 8), .int (n % 8)]) ht
        have es1 := s1 _ _ es
        refine ⟨h, t, b.fr + n / 8, (n % 8).toNat, b, cs, rfl, hp0, hp1, by omega, Ho.same s1, SqT.of (by rw [upd_same, ← es8]), ?_⟩
        refine ⟨_, rfl, _, _, rfl, rfl, _, rfl, ite2 (fun c3 => ?_) (fun c3 => ?_)⟩
        · have c3' : cellN cs (b.fr + n / 8) (n % 8).toNat < 1 := of_decide_eq_true c3
          refine k0 ?_ _ s1
          unfold rowN
          rw [if_pos ⟨c1, c2⟩, if_pos c3']
        · have c3' : ¬ cellN cs (b.fr + n / 8) (n % 8).toNat < 1 := fun z => c3 (decide_eq_true z)
          refine ⟨_, rfl, _, _, rfl, rfl, _, rfl, sa, C, dx, _, _, rfl, es1, T.cl, T.no _ (by decide +kernel), zip_get (i := 2) shn_nodup rfl rfl, _, _, rfl, rfl, ⟨by show (0 : Int) < b.f; omega, by show b.f < 1073741824; omega⟩, ?_⟩
          refine ⟨_, rfl, _, _, rfl, rfl, ⟨by decide, by decide⟩, _, rfl, _, _, rfl, rfl, (by show (0 : Int) < 475254; decide), _, rfl, _, _, rfl, rfl, _, rfl, sa, C, dx, _, _, rfl, es1, T.cl, T.no _ (by decide +kernel), zip_get (i := 2) shn_nodup rfl rfl, _, _, rfl, rfl, (by show (0 : Int) < b.f; omega), (by show 3 ≤ sizeLine; decide), fun u hu => ?_⟩
          have hd9 : rowN cs b n = some ((cellN cs (b.fr + n / 8) (n % 8).toNat - 1) / b.f / 475254, (cellN cs (b.fr + n / 8) (n % 8).toNat - 1) / b.f % 475254, (cellN cs (b.fr + n / 8) (n % 8).toNat - 1) % b.f) := by
            unfold rowN
            rw [if_pos ⟨c1, c2⟩, if_neg c3']
          exact k1 _ hd9 _ u (s1.trans (same_upd hu)) (s1.free hu) upd_same
      · rw [decide_eq_false c2]
        refine iteT (k0 ?_ _ (Same.refl _))
        unfold rowN
        rw [if_neg fun z => c2 z.2]
    · have c1 : ¬ 0 ≤ n := fun z => c (decide_eq_true z)
      refine ⟨_, rfl, iteT (k0 ?_ _ (Same.refl _))⟩
      unfold rowN
      rw [if_neg fun z => c1 z.1]
def spIsD (K : PySem.W.Frag) (C : Addr) : Sp := fun vs H Q _ => ∃ (h sa : Addr) (n : Int) (b : Sh) (cs : List Ch), vs = [.ref h, .ref sa, .int n] ∧ ShAt C H sa b ∧ HoAt K H h cs b.pl ∧ ∀ H', Same H H' → Q (.bl (decide (n = 0 ∨ n = 1) || (dirN cs b n).isSome)) H'
theorem ok_isD {f fD : Addr} {fd dD : FuncData} (F : Fun K "is_dir" "is_dir" sIsD f fd) (DD : Df P w K mg base CX0 2 "dir_at" ["home", "shape", "number"] (spDa K C) fD dD) {t1 t2 : Tok} (m0 : mg "ROOT" = some (.int 0 t1)) (m1 : mg "FOUND" = some (.int 1 t2)) : FnOk P w K mg base CX0 3 f fd ["home", "shape", "number"] (spIsD K C) := by
  refine F.ok scIsD (fun vs H Q E h => ?_) (fun cdv A outer s H vs Q E hr h => ?_)
  · obtain ⟨h, sa, n, b, cs, rfl, _⟩ := h
    rfl
  · obtain ⟨h, sa, n, b, cs, rfl, S, Ho, k⟩ := h
    refine ⟨_, pss_one (ps_ret (pe_or (pe_cmpR op_in_seq (pv 2) (pe_tup (pa_cons (pe_glob (v := .int 0) rfl m0 ⟨_, rfl⟩) (pa_cons (pe_glob (v := .int 1) rfl m1 ⟨_, rfl⟩) pa_nil))) (by rfl)) (pe_one (pe_cmpR op_notN (pe_call DD.G hr rfl DD.g DD.kp DD.b .nil pass0 (pa_cons (pv 0) (pa_cons (pv 1) (pa_cons (pv 2) pa_nil)))) pe_non (nomark _))))), ?_⟩
    refine ⟨_, rfl, (by show 2 ≤ sizeLine; decide), fun t ht => ?_⟩
    have s1 := same_upd (o := .tup [V.int 0, V.int 1]) ht
    have hin : inV (V.int n) [V.int 0, V.int 1] = decide (n = 0 ∨ n = 1) := by
      have h0 : ∀ m : Int, eqV (V.int m) (V.int n) = decide (m = n) := fun m => by
        show (m == n) = _
        by_cases c : m = n
        · rw [decide_eq_true c]; exact beq_iff_eq.mpr c
        · rw [decide_eq_false c]; exact beq_eq_false_iff_ne.mpr c
      show (eqV (V.int 0) (V.int n) || (eqV (V.int 1) (V.int n) || false)) = _
      rw [h0, h0, Bool.or_false]
      by_cases c0 : (0 : Int) = n
      · rw [decide_eq_true c0, Bool.true_or, decide_eq_true (.inl c0.symm)]
      · by_cases c1 : (1 : Int) = n
        · rw [decide_eq_true c1, Bool.or_true, decide_eq_true (.inr c1.symm)]
        · rw [decide_eq_false c0, decide_eq_false c1, decide_eq_false (fun z => z.elim (fun y => c0 y.symm) fun y => c1 y.symm)]
          rfl
    refine ⟨t, _, rfl, .inr (SqT.of upd_same), rfl, rfl, ?_⟩
    show ∃ k, V.bl (if false = true then !inV (V.int n) [V.int 0, V.int 1] else inV (V.int n) [V.int 0, V.int 1]) = V.bl k ∧ _
    rw [if_neg (by decide), hin]
    refine ⟨_, rfl, ?_⟩
    cases e : decide (n = 0 ∨ n = 1) with
    | true =>
      refine iteT ?_
      have h := k _ s1
      rw [e, Bool.true_or] at h
      exact h
    | false =>
      refine iteF ⟨_, rfl, _, rfl, _, rfl, h, sa, n, b, cs, rfl, S.same s1, Ho.same s1, fun hno H' s2 => ⟨rfl, ?_⟩, fun x hx H' u s2 hu eu => ⟨rfl, ?_⟩⟩
      · have h := k _ (s1.trans s2)
        rw [e, hno] at h
        exact h
      · have h := k _ (s1.trans s2)
        rw [e, hx] at h
        exact h
end
end Pf

set_option Elab.async false
set_option linter.all false
set_option maxRecDepth 100000
set_option maxHeartbeats 4000000
namespace Pf
open PySem PySem.Spec PyProof.Rows L2
/-! ### units and their places, as data -/
abbrev Un := Bool × Int
def uS (u : Un) : Str := if u.1 = true then "dir" else "row"
def uD (u : Un) : PyData := .tuple [.str (uS u), .int u.2]
def uV (u : Un) : List V := [.str (uS u), .int u.2]
def uK (u : Un) : List Key := [Sum.inr (uS u), Sum.inl u.2]
theorem uS_inj {a b : Bool} {m n : Int} (h : uS (a, m) = uS (b, n)) : a = b := by
  have hne : ("dir" : Str) ≠ "row" := by decide +kernel
  cases a <;> cases b
  · rfl
  · exact absurd h.symm hne
  · exact absurd h hne
  · rfl
theorem uK_inj {u v : Un} (h : uK u = uK v) : u = v := by
  obtain ⟨a, m⟩ := u
  obtain ⟨b, n⟩ := v
  unfold uK at h
  obtain ⟨h1, h2⟩ := List.cons.inj h
  have e1 : a = b := uS_inj (m := m) (n := n) (Sum.inr.inj h1)
  have e2 : m = n := Sum.inl.inj (List.cons.inj h2).1
  rw [e1, e2]
theorem uK_V (u : Un) : (uK u).map kV = uV u := rfl
def plD : Option (Int × Int) → PyData
  | none => .none
  | some x => .tuple [.int x.1, .int x.2]
def placeN (cs : List Ch) (b : Sh) (u : Un) : Option (Int × Int) := if u.1 = true then dirN cs b u.2 else (rowN cs b u.2).map fun x => (x.1, x.2.1)
def dUn (b : Sh) : List Un := (List.range (b.d - 2).toNat).map fun i => (true, 2 + ((i : Nat) : Int))
def rUn (b : Sh) : List Un := (List.range b.r.toNat).map fun i => (false, ((i : Nat) : Int))
def unitsL (b : Sh) : List Un := dUn b ++ rUn b
/-! ### told data, taken apart -/
section
variable {H : Hp} {v : V} {ds : List PyData}
theorem dpu_tup (h : Dp [] (Tu H) v (.tuple ds)) : ∃ t vs, v = .ref t ∧ H t = some (.tup vs) ∧ DpAll [] (Tu H) vs ds := by
  generalize hd : PyData.tuple ds = d at h
  cases h with
  | tup hs ha =>
    injection hd with hd
    subst hd
    exact ⟨_, _, rfl, sqt_nil hs, ha⟩
  | _ => cases hd
theorem dpu_str {x : Str} (h : Dp [] (Tu H) v (.str x)) : v = .str x := by
  cases h
  rfl
theorem dpu_non (h : Dp [] (Tu H) v .none) : v = .non := by
  cases h
  rfl
theorem dpu_two {d1 d2 : PyData} (h : Dp [] (Tu H) v (.tuple [d1, d2])) : ∃ t v1 v2, v = .ref t ∧ H t = some (.tup [v1, v2]) ∧ Dp [] (Tu H) v1 d1 ∧ Dp [] (Tu H) v2 d2 := by
  obtain ⟨t, vs, e, et, ha⟩ := dpu_tup h
  cases ha with
  | cons a1 a2 =>
    cases a2 with
    | cons b1 b2 =>
      cases b2
      exact ⟨t, _, _, e, et, a1, b1⟩
theorem dpu_un {u : Un} (h : Dp [] (Tu H) v (uD u)) : ∃ t, v = .ref t ∧ H t = some (.tup (uV u)) := by
  obtain ⟨t, v1, v2, e, et, h1, h2⟩ := dpu_two h
  rw [dpu_str h1, dp_int h2] at et
  exact ⟨t, e, et⟩
theorem dpu_ofun {u : Un} {t : Addr} (h : H t = some (.tup (uV u))) : Dp [] (Tu H) (.ref t) (uD u) := .tup (SqT.of (tu_at h)) (.cons (.str _) (.cons (.int _) .nil))
theorem dpu_place {x : Int × Int} (h : Dp [] (Tu H) v (plD (some x))) : ∃ t, v = .ref t ∧ H t = some (.tup [.int x.1, .int x.2]) := by
  obtain ⟨t, v1, v2, e, et, h1, h2⟩ := dpu_two h
  rw [dp_int h1, dp_int h2] at et
  exact ⟨t, e, et⟩
theorem dpu_ofplace {x : Int × Int} {t : Addr} (h : H t = some (.tup [.int x.1, .int x.2])) : Dp [] (Tu H) (.ref t) (plD (some x)) := .tup (SqT.of (tu_at h)) (.cons (.int _) (.cons (.int _) .nil))
theorem dpu_at {α : Type} {f : α → PyData} {l : List α} {us : List V} {i : Nat} (h : DpAll [] (Tu H) us (l.map f)) (e : us[i]? = some v) : ∃ x, l[i]? = some x ∧ Dp [] (Tu H) v (f x) := by
  obtain ⟨d, e1, e2⟩ := dps_get h e
  rw [List.getElem?_map] at e1
  cases hx : l[i]? with
  | none => rw [hx] at e1; cases e1
  | some x =>
    rw [hx] at e1
    have e1' : f x = d := Option.some.inj e1
    exact ⟨x, rfl, by rw [e1']; exact e2⟩
end
theorem tu_same {H H' : Hp} (s : Same H H') : Same (Tu H) (Tu H') := tu_of (tp_same s)
theorem tu_fr {cs : List Addr} {H H' : Hp} (f : Fr cs H H') : Same (Tu H) (Tu H') := tu_of f.tp
theorem LsU.fr {cs : List Addr} {H H' : Hp} {D : Addr} {ds : List PyData} (A : LsU H D ds) (f : Fr cs H H') (n : D ∉ cs) : LsU H' D ds := by
  obtain ⟨us, e, h⟩ := A
  exact ⟨us, f.at e n, dps_same (tu_fr f) _ _ h⟩
theorem LsU.len {H : Hp} {D : Addr} {ds : List PyData} {us : List V} (A : LsU H D ds) (e : H D = some (.lst us)) : us.length = ds.length := by
  obtain ⟨us', e', h⟩ := A
  rw [e] at e'
  cases e'
  exact dps_len h
/-- as data for == -/
theorem LsU.dp {K : PySem.W.Frag} {H : Hp} {D : Addr} {ds : List PyData} (A : LsU H D ds) : ∃ us, H D = some (.lst us) := let ⟨us, e, _⟩ := A; ⟨us, e⟩
theorem dUn_len (b : Sh) : (dUn b).length = (b.d - 2).toNat := by unfold dUn; rw [List.length_map, List.length_range]
theorem rUn_len (b : Sh) : (rUn b).length = b.r.toNat := by unfold rUn; rw [List.length_map, List.length_range]
theorem units_len (b : Sh) : (unitsL b).length ≤ 98 := by
  have := b.hd
  have := b.hr
  unfold unitsL
  rw [List.length_append, dUn_len, rUn_len]
  omega
/-- comprehensions that tell one tuple for each number -/
theorem push_un {H H' H2 : Hp} {D t : Addr} {us : List V} {l : List Un} {u : Un} (eD : H D = some (.lst us)) (dD : DpAll [] (Tu H) us (l.map uD)) (s : Same H H2) (et : H2 t = some (.tup (uV u))) :
    LsU (upd H2 D (.lst (us ++ [.ref t]))) D ((l ++ [u]).map uD) := by
  rw [List.map_append]
  exact LsU.push (s _ _ eD) (dps_same (tu_same s) _ _ dD) (dpu_ofun et)
abbrev NAu : List Str := ["shape", "dirs", "number"]
abbrev NLu : List Str := ["shape", "number"]
abbrev NPo : List Str := ["shape", "home", "unit", "kind", "number", "row"]
theorem scAu : FnScope NAu ["shape"] (defScope sAu) := ⟨rfl, rfl, rfl, by decide +kernel, rfl, by decide +kernel, by decide +kernel⟩
theorem scLun : FnScope NLu ["shape"] (defScope sLun) := ⟨rfl, rfl, rfl, by decide +kernel, rfl, by decide +kernel, by decide +kernel⟩
theorem scPo : FnScope NPo ["shape", "home", "unit"] (defScope sPo) := ⟨rfl, rfl, rfl, by decide +kernel, rfl, by decide +kernel, by decide +kernel⟩
section
variable {P : Program} {w : World} {K : PySem.W.Frag} {mg : Str → Option Value} {base : Heap} {C : Addr}
def spAu (C : Addr) : Sp := fun vs H Q _ => ∃ (sa : Addr) (b : Sh), vs = [.ref sa] ∧ ShAt C H sa b ∧ ∀ L H', Same H H' → H L = none → LsU H' L ((unitsL b).map uD) → Q (.ref L) H'
theorem ok_au {f : Addr} {fd : FuncData} (F : Fun K "all_units" "all_units" sAu f fd) (T : ShTxt K C) {t1 t2 t3 : Tok} (mD : mg "DIR" = some (.str "dir" t1)) (mR : mg "ROW" = some (.str "row" t2)) (m2 : mg "FIRST_DIR_readings" = some (.int 2 t3)) (mr : mg "range" = none) : FnOk P w K mg base CX0 1 f fd ["shape"] (spAu C) := by
  refine F.ok scAu (fun vs H Q E h => ?_) (fun cdv A outer s H vs Q E hr h => ?_)
  · obtain ⟨sa, b, rfl, _⟩ := h
    rfl
  · obtain ⟨sa, b, rfl, S, k⟩ := h
    have nd := scAu.nd
    refine ⟨_, pss_cons (ps_setLc (i := 1) (own := [("number", 2)]) (g := gName 2) (tt := tYes) (te := tTup (tCons (tC (.str "dir")) (tCons (tVar 2) tNil))) (by rfl) nd rfl rfl (sw_true rfl rfl rfl (by decide +kernel)) (pi_range2 (by rfl) mr (pa_cons (pe_glob (v := .int 2) rfl m2 ⟨_, rfl⟩) (pa_cons (pe_fld (pv 0) rfl) pa_nil))) (blkOk_by (N := NAu) (sc := defScope sAu) (by decide +kernel))
          (fun _ _ _ _ _ => pg_name (i := 2) nd rfl (.inl rfl)) (fun _ _ _ _ _ => pts_nil) (fun _ _ _ _ _ => pe_tup (pa_cons (pe_glob (v := .str "dir") rfl mD ⟨_, rfl⟩) (pa_cons (pv 2) pa_nil))))
      (pss_one (ps_ret (pe_op op_cat (pv 1) (pe_lc (own := [("number", 2)]) (g := gName 2) (tt := tYes) (te := tTup (tCons (tC (.str "row")) (tCons (tVar 2) tNil))) rfl nd (pi_range1 (by rfl) mr (pa_cons (pe_fld (pv 0) rfl) pa_nil)) (blkOk_by (N := NAu) (sc := defScope sAu) (by decide +kernel))
          (fun _ _ _ _ _ => pg_name (i := 2) nd rfl (.inl rfl)) (fun _ _ _ _ _ => pts_nil) (fun _ _ _ _ _ => pe_tup (pa_cons (pe_glob (v := .str "row") rfl mR ⟨_, rfl⟩) (pa_cons (pv 2) pa_nil))))))), ?_⟩
    have hd := b.hd
    have hrr := b.hr
    obtain ⟨dx, es⟩ := id S
    refine ⟨_, rfl, sa, C, dx, _, _, rfl, es, T.cl, T.no _ (by decide +kernel), zip_get (i := 0) shn_nodup rfl rfl, 2, b.d, rfl, by omega, fun D hD => lc_range (lo := 2) (n := (b.d - 2).toNat) (fun i H' => Same H H' ∧ LsU H' D (((List.range i).map fun i => ((true, 2 + ((i : Nat) : Int)) : Un)).map uD)) ⟨same_upd hD, ⟨[], upd_same, .nil⟩⟩ ?_ ?_⟩
    · rintro i H' hi ⟨s1, us, eD, dD⟩
      have hul := dps_len dD
      rw [List.length_map, List.length_map, List.length_range] at hul
      refine ⟨rfl, tyes_go ⟨_, rfl, (by show 2 ≤ sizeLine; decide), fun t ht => ?_⟩⟩
      have s2 := same_upd (o := .tup [V.str "dir", .int (2 + ((i : Nat) : Int))]) ht
      refine ⟨us, s2 _ _ eD, by rw [sizeLine_eq]; omega, fun c o e => by rw [upd_ne (ne_of_none e hD)]; exact s2 _ _ (s1 _ _ e), ?_⟩
      rw [List.range_succ, List.map_append]
      exact push_un (H' := H') eD dD s2 upd_same
    rintro H1 ⟨s1, us1, e1, d1⟩
    obtain ⟨dx1, es1⟩ := S.same s1
    refine ⟨_, rfl, _, rfl, sa, C, dx1, _, _, rfl, es1, T.cl, T.no _ (by decide +kernel), zip_get (i := 1) shn_nodup rfl rfl, b.r, rfl, by omega, by omega, fun D2 hD2 => lc_range (lo := 0) (n := b.r.toNat) (fun i H' => Same H1 H' ∧ LsU H' D2 (((List.range i).map fun i => ((false, ((i : Nat) : Int)) : Un)).map uD)) ⟨same_upd hD2, ⟨[], upd_same, .nil⟩⟩ ?_ ?_⟩
    · rintro i H' hi ⟨s2, us, eD, dD⟩
      have hul := dps_len dD
      rw [List.length_map, List.length_map, List.length_range] at hul
      have ez : (0 : Int) + ((i : Nat) : Int) = ((i : Nat) : Int) := by omega
      refine ⟨rfl, tyes_go ⟨_, rfl, (by show 2 ≤ sizeLine; decide), fun t ht => ?_⟩⟩
      have s3 := same_upd (o := .tup [V.str "row", .int (0 + ((i : Nat) : Int))]) ht
      refine ⟨us, s3 _ _ eD, by rw [sizeLine_eq]; omega, fun c o e => by rw [upd_ne (ne_of_none e hD2)]; exact s3 _ _ (s2 _ _ e), ?_⟩
      rw [List.range_succ, List.map_append]
      exact push_un (H' := H') eD dD s3 (by rw [upd_same, ez]; rfl)
    rintro H2 ⟨s2, us2, e2, d2⟩
    have l1 := dps_len d1
    have l2 := dps_len d2
    rw [List.length_map, List.length_map, List.length_range] at l1 l2
    refine ⟨D, D2, _, _, rfl, rfl, s2 _ _ e1, e2, by rw [sizeLine_eq]; omega, fun p hp => ?_⟩
    have s3 := same_upd (o := .lst (us1 ++ us2)) hp
    refine k p _ ((s1.trans s2).trans s3) ((s1.trans s2).free hp) ⟨_, upd_same, ?_⟩
    unfold unitsL dUn rUn
    rw [List.map_append]
    exact dps_app (dps_same (tu_same (s2.trans s3)) _ _ d1) (dps_same (tu_same s3) _ _ d2)
theorem ok_lun {f : Addr} {fd : FuncData} (F : Fun K "_law_units" "_law_units" sLun f fd) (T : ShTxt K C) (mr : mg "range" = none) : FnOk P w K mg base CX0 1 f fd ["shape"] (spAu C) := by
  refine F.ok scLun (fun vs H Q E h => ?_) (fun cdv A outer s H vs Q E hr h => ?_)
  · obtain ⟨sa, b, rfl, _⟩ := h
    rfl
  · obtain ⟨sa, b, rfl, S, k⟩ := h
    have nd := scLun.nd
    refine ⟨_, pss_one (ps_ret (pe_op op_cat (pe_lc (own := [("number", 1)]) (g := gName 1) (tt := tYes) (te := tTup (tCons (tC (.str "dir")) (tCons (tVar 1) tNil))) rfl nd (pi_range2 (by rfl) mr (pa_cons pe_int (pa_cons (pe_fld (pv 0) rfl) pa_nil))) (blkOk_by (N := NLu) (sc := defScope sLun) (by decide +kernel))
          (fun _ _ _ _ _ => pg_name (i := 1) nd rfl (.inl rfl)) (fun _ _ _ _ _ => pts_nil) (fun _ _ _ _ _ => pe_tup (pa_cons pe_str (pa_cons (pv 1) pa_nil))))
        (pe_lc (own := [("number", 1)]) (g := gName 1) (tt := tYes) (te := tTup (tCons (tC (.str "row")) (tCons (tVar 1) tNil))) rfl nd (pi_range1 (by rfl) mr (pa_cons (pe_fld (pv 0) rfl) pa_nil)) (blkOk_by (N := NLu) (sc := defScope sLun) (by decide +kernel))
          (fun _ _ _ _ _ => pg_name (i := 1) nd rfl (.inl rfl)) (fun _ _ _ _ _ => pts_nil) (fun _ _ _ _ _ => pe_tup (pa_cons pe_str (pa_cons (pv 1) pa_nil)))))), ?_⟩
    have hd := b.hd
    have hrr := b.hr
    obtain ⟨dx, es⟩ := id S
    refine ⟨_, rfl, sa, C, dx, _, _, rfl, es, T.cl, T.no _ (by decide +kernel), zip_get (i := 0) shn_nodup rfl rfl, 2, b.d, rfl, by omega, fun D hD => lc_range (lo := 2) (n := (b.d - 2).toNat) (fun i H' => Same H H' ∧ LsU H' D (((List.range i).map fun i => ((true, 2 + ((i : Nat) : Int)) : Un)).map uD)) ⟨same_upd hD, ⟨[], upd_same, .nil⟩⟩ ?_ ?_⟩
    · rintro i H' hi ⟨s1, us, eD, dD⟩
      have hul := dps_len dD
      rw [List.length_map, List.length_map, List.length_range] at hul
      refine ⟨rfl, tyes_go ⟨_, rfl, (by show 2 ≤ sizeLine; decide), fun t ht => ?_⟩⟩
      have s2 := same_upd (o := .tup [V.str "dir", .int (2 + ((i : Nat) : Int))]) ht
      refine ⟨us, s2 _ _ eD, by rw [sizeLine_eq]; omega, fun c o e => by rw [upd_ne (ne_of_none e hD)]; exact s2 _ _ (s1 _ _ e), ?_⟩
      rw [List.range_succ, List.map_append]
      exact push_un (H' := H') eD dD s2 upd_same
    rintro H1 ⟨s1, us1, e1, d1⟩
    obtain ⟨dx1, es1⟩ := S.same s1
    refine ⟨_, rfl, sa, C, dx1, _, _, rfl, es1, T.cl, T.no _ (by decide +kernel), zip_get (i := 1) shn_nodup rfl rfl, b.r, rfl, by omega, by omega, fun D2 hD2 => lc_range (lo := 0) (n := b.r.toNat) (fun i H' => Same H1 H' ∧ LsU H' D2 (((List.range i).map fun i => ((false, ((i : Nat) : Int)) : Un)).map uD)) ⟨same_upd hD2, ⟨[], upd_same, .nil⟩⟩ ?_ ?_⟩
    · rintro i H' hi ⟨s2, us, eD, dD⟩
      have hul := dps_len dD
      rw [List.length_map, List.length_map, List.length_range] at hul
      have ez : (0 : Int) + ((i : Nat) : Int) = ((i : Nat) : Int) := by omega
      refine ⟨rfl, tyes_go ⟨_, rfl, (by show 2 ≤ sizeLine; decide), fun t ht => ?_⟩⟩
      have s3 := same_upd (o := .tup [V.str "row", .int (0 + ((i : Nat) : Int))]) ht
      refine ⟨us, s3 _ _ eD, by rw [sizeLine_eq]; omega, fun c o e => by rw [upd_ne (ne_of_none e hD2)]; exact s3 _ _ (s2 _ _ e), ?_⟩
      rw [List.range_succ, List.map_append]
      exact push_un (H' := H') eD dD s3 (by rw [upd_same, ez]; rfl)
    rintro H2 ⟨s2, us2, e2, d2⟩
    have l1 := dps_len d1
    have l2 := dps_len d2
    rw [List.length_map, List.length_map, List.length_range] at l1 l2
    refine ⟨D, D2, _, _, rfl, rfl, s2 _ _ e1, e2, by rw [sizeLine_eq]; omega, fun p hp => ?_⟩
    have s3 := same_upd (o := .lst (us1 ++ us2)) hp
    refine k p _ ((s1.trans s2).trans s3) ((s1.trans s2).free hp) ⟨_, upd_same, ?_⟩
    unfold unitsL dUn rUn
    rw [List.map_append]
    exact dps_app (dps_same (tu_same (s2.trans s3)) _ _ d1) (dps_same (tu_same s3) _ _ d2)
def spPo (K : PySem.W.Frag) (C : Addr) : Sp := fun vs H Q _ => ∃ (sa h t : Addr) (b : Sh) (cs : List Ch) (u : Un), vs = [.ref sa, .ref h, .ref t] ∧ ShAt C H sa b ∧ HoAt K H h cs b.pl ∧ H t = some (.tup (uV u)) ∧
  (placeN cs b u = none → ∀ H', Same H H' → Q .non H') ∧ (∀ x, placeN cs b u = some x → ∀ H' t, Same H H' → H t = none → H' t = some (.tup [.int x.1, .int x.2]) → Q (.ref t) H')
theorem ok_po {f fD fR : Addr} {fd dD dR : FuncData} (F : Fun K "place_of" "place_of" sPo f fd) (DD : Df P w K mg base CX0 2 "dir_at" ["home", "shape", "number"] (spDa K C) fD dD) (DR : Df P w K mg base CX0 2 "row_at" ["home", "shape", "number"] (spRa K C) fR dR) {t1 : Tok} (mD : mg "DIR" = some (.str "dir" t1)) :
    FnOk P w K mg base CX0 3 f fd ["shape", "home", "unit"] (spPo K C) := by
  refine F.ok scPo (fun vs H Q E h => ?_) (fun cdv A outer s H vs Q E hr h => ?_)
  · obtain ⟨sa, h, t, b, cs, u, rfl, _⟩ := h
    rfl
  · obtain ⟨sa, h, t, b, cs, u, rfl, S, Ho, et, k0, k1⟩ := h
    have nd := scPo.nd
    refine ⟨_, pss_cons (ps_asg (pv 2) (pg_tup rfl (pgs_cons (pg_name (i := 3) nd rfl (.inl rfl)) (pgs_cons (pg_name (i := 4) nd rfl (.inl rfl)) pgs_nil))))
      (pss_cons (ps_if (pt_cmpR op_eq (pv 3) (pe_glob (v := .str "dir") rfl mD ⟨_, rfl⟩) (nomark _)) (pss_one (ps_ret (pe_call DD.G hr rfl DD.g DD.kp DD.b .nil pass0 (pa_cons (pv 1) (pa_cons (pv 0) (pa_cons (pv 4) pa_nil)))))) pss_nil)
      (pss_cons (ps_set (i := 5) nd rfl (.inl rfl) (pe_call DR.G hr rfl DR.g DR.kp DR.b .nil pass0 (pa_cons (pv 1) (pa_cons (pv 0) (pa_cons (pv 4) pa_nil)))))
      (pss_one (ps_ret (pe_ifExp (pt_cmpR op_isN (pv 5) pe_non (nomark _)) pe_non (pe_slice sl_tupA (pv 5) po_none (po_some pe_int))))))), ?_⟩
    refine ⟨_, rfl, t, _, rfl, SqT.of et, rfl, _, _, rfl, _, _, rfl, rfl, _, rfl, rfl, _, rfl, ?_⟩
    obtain ⟨a, n⟩ := u
    cases a with
    | true =>
      have e1 : uS (true, n) = "dir" := rfl
      rw [e1, decide_eq_true rfl]
      exact iteT ⟨_, rfl, _, rfl, _, rfl, h, sa, n, b, cs, rfl, S, Ho, k0, k1⟩
    | false =>
      have hrd : ("row" : Str) ≠ "dir" := by decide +kernel
      have hne : ¬ V.str (uS (false, n)) = V.str "dir" := fun z => hrd (V.str.inj z)
      rw [decide_eq_false hne]
      refine iteF ⟨_, rfl, _, rfl, _, rfl, h, sa, n, b, cs, rfl, S, Ho, fun hno H' s1 => ?_, fun x hx H' p s1 hp ep => ?_⟩
      · refine ⟨_, rfl, rfl, _, rfl, iteT (k0 ?_ _ s1)⟩
        unfold placeN
        rw [if_neg (fun z : false = true => Bool.noConfusion z), hno]
        rfl
      · refine ⟨_, rfl, rfl, _, rfl, iteF ⟨_, rfl, ?_⟩⟩
        (try dsimp -proj only [tNoPart])
        refine ⟨_, rfl, ?_⟩
        refine slA_new (K := K) (a := p) (lo := none) (hi := some 2) (SqT.of ep) (by rw [show (some (2 : Int)) = some (((2 : Nat) : Int)) from rfl, cut_to]; show (2 : Nat) ≠ 3; omega) fun q hq => ?_
        have s2 := same_upd (o := .tup (cutV [V.int x.1, .int x.2.1, .int x.2.2] none (some 2))) hq
        refine k1 (x.1, x.2.1) ?_ _ q (s1.trans s2) (s1.free hq) ?_
        · unfold placeN
          rw [if_neg (fun z : false = true => Bool.noConfusion z), hx]
          rfl
        · rw [upd_same, show (some (2 : Int)) = some (((2 : Nat) : Int)) from rfl, cut_to]
          rfl
end
end Pf

set_option Elab.async false
set_option linter.all false
set_option maxRecDepth 100000
set_option maxHeartbeats 4000000
namespace Pf
open PySem PySem.Spec PyProof.Rows L2
/-- a place, or none -/
theorem dpu_pl {H : Hp} {v : V} {o : Option (Int × Int)} (h : Dp [] (Tu H) v (plD o)) : (o = none ∧ v = .non) ∨ ∃ x t, o = some x ∧ v = .ref t ∧ H t = some (.tup [.int x.1, .int x.2]) := by
  cases o with
  | none => exact .inl ⟨rfl, dpu_non h⟩
  | some x =>
    obtain ⟨t, e, et⟩ := dpu_place h
    exact .inr ⟨x, t, rfl, e, et⟩
/-- a tuple of two, made -/
theorem dpu_mk {H : Hp} {t : Addr} {v1 v2 : V} {d1 d2 : PyData} (e : H t = some (.tup [v1, v2])) (h1 : Dp [] (Tu H) v1 d1) (h2 : Dp [] (Tu H) v2 d2) : Dp [] (Tu H) (.ref t) (.tuple [d1, d2]) := .tup (SqT.of (tu_at e)) (.cons h1 (.cons h2 .nil))
def dirsL (cs : List Ch) (b : Sh) (k : Nat) : List (Int × Int × Int) := (List.range k).filterMap fun i => (dirN cs b (2 + ((i : Nat) : Int))).map fun x => (2 + ((i : Nat) : Int), x)
def drD (x : Int × Int × Int) : PyData := .tuple [.int x.1, plD (some x.2)]
def wrongB (b : Sh) : Option (Int × Int) → Bool
  | none => false
  | some x => decide (x.1 ≥ b.d)
def wrongL (cs : List Ch) (b : Sh) : List Un := (unitsL b).filter fun u => wrongB b (placeN cs b u)
theorem dirs_more (cs : List Ch) (b : Sh) (k : Nat) : dirsL cs b (k + 1) = dirsL cs b k ++ (match dirN cs b (2 + ((k : Nat) : Int)) with | none => [] | some x => [(2 + ((k : Nat) : Int), x)]) := by
  unfold dirsL
  rw [List.range_succ, List.filterMap_append]
  congr 1
  cases e : dirN cs b (2 + ((k : Nat) : Int)) with
  | none => simp [e]
  | some x => simp [e]
theorem dirs_len (cs : List Ch) (b : Sh) (k : Nat) : (dirsL cs b k).length ≤ k := by
  unfold dirsL
  exact Nat.le_trans (List.length_filterMap_le _ _) (by rw [List.length_range]; exact Nat.le_refl _)
abbrev rNN : R2 := fun x y H Q => y = .non ∧ Q (.bl (!decide (x = .non))) H
abbrev rGEq : R2 := rI0 fun i j => .bl (decide (j ≤ i))
abbrev NDo : List Str := ["home", "shape", "told", "number", "place"]
abbrev NWu : List Str := ["shape", "home", "told", "unit", "place"]
theorem scDso : FnScope NDo ["home", "shape"] (defScope sDso) := ⟨rfl, rfl, rfl, by decide +kernel, rfl, by decide +kernel, by decide +kernel⟩
theorem scWu : FnScope NWu ["shape", "home"] (defScope sWu) := ⟨rfl, rfl, rfl, by decide +kernel, rfl, by decide +kernel, by decide +kernel⟩
theorem filter_take {α : Type} {p : α → Bool} {l : List α} {i : Nat} {x : α} (h : l[i]? = some x) : (l.take (i + 1)).filter p = (l.take i).filter p ++ (if p x = true then [x] else []) := by
  rw [List.take_succ, h, List.filter_append]
  congr 1
  show [x].filter p = _
  by_cases c : p x = true
  · rw [if_pos c, List.filter_cons_of_pos c]; rfl
  · rw [if_neg c, List.filter_cons_of_neg c]; rfl
section
variable {P : Program} {w : World} {K : PySem.W.Frag} {mg : Str → Option Value} {base : Heap} {C : Addr}
def spDaU (K : PySem.W.Frag) (C : Addr) : Sp := fun vs H Q _ => ∃ (h sa : Addr) (n : Int) (b : Sh) (cs : List Ch), vs = [.ref h, .ref sa, .int n] ∧ ShAt C H sa b ∧ HoAt K H h cs b.pl ∧ ∀ H' v, Same H H' → Dp [] (Tu H') v (plD (dirN cs b n)) → Q v H'
theorem da_weak {f : Addr} {fd : FuncData} {ps : List Str} {k : Nat} {CX : CXT} (F : FnOk P w K mg base CX k f fd ps (spDa K C)) : FnOk P w K mg base CX k f fd ps (spDaU K C) := F.imp fun vs H Q E h => by
  obtain ⟨h, sa, n, b, cs, rfl, S, Ho, k⟩ := h
  exact ⟨h, sa, n, b, cs, rfl, S, Ho, fun e H' s => k H' _ s (by rw [e]; exact .non), fun x e H' t s _ et => k H' _ s (by rw [e]; exact dpu_ofplace et)⟩
def spPoU (K : PySem.W.Frag) (C : Addr) : Sp := fun vs H Q _ => ∃ (sa h t : Addr) (b : Sh) (cs : List Ch) (u : Un), vs = [.ref sa, .ref h, .ref t] ∧ ShAt C H sa b ∧ HoAt K H h cs b.pl ∧ H t = some (.tup (uV u)) ∧ ∀ H' v, Same H H' → Dp [] (Tu H') v (plD (placeN cs b u)) → Q v H'
theorem po_weak {f : Addr} {fd : FuncData} {ps : List Str} {k : Nat} {CX : CXT} (F : FnOk P w K mg base CX k f fd ps (spPo K C)) : FnOk P w K mg base CX k f fd ps (spPoU K C) := F.imp fun vs H Q E h => by
  obtain ⟨sa, h, t, b, cs, u, rfl, S, Ho, et, k⟩ := h
  exact ⟨sa, h, t, b, cs, u, rfl, S, Ho, et, fun e H' s => k H' _ s (by rw [e]; exact .non), fun x e H' t s _ et => k H' _ s (by rw [e]; exact dpu_ofplace et)⟩
def spDo (K : PySem.W.Frag) (C : Addr) : Sp := fun vs H Q _ => ∃ (h sa : Addr) (b : Sh) (cs : List Ch), vs = [.ref h, .ref sa] ∧ ShAt C H sa b ∧ HoAt K H h cs b.pl ∧ ∀ L H', Same H H' → H L = none → LsU H' L ((dirsL cs b (b.d - 2).toNat).map drD) → Q (.ref L) H'
theorem ok_dso {f fD : Addr} {fd dD : FuncData} (F : Fun K "dirs_of" "dirs_of" sDso f fd) (T : ShTxt K C) (DD : Df P w K mg base CX0 2 "dir_at" ["home", "shape", "number"] (spDaU K C) fD dD) {t3 : Tok} (m2 : mg "FIRST_DIR_readings" = some (.int 2 t3)) (mr : mg "range" = none) : FnOk P w K mg base CX0 3 f fd ["home", "shape"] (spDo K C) := by
  refine F.ok scDso (fun vs H Q E h => ?_) (fun cdv A outer s H vs Q E hr h => ?_)
  · obtain ⟨h, sa, b, cs, rfl, _⟩ := h
    rfl
  · obtain ⟨h, sa, b, cs, rfl, S, Ho, k⟩ := h
    have nd := scDso.nd
    refine ⟨_, pss_cons (ps_setLc (i := 2) (own := [("number", 3)]) (g := gName 3) (tt := tYes) (te := tTup (tCons (tVar 3) (tCons (tCall (spDaU K C) [] E0 (tCons (tVar 0) (tCons (tVar 1) (tCons (tVar 3) tNil)))) tNil))) (by rfl) nd rfl rfl (sw_true rfl rfl rfl (by decide +kernel)) (pi_range2 (by rfl) mr (pa_cons (pe_glob (v := .int 2) rfl m2 ⟨_, rfl⟩) (pa_cons (pe_fld (pv 1) rfl) pa_nil))) (blkOk_by (N := NDo) (sc := defScope sDso) (by decide +kernel))
          (fun _ _ _ _ _ => pg_name (i := 3) nd rfl (.inl rfl)) (fun _ _ _ _ _ => pts_nil)
          (fun _ _ _ _ _ => pe_tup (pa_cons (pv 3) (pa_cons (pe_call DD.G hr rfl DD.g DD.kp DD.b .nil pass0 (pa_cons (pv 0) (pa_cons (pv 1) (pa_cons (pv 3) pa_nil)))) pa_nil))))
      (pss_one (ps_ret (pe_lc (own := [("number", 3), ("place", 4)]) (g := gTup K 2 (gCons (gName 3) (gCons (gName 4) gNil))) (te := tTup (tCons (tVar 3) (tCons (tVar 4) tNil))) rfl nd (pi_list (pv 2)) (blkOk_by (N := NDo) (sc := defScope sDso) (by decide +kernel))
          (fun _ _ _ _ _ => pg_tup rfl (pgs_cons (pg_name (i := 3) nd rfl (.inl rfl)) (pgs_cons (pg_name (i := 4) nd rfl (.inl rfl)) pgs_nil))) (fun _ _ _ _ _ => pts_one (pt_cmpR op_notN (pv 4) pe_non (nomark _)))
          (fun _ _ _ _ _ => pe_tup (pa_cons (pv 3) (pa_cons (pv 4) pa_nil)))))), ?_⟩
    obtain ⟨dx, es⟩ := id S
    have hbd := b.hd
    refine ⟨_, rfl, sa, C, dx, _, _, rfl, es, T.cl, T.no _ (by decide +kernel), zip_get (i := 0) shn_nodup rfl rfl, 2, b.d, rfl, by omega, fun D hD => lc_range (lo := 2) (n := (b.d - 2).toNat) (fun i H' => Same H H' ∧ LsU H' D ((List.range i).map fun i => .tuple [.int (2 + ((i : Nat) : Int)), plD (dirN cs b (2 + ((i : Nat) : Int)))])) ⟨same_upd hD, ⟨[], upd_same, .nil⟩⟩ ?_ ?_⟩
    · rintro i H' hi ⟨s1, us, eD, dD⟩
      have hul := dps_len dD
      rw [List.length_map, List.length_range] at hul
      refine ⟨rfl, tyes_go ⟨_, rfl, _, rfl, _, rfl, _, rfl, h, sa, 2 + ((i : Nat) : Int), b, cs, rfl, S.same s1, Ho.same s1, fun H2 v s2 dv => ⟨(by show 2 ≤ sizeLine; decide), fun t ht => ?_⟩⟩⟩
      have s3 := same_upd (o := .tup [.int (2 + ((i : Nat) : Int)), v]) ht
      have s13 := s2.trans s3
      refine ⟨us, s13 _ _ eD, by rw [sizeLine_eq]; omega, fun c o e => by rw [upd_ne (ne_of_none e hD)]; exact s13 _ _ (s1 _ _ e), ?_⟩
      rw [List.range_succ, List.map_append]
      exact LsU.push (s13 _ _ eD) (dps_same (tu_same s13) _ _ dD) (dpu_mk upd_same (.int _) (dp_same (tu_same s3) _ _ dv))
    · rintro H' ⟨s1, us, eD, dD⟩
      refine ⟨_, rfl, D, rfl, ⟨us, SqL.of eD⟩, fun D2 hD2 => lc_list (K := K) (a := D) (xs := us) (fun i H2 => Same H' H2 ∧ LsU H2 D2 ((dirsL cs b i).map drD)) ⟨same_upd hD2, ⟨[], upd_same, .nil⟩⟩ (fun i H2 _ z => SqL.of (z.1 _ _ eD)) ?_ ?_⟩
      · rintro i x H2 hi ⟨s2, vs, eV, dV'⟩
        obtain ⟨j, hj, hd⟩ := dpu_at dD hi
        have hil : i < (b.d - 2).toNat := by
          have h9 := (List.getElem?_eq_some_iff.mp hj).1
          rw [List.length_range] at h9
          exact h9
        rw [List.getElem?_range hil] at hj
        cases hj
        have hvl := dps_len dV'
        rw [List.length_map] at hvl
        have hrl := dirs_len cs b i
        obtain ⟨t, v1, v2, rfl, et, e1, e2⟩ := dpu_two hd
        have e1' := dp_int e1
        subst e1'
        refine ⟨t, _, rfl, SqT.of (s2 _ _ et), rfl, _, _, rfl, _, _, rfl, rfl, rfl, _, rfl, rfl, _, rfl, ?_⟩
        rcases dpu_pl e2 with ⟨hn, rfl⟩ | ⟨y, u, hs, rfl, eu⟩
        · refine iteF ⟨s2, ?_⟩
          rw [dirs_more, hn, List.append_nil]
          exact ⟨vs, eV, dV'⟩
        · refine iteT ⟨_, rfl, _, rfl, (by show 2 ≤ sizeLine; decide), fun t2 ht2 => ?_⟩
          have s3 := same_upd (o := .tup [.int (2 + ((i : Nat) : Int)), .ref u]) ht2
          refine ⟨vs, s3 _ _ eV, by rw [sizeLine_eq]; omega, fun c o e => by rw [upd_ne (ne_of_none e hD2)]; exact s3 _ _ (s2 _ _ e), ?_⟩
          rw [dirs_more, hs, List.map_append]
          exact LsU.push (s3 _ _ eV) (dps_same (tu_same s3) _ _ dV') (dpu_mk upd_same (.int _) (dpu_ofplace (s3 _ _ (s2 _ _ eu))))
      · rintro H2 ⟨s2, L2'⟩
        have hul := dps_len dD
        rw [List.length_map, List.length_range] at hul
        rw [hul] at L2'
        exact k D2 _ (s1.trans s2) (s1.free hD2) L2'
def spWu (K : PySem.W.Frag) (C : Addr) : Sp := fun vs H Q _ => ∃ (sa h : Addr) (b : Sh) (cs : List Ch), vs = [.ref sa, .ref h] ∧ ShAt C H sa b ∧ HoAt K H h cs b.pl ∧ ∀ L H', Same H H' → H L = none → LsU H' L ((wrongL cs b).map uD) → Q (.ref L) H'
theorem ok_wu {f fA fP : Addr} {fd dA dP : FuncData} (F : Fun K "wrong_units" "wrong_units" sWu f fd) (T : ShTxt K C) (DA : Df P w K mg base CX0 1 "all_units" ["shape"] (spAu C) fA dA) (DP : Df P w K mg base CX0 3 "place_of" ["shape", "home", "unit"] (spPoU K C) fP dP) : FnOk P w K mg base CX0 4 f fd ["shape", "home"] (spWu K C) := by
  refine F.ok scWu (fun vs H Q E h => ?_) (fun cdv A outer s H vs Q E hr h => ?_)
  · obtain ⟨sa, h, b, cs, rfl, _⟩ := h
    rfl
  · obtain ⟨sa, h, b, cs, rfl, S, Ho, k⟩ := h
    have nd := scWu.nd
    have h1 : Room 1 _ := hr.mono (by decide)
    refine ⟨_, pss_cons (ps_setLc (i := 2) (own := [("unit", 3)]) (g := gName 3) (tt := tYes) (te := tTup (tCons (tVar 3) (tCons (tCall (spPoU K C) [] E0 (tCons (tVar 0) (tCons (tVar 1) (tCons (tVar 3) tNil)))) tNil))) (by rfl) nd rfl rfl (sw_true rfl rfl rfl (by decide +kernel)) (pi_list (pe_call DA.G h1 rfl DA.g DA.kp DA.b .nil pass0 (pa_cons (pv 0) pa_nil))) (blkOk_by (N := NWu) (sc := defScope sWu) (by decide +kernel))
          (fun _ _ _ _ _ => pg_name (i := 3) nd rfl (.inl rfl)) (fun _ _ _ _ _ => pts_nil)
          (fun _ _ _ _ _ => pe_tup (pa_cons (pv 3) (pa_cons (pe_call DP.G hr rfl DP.g DP.kp DP.b .nil pass0 (pa_cons (pv 0) (pa_cons (pv 1) (pa_cons (pv 3) pa_nil)))) pa_nil))))
      (pss_one (ps_ret (pe_lc (own := [("unit", 3), ("place", 4)]) (g := gTup K 2 (gCons (gName 3) (gCons (gName 4) gNil))) (tt := tAnd (tTest (tOp rNN (tVar 4) (tC .non))) (tTest (tOp rGEq (tOp (rIxT K) (tVar 4) (tC (.int 0))) (tFld K (tVar 0) "dirs")))) (te := tVar 3) rfl nd (pi_list (pv 2)) (blkOk_by (N := NWu) (sc := defScope sWu) (by decide +kernel))
          (fun _ _ _ _ _ => pg_tup rfl (pgs_cons (pg_name (i := 3) nd rfl (.inl rfl)) (pgs_cons (pg_name (i := 4) nd rfl (.inl rfl)) pgs_nil)))
          (fun _ _ _ _ _ => pts_one (by exact (PW.pt (pw_and (pt_cmpR op_notN (pv 4) pe_non (nomark _)) (pw_and1 (pt_cmpR op_ge (pe_ix ix_tup (pv 4) pe_int (fun _ _ => rfl)) (pe_fld (pv 0) rfl) (nomark _)))))))
          (fun _ _ _ _ _ => pv 3)))), ?_⟩
    refine ⟨_, rfl, sa, b, rfl, S, fun LA H1 s1 hLA A1 => ?_⟩
    obtain ⟨ua, ea, da⟩ := A1
    have hual := dps_len da
    rw [List.length_map] at hual
    have hu98 := units_len b
    refine ⟨LA, rfl, ⟨ua, SqL.of ea⟩, fun D hD => lc_list (K := K) (a := LA) (xs := ua) (fun i H' => Same H1 H' ∧ LsU H' D (((unitsL b).take i).map fun u => .tuple [uD u, plD (placeN cs b u)])) ⟨same_upd hD, ⟨[], upd_same, .nil⟩⟩ (fun i H2 _ z => SqL.of (z.1 _ _ ea)) ?_ ?_⟩
    · rintro i x H' hi ⟨s2, us, eD, dD⟩
      obtain ⟨u, hu, hd⟩ := dpu_at da hi
      obtain ⟨t, rfl, et⟩ := dpu_un hd
      have hul := dps_len dD
      rw [List.length_map, List.length_take] at hul
      have s12 := s1.trans s2
      refine ⟨rfl, tyes_go ⟨_, rfl, _, rfl, _, rfl, _, rfl, sa, h, t, b, cs, u, rfl, S.same s12, Ho.same s12, s2 _ _ et, fun H2 v s3 dv => ⟨(by show 2 ≤ sizeLine; decide), fun p hp => ?_⟩⟩⟩
      have s4 := same_upd (o := .tup [V.ref t, v]) hp
      have s34 := s3.trans s4
      refine ⟨us, s34 _ _ eD, by rw [sizeLine_eq]; omega, fun c o e => by rw [upd_ne (ne_of_none e hD)]; exact s34 _ _ (s2 _ _ e), ?_⟩
      rw [List.take_succ, hu, List.map_append]
      exact LsU.push (s34 _ _ eD) (dps_same (tu_same s34) _ _ dD) (dpu_mk upd_same (dpu_ofun (s34 _ _ (s2 _ _ et))) (dp_same (tu_same s4) _ _ dv))
    · rintro H2 ⟨s2, us, eD, dD⟩
      rw [hual, List.take_length] at dD
      have hul := dps_len dD
      rw [List.length_map] at hul
      refine ⟨_, rfl, D, rfl, ⟨us, SqL.of eD⟩, fun D2 hD2 => lc_list (K := K) (a := D) (xs := us) (fun i H' => Same H2 H' ∧ LsU H' D2 ((((unitsL b).take i).filter fun u => wrongB b (placeN cs b u)).map uD)) ⟨same_upd hD2, ⟨[], upd_same, .nil⟩⟩ (fun i H2 _ z => SqL.of (z.1 _ _ eD)) ?_ ?_⟩
      · rintro i x H' hi ⟨s3, vs, eV, dV'⟩
        obtain ⟨u, hu, hd⟩ := dpu_at dD hi
        obtain ⟨t, v1, v2, rfl, et, e1, e2⟩ := dpu_two hd
        obtain ⟨tu, rfl, etu⟩ := dpu_un e1
        have hvl := dps_len dV'
        rw [List.length_map] at hvl
        have hfl : (((unitsL b).take i).filter fun u => wrongB b (placeN cs b u)).length ≤ i := Nat.le_trans (List.length_filter_le _ _) (by rw [List.length_take]; omega)
        have hil := (List.getElem?_eq_some_iff.mp hu).1
        have s123 := (s1.trans s2).trans s3
        obtain ⟨dx, es⟩ := S.same s123
        have T1 := filter_take (p := fun u => wrongB b (placeN cs b u)) hu
        refine ⟨t, _, rfl, SqT.of (s3 _ _ et), rfl, _, _, rfl, _, _, rfl, rfl, rfl, _, rfl, rfl, _, rfl, ?_⟩
        rcases dpu_pl e2 with ⟨hn, rfl⟩ | ⟨y, q, hs, rfl, eq⟩
        · refine iteF (iteF ⟨s3, ?_⟩)
          rw [T1, hn]
          show LsU H' D2 ((_ ++ []).map uD)
          rw [List.append_nil]
          exact ⟨vs, eV, dV'⟩
        · refine iteT ⟨_, rfl, q, _, 0, _, rfl, rfl, SqT.of (s3 _ _ eq), atI_nat (j := 0) rfl, _, rfl, sa, C, dx, _, _, rfl, es, T.cl, T.no _ (by decide +kernel), zip_get (i := 0) shn_nodup rfl rfl, _, _, rfl, rfl, _, rfl, ?_⟩
          rw [T1, hs]
          show if decide (b.d ≤ y.1) = true then _ else _
          by_cases c : b.d ≤ y.1
          · rw [decide_eq_true c]
            refine iteT ⟨_, rfl, vs, eV, by rw [sizeLine_eq]; omega, fun c o e => by rw [upd_ne (ne_of_none e hD2)]; exact s3 _ _ e, ?_⟩
            have ew : wrongB b (some y) = true := decide_eq_true c
            rw [if_pos ew, List.map_append]
            exact LsU.push eV dV' (dpu_ofun (s3 _ _ etu))
          · rw [decide_eq_false c]
            have ew : ¬ wrongB b (some y) = true := fun z => c (of_decide_eq_true z)
            rw [if_neg ew, List.append_nil]
            exact iteF ⟨s3, vs, eV, dV'⟩
      · rintro H3 ⟨s3, L3⟩
        rw [hul, List.take_length] at L3
        exact k D2 _ ((s1.trans s2).trans s3) ((s1.trans s2).free hD2) L3
end
end Pf

set_option Elab.async false
set_option linter.all false
set_option maxRecDepth 100000
set_option maxHeartbeats 4000000
namespace Pf
open PySem PySem.Spec PyProof.Rows L2
/-! ### units by what they lie beneath -/
abbrev Gr := List (Int × List Un)
def upG (g : Gr) (k : Int) (u : Un) : Gr := if (g.any fun x => decide (x.1 = k)) = true then g.map (fun x => if x.1 = k then (x.1, x.2 ++ [u]) else x) else g ++ [(k, [u])]
def grpN (pl : Un → Option (Int × Int)) (l : List Un) : Gr := l.foldl (fun g u => match pl u with | none => g | some y => upG g y.1 u) []
theorem grp_more (pl : Un → Option (Int × Int)) (l : List Un) (u : Un) : grpN pl (l ++ [u]) = match pl u with | none => grpN pl l | some y => upG (grpN pl l) y.1 u := by
  unfold grpN
  rw [List.foldl_append]
  rfl
theorem upG_len (g : Gr) (k : Int) (u : Un) : (upG g k u).length ≤ g.length + 1 := by
  unfold upG
  split <;> simp
theorem snoc_ind {α : Type} {p : List α → Prop} (h0 : p []) (h1 : ∀ l x, p l → p (l ++ [x])) : ∀ l : List α, p l := fun l => by
  have : ∀ m : List α, p m.reverse := fun m => by
    induction m with
    | nil => exact h0
    | cons x m ih => rw [List.reverse_cons]; exact h1 _ _ ih
  have h := this l.reverse
  rw [List.reverse_reverse] at h
  exact h
theorem grp_len (pl : Un → Option (Int × Int)) : ∀ l : List Un, (grpN pl l).length ≤ l.length := snoc_ind (Nat.le_refl _) fun l u ih => by
  rw [grp_more, List.length_append]
  cases e : pl u with
  | none => simp; omega
  | some y =>
    have := upG_len (grpN pl l) y.1 u
    simp
    omega
theorem nodup_inj {α β : Type} {f : α → β} : ∀ {l : List α} {x y : α}, (l.map f).Nodup → x ∈ l → y ∈ l → f x = f y → x = y
  | [], _, _, _, h, _, _ => by cases h
  | a :: l, x, y, hn, hx, hy, e => by
    have h1 := List.nodup_cons.mp hn
    rcases List.mem_cons.mp hx with ex | mx
    · rcases List.mem_cons.mp hy with ey | my
      · rw [ex, ey]
      · exact absurd (List.mem_map.mpr ⟨y, my, by rw [← e, ex]⟩) h1.1
    · rcases List.mem_cons.mp hy with ey | my
      · exact absurd (List.mem_map.mpr ⟨x, mx, by rw [e, ey]⟩) h1.1
      · exact nodup_inj h1.2 mx my e
abbrev Gt := List (Int × Addr × List Un)
def gkv (gs : Gt) : List (Key × V) := gs.map fun x => (Sum.inl x.1, V.ref x.2.1)
def gpl (gs : Gt) : Gr := gs.map fun x => (x.1, x.2.2)
def gput (gs : Gt) (k : Int) (u : Un) : Gt := gs.map fun x => if x.1 = k then (x.1, x.2.1, x.2.2 ++ [u]) else x
theorem gkv_put (gs : Gt) (k : Int) (u : Un) : gkv (gput gs k u) = gkv gs := by
  unfold gkv gput
  rw [List.map_map]
  apply List.map_congr_left
  intro x _
  by_cases c : x.1 = k <;> simp [c]
theorem gpl_any (gs : Gt) (k : Int) : ((gpl gs).any fun x => decide (x.1 = k)) = (gs.any fun x => decide (x.1 = k)) := by
  unfold gpl
  rw [List.any_map]
  rfl
theorem gpl_put {gs : Gt} {k : Int} {u : Un} (h : (gs.any fun x => decide (x.1 = k)) = true) : gpl (gput gs k u) = upG (gpl gs) k u := by
  unfold upG
  rw [gpl_any, if_pos h]
  unfold gpl gput
  rw [List.map_map, List.map_map]
  apply List.map_congr_left
  intro x _
  by_cases c : x.1 = k <;> simp [c]
theorem gpl_new {gs : Gt} {k : Int} {u : Un} {a : Addr} (h : (gs.any fun x => decide (x.1 = k)) = false) : gpl (gs ++ [(k, a, [u])]) = upG (gpl gs) k u := by
  unfold upG
  rw [gpl_any, if_neg (by rw [h]; decide)]
  unfold gpl
  rw [List.map_append]
  rfl
theorem gkv_val : ∀ {gs : Gt} {k : Int}, (∀ v, valV (gkv gs) (Sum.inl k) = some v → ∃ x ∈ gs, x.1 = k ∧ v = .ref x.2.1) ∧ (valV (gkv gs) (Sum.inl k) = none → (gs.any fun x => decide (x.1 = k)) = false)
  | [], k => ⟨fun v h => absurd (show (none : Option V) = some v from h) (by simp), fun _ => rfl⟩
  | x :: gs, k => by
    obtain ⟨h1, h2⟩ := gkv_val (gs := gs) (k := k)
    by_cases c : x.1 = k
    · have e1 : valV (gkv (x :: gs)) (Sum.inl k) = some (V.ref x.2.1) := valV_pos (p := (Sum.inl x.1, V.ref x.2.1)) (by rw [c])
      refine ⟨fun v h => ?_, fun h => by rw [e1] at h; cases h⟩
      rw [e1] at h
      exact ⟨x, List.mem_cons_self, c, (Option.some.inj h).symm⟩
    · have e1 : valV (gkv (x :: gs)) (Sum.inl k) = valV (gkv gs) (Sum.inl k) := valV_neg (p := (Sum.inl x.1, V.ref x.2.1)) (fun z => c (Sum.inl.inj z))
      refine ⟨fun v h => ?_, fun h => ?_⟩
      · rw [e1] at h
        obtain ⟨y, hy, a, b⟩ := h1 v h
        exact ⟨y, List.mem_cons_of_mem _ hy, a, b⟩
      · rw [e1] at h
        rw [List.any_cons, h2 h, decide_eq_false c]
        rfl
/-- a dict of lists of units, by numbers -/
structure UB (H : Hp) (D : Addr) (gs : Gt) : Prop where
  e : H D = some (.dK (gkv gs))
  k : (gs.map (·.1)).Nodup
  a : (gs.map (·.2.1)).Nodup
  l : ∀ x ∈ gs, LsU H x.2.1 (x.2.2.map uD)
theorem UB.same {H H' : Hp} {D : Addr} {gs : Gt} (U : UB H D gs) (s : Same H H') : UB H' D gs := ⟨s _ _ U.e, U.k, U.a, fun x hx => (U.l x hx).same s⟩
/-- one more unit in a list that stands -/
theorem UB.more {H : Hp} {D : Addr} {gs : Gt} {x : Int × Addr × List Un} {us : List V} {t : Addr} {u : Un} (U : UB H D gs) (hx : x ∈ gs) (e : H x.2.1 = some (.lst us)) (et : H t = some (.tup (uV u))) : UB (upd H x.2.1 (.lst (us ++ [.ref t]))) D (gput gs x.1 u) := by
  have f : Fr [x.2.1] H (upd H x.2.1 (.lst (us ++ [.ref t]))) := .put (by simp) fun o z => by rw [e] at z; cases z; rfl
  have nD : D ≠ x.2.1 := fun z => by have := U.e; rw [z, e] at this; cases this
  refine ⟨by rw [gkv_put]; exact f.at U.e (by simp [nD]), ?_, ?_, fun y hy => ?_⟩
  · have : (gput gs x.1 u).map (·.1) = gs.map (·.1) := by
      unfold gput
      rw [List.map_map]
      apply List.map_congr_left
      intro z _
      by_cases c : z.1 = x.1 <;> simp [c]
    rw [this]
    exact U.k
  · have : (gput gs x.1 u).map (·.2.1) = gs.map (·.2.1) := by
      unfold gput
      rw [List.map_map]
      apply List.map_congr_left
      intro z _
      by_cases c : z.1 = x.1 <;> simp [c]
    rw [this]
    exact U.a
  · obtain ⟨z, hz, rfl⟩ := List.mem_map.mp hy
    by_cases c : z.1 = x.1
    · rw [if_pos c]
      have ezx := nodup_inj U.k hz hx c
      subst ezx
      have A := U.l z hz
      obtain ⟨us', e', d'⟩ := A
      rw [e] at e'
      cases e'
      show LsU _ z.2.1 ((z.2.2 ++ [u]).map uD)
      rw [List.map_append]
      exact LsU.push e d' (dpu_ofun et)
    · rw [if_neg c]
      have na : z.2.1 ≠ x.2.1 := fun w => c (by rw [nodup_inj U.a hz hx w])
      exact (U.l z hz).fr f (by simp [na])
theorem putK_new {gs : Gt} {k : Int} {a : Addr} (h : (gs.any fun x => decide (x.1 = k)) = false) : putK (gkv gs) (Sum.inl k) (V.ref a) = gkv gs ++ [(Sum.inl k, .ref a)] := by
  have hno : ((gkv gs).any fun kv => decide (kv.1 = Sum.inl k)) = false := by
    unfold gkv
    rw [List.any_map, ← h]
    congr 1
    funext x
    by_cases c : x.1 = k <;> simp [c]
  unfold putK
  rw [hno, if_neg (by decide)]
/-- a new list with one unit -/
theorem UB.fresh {H : Hp} {D l0 t : Addr} {gs : Gt} {k : Int} {u : Un} (U : UB H D gs) (h0 : H l0 = some (.lst [])) (hn : ∀ x ∈ gs, x.2.1 ≠ l0) (ha : (gs.any fun x => decide (x.1 = k)) = false) (et : H t = some (.tup (uV u))) :
    UB (upd (upd H D (.dK (putK (gkv gs) (Sum.inl k) (.ref l0)))) l0 (.lst ([] ++ [.ref t]))) D (gs ++ [(k, l0, [u])]) := by
  have nD : D ≠ l0 := fun z => by have := U.e; rw [z, h0] at this; cases this
  have f1 : Fr [D] H (upd H D (.dK (putK (gkv gs) (Sum.inl k) (.ref l0)))) := .put (by simp) fun o z => by rw [U.e] at z; cases z; rfl
  have h1 := f1.at h0 (by simp [nD.symm])
  have f2 : Fr [l0] (upd H D (.dK (putK (gkv gs) (Sum.inl k) (.ref l0)))) (upd (upd H D (.dK (putK (gkv gs) (Sum.inl k) (.ref l0)))) l0 (.lst ([] ++ [.ref t]))) := .put (by simp) fun o z => by rw [h1] at z; cases z; rfl
  refine ⟨?_, ?_, ?_, fun x hx => ?_⟩
  · rw [upd_ne nD, upd_same, putK_new ha]
    unfold gkv
    rw [List.map_append]
    rfl
  · rw [List.map_append, List.nodup_append]
    refine ⟨U.k, by simp, fun x hx y hy e => ?_⟩
    rw [List.map_singleton, List.mem_singleton] at hy
    obtain ⟨z, hz, rfl⟩ := List.mem_map.mp hx
    have := List.any_eq_false.mp ha z hz
    exact this (decide_eq_true (by rw [e, hy]))
  · rw [List.map_append, List.nodup_append]
    refine ⟨U.a, by simp, fun x hx y hy e => ?_⟩
    rw [List.map_singleton, List.mem_singleton] at hy
    obtain ⟨z, hz, rfl⟩ := List.mem_map.mp hx
    exact hn z hz (by rw [e, hy])
  · rcases List.mem_append.mp hx with hm | hm
    · have na := hn x hm
      have nD2 : x.2.1 ≠ D := fun z => by obtain ⟨us, e, _⟩ := U.l x hm; rw [z, U.e] at e; cases e
      exact ((U.l x hm).fr f1 (by simp [nD2])).fr f2 (by simp [na])
    · rw [List.mem_singleton.mp hm]
      exact LsU.push (ds := []) h1 .nil (dpu_ofun (f1.tup et))
abbrev NUb : List Str := ["shape", "home", "units", "unit", "place"]
theorem scUbu : FnScope NUb ["shape", "home"] (defScope sUbu) := ⟨rfl, rfl, rfl, by decide +kernel, rfl, by decide +kernel, by decide +kernel⟩
structure UbI (H H1 H' : Hp) (D LA : Addr) (ua : List V) (gs : Gt) (i : Nat) : Prop where
  s : Same H H'
  e : H' LA = some (.lst ua)
  t : Same (Tu H1) (Tu H')
  n : ∀ x ∈ gs, x.2.1 ≠ LA ∧ H x.2.1 = none ∧ x.2.2.length ≤ i
  u : UB H' D gs
section
variable {P : Program} {w : World} {K : PySem.W.Frag} {mg : Str → Option Value} {base : Heap} {C : Addr}
def spUb (K : PySem.W.Frag) (C : Addr) : Sp := fun vs H Q _ => ∃ (sa h : Addr) (b : Sh) (cs : List Ch), vs = [.ref sa, .ref h] ∧ ShAt C H sa b ∧ HoAt K H h cs b.pl ∧ ∀ D H' gs, Same H H' → H D = none → UB H' D gs → gpl gs = grpN (placeN cs b) (unitsL b) → (∀ x ∈ gs, H x.2.1 = none ∧ x.2.2.length ≤ 98) → Q (.ref D) H'
theorem ok_ubu {f fA fP : Addr} {fd dA dP : FuncData} (F : Fun K "units_by_up" "units_by_up" sUbu f fd) (DA : Df P w K mg base CX0 1 "all_units" ["shape"] (spAu C) fA dA) (DP : Df P w K mg base CX0 3 "place_of" ["shape", "home", "unit"] (spPoU K C) fP dP) : FnOk P w K mg base CX0 4 f fd ["shape", "home"] (spUb K C) := by
  refine F.ok scUbu (fun vs H Q E h => ?_) (fun cdv A outer s H vs Q E hr h => ?_)
  · obtain ⟨sa, h, b, cs, rfl, _⟩ := h
    rfl
  · obtain ⟨sa, h, b, cs, rfl, S, Ho, k⟩ := h
    have nd := scUbu.nd
    have h1 : Room 1 _ := hr.mono (by decide)
    refine ⟨_, pss_cons (ps_set (i := 2) nd rfl (.inl rfl) pe_dnewK)
      (pss_cons (ps_for PassesOwn.never rfl (pi_list (pe_call DA.G h1 rfl DA.g DA.kp DA.b .nil pass0 (pa_cons (pv 0) pa_nil))) (pg_name (i := 3) nd rfl (.inl rfl))
        (pss_cons (ps_set (i := 4) nd rfl (.inl rfl) (pe_call DP.G hr rfl DP.g DP.kp DP.b .nil pass0 (pa_cons (pv 0) (pa_cons (pv 1) (pa_cons (pv 3) pa_nil)))))
        (pss_one (ps_if (pt_cmpR op_notN (pv 4) pe_non (nomark _)) (pss_one (ps_expr (pe_bm PySem.F.plainAttrs_list PySem.F.slot_list_append PySem.F.type_list_append mt_append (pe_dsetd (pv 2) (pe_ix ix_tup (pv 4) pe_int (fun _ _ => rfl)) (pe_lst pa_nil) ⟨rfl, rfl, rfl, rfl⟩) (pa_cons (pv 3) pa_nil)))) pss_nil))))
      (pss_one (ps_ret (pv 2)))), ?_⟩
    intro D hD
    have s0 := same_upd (o := .dK []) hD
    refine ⟨_, rfl, sa, b, rfl, S.same s0, fun LA H1 s1 hLA A1 => ?_⟩
    obtain ⟨ua, ea, da⟩ := A1
    have hual := dps_len da
    rw [List.length_map] at hual
    have hu98 := units_len b
    have nLD : LA ≠ D := fun z => by rw [z, upd_same] at hLA; cases hLA
    refine ⟨LA, rfl, ⟨ua, SqL.of ea⟩, for_list (K := K) (a := LA) (xs := ua) (fun i σ H' => ∃ y3 y4 gs, σ = [some (.ref sa), some (.ref h), some (.ref D), y3, y4] ∧ UbI H H1 H' D LA ua gs i ∧ gpl gs = grpN (placeN cs b) ((unitsL b).take i)) ?_ (fun i σ H' _ z => by
        obtain ⟨_, _, gs, _, I, _⟩ := z
        exact SqL.of I.e) ?_ ?_⟩
    · exact ⟨none, none, [], rfl, ⟨s0.trans s1, ea, Same.refl _, (fun x hx => by cases hx), ⟨s1 _ _ upd_same, .nil, .nil, (fun x hx => by cases hx)⟩⟩, rfl⟩
    · rintro i x σ H' hi ⟨y3, y4, gs, rfl, I, hg⟩
      obtain ⟨u, hu, hd⟩ := dpu_at da hi
      have hd' := dp_same I.t _ _ hd
      obtain ⟨t, rfl, et⟩ := dpu_un hd'
      have hil := (List.getElem?_eq_some_iff.mp hu).1
      have hgl : gs.length ≤ i := by
        have h9 := grp_len (placeN cs b) ((unitsL b).take i)
        rw [← hg] at h9
        unfold gpl at h9
        rw [List.length_map, List.length_take] at h9
        omega
      have hT : (unitsL b).take (i + 1) = (unitsL b).take i ++ [u] := by rw [List.take_succ, hu]; rfl
      refine ⟨_, rfl, _, rfl, _, rfl, sa, h, t, b, cs, u, rfl, S.same I.s, Ho.same I.s, et, fun H2 v s2 dv => ⟨_, rfl, rfl, _, rfl, ?_⟩⟩
      rcases dpu_pl dv with ⟨hno, rfl⟩ | ⟨y, q, hs, rfl, eq⟩
      · refine iteF ⟨_, _, gs, rfl, ⟨I.s.trans s2, s2 _ _ I.e, I.t.trans (tu_same s2), fun x hx => ⟨(I.n x hx).1, (I.n x hx).2.1, Nat.le_succ_of_le (I.n x hx).2.2⟩, I.u.same s2⟩, ?_⟩
        rw [hT, grp_more, hno]
        exact hg
      · have U2 := I.u.same s2
        refine iteT ⟨_, rfl, D, rfl, .inl ⟨_, .inl U2.e⟩, _, rfl, q, _, 0, _, rfl, rfl, SqT.of eq, atI_nat (j := 0) rfl, Nat.zero_le _, fun l0 hl0 => ?_⟩
        have s3 := same_upd (o := .lst []) hl0
        have s23 := s2.trans s3
        have sH3 := I.s.trans s23
        have U3 := U2.same s3
        have et3 := s23 _ _ et
        have eLA3 := s23 _ _ I.e
        have t3 := I.t.trans (tu_same s23)
        have nl0D : l0 ≠ D := fun z => by have := U2.e; rw [z] at hl0; rw [hl0] at this; cases this
        have nl0L : l0 ≠ LA := fun z => by have := s2 _ _ I.e; rw [z] at hl0; rw [hl0] at this; cases this
        have hl0H : H l0 = none := (I.s.trans s2).free hl0
        have e03 : upd H2 l0 (.lst []) l0 = some (.lst []) := upd_same
        obtain ⟨g1, g2⟩ := gkv_val (gs := gs) (k := y.1)
        have hnl : ∀ x ∈ gs, x.2.1 ≠ l0 := fun x hx z => by
          obtain ⟨us, e, _⟩ := U2.l x hx
          rw [z, hl0] at e
          cases e
        generalize upd H2 l0 (.lst []) = H3 at s3 s23 sH3 U3 et3 eLA3 t3 e03 ⊢
        refine ⟨gkv gs, Sum.inl y.1, U3.e, rfl, by unfold gkv; rw [List.length_map, sizeLine_eq]; omega, fun v hv => ?_, fun hv => ?_⟩
        · obtain ⟨x, hx, ex, rfl⟩ := g1 v hv
          obtain ⟨us, eus, dus⟩ := U3.l x hx
          have hul := dps_len dus
          rw [List.length_map] at hul
          have hxn := I.n x hx
          have hany : (gs.any fun x => decide (x.1 = y.1)) = true := List.any_eq_true.mpr ⟨x, hx, decide_eq_true ex⟩
          have fW : Fr [x.2.1] H3 (upd H3 x.2.1 (.lst (us ++ [.ref t]))) := .put (by simp) fun o z => by rw [eus] at z; cases z; rfl
          refine ⟨.inl ⟨rfl, _, SqL.of eus⟩, _, rfl, x.2.1, us, .ref t, rfl, rfl, eus, by rw [hul, sizeLine_eq]; omega, _, _, gput gs y.1 u, rfl, ⟨?_, ?_, ?_, ?_, ?_⟩, ?_⟩
          · intro c o e
            rw [upd_ne (ne_of_none e hxn.2.1)]
            exact sH3 _ _ e
          · exact fW.at eLA3 (by simp [hxn.1.symm])
          · exact t3.trans (tu_fr fW)
          · intro z hz
            obtain ⟨z0, hz0, rfl⟩ := List.mem_map.mp hz
            have h0 := I.n z0 hz0
            by_cases c : z0.1 = y.1
            · rw [if_pos c]
              exact ⟨h0.1, h0.2.1, by show (z0.2.2 ++ [u]).length ≤ i + 1; rw [List.length_append]; have := h0.2.2; simp; exact this⟩
            · rw [if_neg c]
              exact ⟨h0.1, h0.2.1, Nat.le_succ_of_le h0.2.2⟩
          · rw [← ex]
            exact U3.more hx eus et3
          · rw [gpl_put hany, hg, hT, grp_more, hs]
        · have hany := g2 hv
          have fD : Fr [D] H3 (upd H3 D (.dK (putK (gkv gs) (Sum.inl y.1) (.ref l0)))) := .put (by simp) fun o z => by rw [U3.e] at z; cases z; rfl
          have e04 := fD.at e03 (by simp [nl0D])
          have fL : Fr [l0] (upd H3 D (.dK (putK (gkv gs) (Sum.inl y.1) (.ref l0)))) (upd (upd H3 D (.dK (putK (gkv gs) (Sum.inl y.1) (.ref l0)))) l0 (.lst ([] ++ [.ref t]))) := .put (by simp) fun o z => by rw [e04] at z; cases z; rfl
          refine ⟨.inl ⟨rfl, _, SqL.of e04⟩, _, rfl, l0, [], .ref t, rfl, rfl, e04, by decide, _, _, gs ++ [(y.1, l0, [u])], rfl, ⟨?_, ?_, ?_, ?_, ?_⟩, ?_⟩
          · intro c o e
            rw [upd_ne (ne_of_none e hl0H), upd_ne (ne_of_none e hD)]
            exact sH3 _ _ e
          · exact fL.at (fD.at eLA3 (by simp [nLD])) (by simp [nl0L.symm])
          · exact (t3.trans (tu_fr fD)).trans (tu_fr fL)
          · intro z hz
            rcases List.mem_append.mp hz with hm | hm
            · have h0 := I.n z hm
              exact ⟨h0.1, h0.2.1, Nat.le_succ_of_le h0.2.2⟩
            · rw [List.mem_singleton.mp hm]
              exact ⟨nl0L, hl0H, by show 1 ≤ i + 1; omega⟩
          · exact U3.fresh e03 hnl hany et3
          · rw [gpl_new hany, hg, hT, grp_more, hs]
    · rintro σ H' ⟨y3, y4, gs, rfl, I, hg⟩
      rw [hual, List.take_length] at hg
      exact ⟨_, rfl, k D H' gs I.s hD I.u hg fun x hx => ⟨(I.n x hx).2.1, by have := (I.n x hx).2.2; omega⟩⟩
end
end Pf

set_option Elab.async false
set_option linter.all false
set_option maxRecDepth 100000
set_option maxHeartbeats 4000000
namespace Pf
open PySem PySem.Spec PyProof.Rows L2
/-! ### dicts as data -/
section
variable {α κ : Type} [DecidableEq α] [DecidableEq κ]
def lookA (m : List (α × PyData)) (a : α) : Option PyData := (m.find? fun x => decide (x.1 = a)).map (·.2)
def putA (m : List (α × PyData)) (a : α) (d : PyData) : List (α × PyData) := if (m.any fun x => decide (x.1 = a)) = true then m.map (fun x => if x.1 = a then (x.1, d) else x) else m ++ [(a, d)]
theorem lookA_pos {m : List (α × PyData)} {x : α × PyData} {a : α} (h : x.1 = a) : lookA (x :: m) a = some x.2 := by
  unfold lookA
  rw [List.find?_cons_of_pos (by simp [h])]
  rfl
theorem lookA_neg {m : List (α × PyData)} {x : α × PyData} {a : α} (h : ¬ x.1 = a) : lookA (x :: m) a = lookA m a := by
  unfold lookA
  rw [List.find?_cons_of_neg (by simp [h])]
structure DD (H : Hp) (kvs : List (κ × V)) (f : α → κ) (m : List (α × PyData)) : Prop where
  k : kvs.map (·.1) = m.map fun x => f x.1
  v : DpAll [] (Tu H) (kvs.map (·.2)) (m.map (·.2))
theorem DD.fr {H H' : Hp} {kvs : List (κ × V)} {f : α → κ} {m : List (α × PyData)} (D : DD H kvs f m) (s : Same (Tu H) (Tu H')) : DD H' kvs f m := ⟨D.k, dps_same s _ _ D.v⟩
theorem DD.len {H : Hp} {kvs : List (κ × V)} {f : α → κ} {m : List (α × PyData)} (D : DD H kvs f m) : kvs.length = m.length := by
  have := congrArg List.length D.k
  simpa using this
theorem DD.cons_inv {H : Hp} {p : κ × V} {kvs : List (κ × V)} {f : α → κ} {x : α × PyData} {m : List (α × PyData)} (D : DD H (p :: kvs) f (x :: m)) : p.1 = f x.1 ∧ Dp [] (Tu H) p.2 x.2 ∧ DD H kvs f m := by
  obtain ⟨h1, h2⟩ := D
  rw [List.map_cons, List.map_cons] at h1
  obtain ⟨a1, a2⟩ := List.cons.inj h1
  rw [List.map_cons, List.map_cons] at h2
  cases h2 with
  | cons b1 b2 => exact ⟨a1, b1, a2, b2⟩
theorem DD.get {H : Hp} {f : α → κ} (hf : ∀ a b, f a = f b → a = b) : ∀ {kvs : List (κ × V)} {m : List (α × PyData)} (D : DD H kvs f m) (a : α), (lookA m a = none → valV kvs (f a) = none) ∧ ∀ d, lookA m a = some d → ∃ v, valV kvs (f a) = some v ∧ Dp [] (Tu H) v d
  | [], [], _, a => ⟨fun _ => rfl, fun d h => by cases h⟩
  | [], x :: m, D, a => by have := D.len; simp at this
  | p :: kvs, [], D, a => by have := D.len; simp at this
  | p :: kvs, x :: m, D, a => by
    obtain ⟨e, hv, D'⟩ := D.cons_inv
    obtain ⟨h1, h2⟩ := DD.get hf D' a
    by_cases c : x.1 = a
    · have e1 : valV (p :: kvs) (f a) = some p.2 := valV_pos (by rw [e, c])
      refine ⟨fun h => (by rw [lookA_pos c] at h; cases h), fun d h => ?_⟩
      rw [lookA_pos c] at h
      cases h
      exact ⟨p.2, e1, hv⟩
    · have e1 : valV (p :: kvs) (f a) = valV kvs (f a) := valV_neg fun z => c (hf _ _ (by rw [← e, z]))
      rw [lookA_neg c, e1]
      exact ⟨h1, h2⟩
theorem DD.any {H : Hp} {f : α → κ} (hf : ∀ a b, f a = f b → a = b) : ∀ {kvs : List (κ × V)} {m : List (α × PyData)} (D : DD H kvs f m) (a : α), (kvs.any fun kv => decide (kv.1 = f a)) = (m.any fun x => decide (x.1 = a))
  | [], [], _, a => rfl
  | [], x :: m, D, a => by have := D.len; simp at this
  | p :: kvs, [], D, a => by have := D.len; simp at this
  | p :: kvs, x :: m, D, a => by
    obtain ⟨e, hv, D'⟩ := D.cons_inv
    rw [List.any_cons, List.any_cons, DD.any hf D' a, e]
    congr 1
    by_cases c : x.1 = a
    · rw [decide_eq_true c, decide_eq_true (by rw [c])]
    · rw [decide_eq_false c, decide_eq_false fun z => c (hf _ _ z)]
theorem DD.map {H : Hp} {f : α → κ} (hf : ∀ a b, f a = f b → a = b) {v : V} {d : PyData} (hv : Dp [] (Tu H) v d) (a : α) : ∀ {kvs : List (κ × V)} {m : List (α × PyData)} (D : DD H kvs f m), DD H (kvs.map fun kv => if kv.1 = f a then (kv.1, v) else kv) f (m.map fun x => if x.1 = a then (x.1, d) else x)
  | [], [], _ => ⟨rfl, .nil⟩
  | [], x :: m, D => by have := D.len; simp at this
  | p :: kvs, [], D => by have := D.len; simp at this
  | p :: kvs, x :: m, D => by
    obtain ⟨e, hp, D'⟩ := D.cons_inv
    have ih := DD.map hf hv a D'
    by_cases c : x.1 = a
    · have c2 : p.1 = f a := by rw [e, c]
      rw [List.map_cons, List.map_cons, if_pos c, if_pos c2]
      exact ⟨by rw [List.map_cons, List.map_cons, ih.k, e], by rw [List.map_cons, List.map_cons]; exact .cons hv ih.v⟩
    · have c2 : ¬ p.1 = f a := fun z => c (hf _ _ (by rw [← e, z]))
      rw [List.map_cons, List.map_cons, if_neg c, if_neg c2]
      exact ⟨by rw [List.map_cons, List.map_cons, ih.k, e], by rw [List.map_cons, List.map_cons]; exact .cons hp ih.v⟩
theorem DD.put {H : Hp} {f : α → κ} (hf : ∀ a b, f a = f b → a = b) {kvs : List (κ × V)} {m : List (α × PyData)} (D : DD H kvs f m) {a : α} {v : V} {d : PyData} (hv : Dp [] (Tu H) v d) : DD H (putK kvs (f a) v) f (putA m a d) := by
  unfold putK putA
  rw [D.any hf a]
  split
  · exact D.map hf hv a
  · exact ⟨by rw [List.map_append, List.map_append, D.k]; rfl, by rw [List.map_append, List.map_append]; exact dps_app D.v (.cons hv .nil)⟩
end
def pK (x : Int × Int) : List Key := [Sum.inl x.1, Sum.inl x.2]
theorem pK_inj : ∀ a b : Int × Int, pK a = pK b → a = b := fun a b h => by
  unfold pK at h
  obtain ⟨h1, h2⟩ := List.cons.inj h
  exact Prod.ext (Sum.inl.inj h1) (Sum.inl.inj (List.cons.inj h2).1)
/-! ### groups -/
abbrev Gp := List ((Int × Int) × List Un)
def addP (g : Gp) (y : Int × Int) (u : Un) : Gp := if (g.any fun x => decide (x.1 = y)) = true then g.map (fun x => if x.1 = y then (x.1, x.2 ++ [u]) else x) else g ++ [(y, [u])]
def gsN (pl : Un → Option (Int × Int)) (l : List Un) : Gp := l.foldl (fun g u => match pl u with | none => g | some y => if y.1 = 1 then g else addP g y u) []
theorem gs_more (pl : Un → Option (Int × Int)) (l : List Un) (u : Un) : gsN pl (l ++ [u]) = match pl u with | none => gsN pl l | some y => if y.1 = 1 then gsN pl l else addP (gsN pl l) y u := by
  unfold gsN
  rw [List.foldl_append]
  rfl
def gpD (g : Gp) : List ((Int × Int) × PyData) := g.map fun x => (x.1, .tuple (x.2.map uD))
def lookP (g : Gp) (y : Int × Int) : List Un := ((g.find? fun x => decide (x.1 = y)).map (·.2)).getD []
theorem addP_len (g : Gp) (y : Int × Int) (u : Un) : (addP g y u).length ≤ g.length + 1 := by
  unfold addP
  split <;> simp
theorem gs_len (pl : Un → Option (Int × Int)) : ∀ l : List Un, (gsN pl l).length ≤ l.length := snoc_ind (Nat.le_refl _) fun l u ih => by
  rw [gs_more, List.length_append]
  cases e : pl u with
  | none => simp; omega
  | some y =>
    have := addP_len (gsN pl l) y u
    simp
    split <;> omega
theorem gpD_look : ∀ (g : Gp) (y : Int × Int), (lookA (gpD g) y = none ∧ lookP g y = [] ∧ (g.any fun x => decide (x.1 = y)) = false) ∨ (lookA (gpD g) y = some (.tuple ((lookP g y).map uD)) ∧ (g.any fun x => decide (x.1 = y)) = true)
  | [], y => .inl ⟨rfl, rfl, rfl⟩
  | x :: g, y => by
    by_cases c : x.1 = y
    · refine .inr ⟨?_, by rw [List.any_cons, decide_eq_true c]; rfl⟩
      have e1 : lookP (x :: g) y = x.2 := by
        unfold lookP
        rw [List.find?_cons_of_pos (by simp [c])]
        rfl
      rw [e1]
      exact lookA_pos (x := (x.1, PyData.tuple (x.2.map uD))) c
    · have e1 : lookP (x :: g) y = lookP g y := by
        unfold lookP
        rw [List.find?_cons_of_neg (by simp [c])]
      have e2 : lookA (gpD (x :: g)) y = lookA (gpD g) y := lookA_neg (x := (x.1, PyData.tuple (x.2.map uD))) c
      rw [e1, e2, List.any_cons, decide_eq_false c]
      exact gpD_look g y
theorem gpD_any (g : Gp) (y : Int × Int) : ((gpD g).any fun x => decide (x.1 = y)) = (g.any fun x => decide (x.1 = y)) := by
  unfold gpD
  rw [List.any_map]
  rfl
theorem lookP_in {g : Gp} (hn : (g.map (·.1)).Nodup) {x : (Int × Int) × List Un} (hx : x ∈ g) : lookP g x.1 = x.2 := by
  induction g with
  | nil => cases hx
  | cons z g ih =>
    have h1 := List.nodup_cons.mp hn
    by_cases c : z.1 = x.1
    · have : z = x := nodup_inj (f := fun q : (Int × Int) × List Un => q.1) hn List.mem_cons_self hx c
      subst this
      unfold lookP
      rw [List.find?_cons_of_pos (by simp)]
      rfl
    · have e1 : lookP (z :: g) x.1 = lookP g x.1 := by
        unfold lookP
        rw [List.find?_cons_of_neg (by simp [c])]
      rw [e1]
      rcases List.mem_cons.mp hx with e | m
      · exact absurd (by rw [e]) c
      · exact ih h1.2 m
theorem addP_keys (g : Gp) (y : Int × Int) (u : Un) : (addP g y u).map (·.1) = if (g.any fun x => decide (x.1 = y)) = true then g.map (·.1) else g.map (·.1) ++ [y] := by
  unfold addP
  split
  · rw [List.map_map]
    apply List.map_congr_left
    intro x _
    by_cases c : x.1 = y <;> simp [c]
  · simp
theorem addP_nodup {g : Gp} (h : (g.map (·.1)).Nodup) (y : Int × Int) (u : Un) : ((addP g y u).map (·.1)).Nodup := by
  rw [addP_keys]
  split
  · exact h
  · rename_i c
    rw [List.nodup_append]
    refine ⟨h, by simp, fun a ha b hb e => c ?_⟩
    obtain ⟨z, hz, rfl⟩ := List.mem_map.mp ha
    exact List.any_eq_true.mpr ⟨z, hz, decide_eq_true (by rw [e, List.mem_singleton.mp hb])⟩
theorem gs_nodup (pl : Un → Option (Int × Int)) : ∀ l : List Un, ((gsN pl l).map (·.1)).Nodup := snoc_ind .nil fun l u ih => by
  rw [gs_more]
  cases e : pl u with
  | none => exact ih
  | some y =>
    show (List.map (·.1) (if y.1 = 1 then gsN pl l else addP (gsN pl l) y u)).Nodup
    by_cases c : y.1 = 1
    · rw [if_pos c]; exact ih
    · rw [if_neg c]; exact addP_nodup ih y u
theorem putA_addP {g : Gp} (hn : (g.map (·.1)).Nodup) (y : Int × Int) (u : Un) : putA (gpD g) y (.tuple ((lookP g y ++ [u]).map uD)) = gpD (addP g y u) := by
  unfold putA addP
  rw [gpD_any]
  split
  · unfold gpD
    rw [List.map_map, List.map_map]
    apply List.map_congr_left
    intro x hx
    by_cases c : x.1 = y
    · have := lookP_in hn hx
      rw [c] at this
      simp [c, this]
    · simp [c]
  · rename_i c
    have : lookP g y = [] := by
      rcases gpD_look g y with h | h
      · exact h.2.1
      · rw [h.2] at c; exact absurd rfl c
    rw [this, List.nil_append]
    unfold gpD
    rw [List.map_append]
    rfl
theorem cat_use {K : PySem.W.Frag} {a b : Addr} {xs ys : List V} {H : Hp} {Q : VK} (h1 : SqT K H a xs) (h2 : SqT K H b ys) (hl : xs.length + ys.length ≤ sizeLine) (k : ∀ p H', Same H H' → SqT K H' p (xs ++ ys) → Q (.ref p) H') : rCatA K (.ref a) (.ref b) H Q := by
  refine ⟨a, b, xs, ys, rfl, rfl, h1, h2, hl, fun z => ?_, fun _ z => ?_, fun _ _ p hp => k p _ (same_upd hp) (.inl (.inl upd_same))⟩
  · subst z
    exact k b H (Same.refl _) h2
  · subst z
    exact k a H (Same.refl _) (by rw [List.append_nil]; exact h1)
theorem cat_un {K : PySem.W.Frag} {a b : Addr} {xs ys : List V} {H : Hp} {Q : VK} (h1 : H a = some (.tup xs)) (h2 : H b = some (.tup ys)) (hl : xs.length + ys.length ≤ sizeLine) (k : ∀ p H', Same H H' → H' p = some (.tup (xs ++ ys)) → Q (.ref p) H') : rCatA K (.ref a) (.ref b) H Q := by
  refine ⟨a, b, xs, ys, rfl, rfl, SqT.of h1, SqT.of h2, hl, fun z => ?_, fun _ z => ?_, fun _ _ p hp => k p _ (same_upd hp) upd_same⟩
  · subst z
    exact k b H (Same.refl _) h2
  · subst z
    exact k a H (Same.refl _) (by rw [List.append_nil]; exact h1)
abbrev NGo : List Str := ["shape", "home", "units", "groups", "unit", "place"]
theorem scGo : FnScope NGo ["shape", "home", "units"] (defScope sGo) := ⟨rfl, rfl, rfl, by decide +kernel, rfl, by decide +kernel, by decide +kernel⟩
theorem lookP_len (pl : Un → Option (Int × Int)) : ∀ l : List Un, ∀ x ∈ gsN pl l, x.2.length ≤ l.length := snoc_ind (fun x hx => by cases hx) fun l u ih => by
  rw [gs_more, List.length_append]
  have ih' : ∀ x ∈ gsN pl l, x.2.length ≤ l.length + [u].length := fun x hx => Nat.le_trans (ih x hx) (by simp)
  cases e : pl u with
  | none => exact ih'
  | some y =>
    show ∀ x ∈ (if y.1 = 1 then gsN pl l else addP (gsN pl l) y u), x.2.length ≤ l.length + [u].length
    by_cases c : y.1 = 1
    · rw [if_pos c]; exact ih'
    · rw [if_neg c]
      intro x hx
      unfold addP at hx
      split at hx
      · obtain ⟨z, hz, rfl⟩ := List.mem_map.mp hx
        by_cases c2 : z.1 = y
        · rw [if_pos c2]
          show (z.2 ++ [u]).length ≤ _
          rw [List.length_append]
          have := ih z hz
          simp
          exact this
        · rw [if_neg c2]; exact ih' z hz
      · rcases List.mem_append.mp hx with m | m
        · exact ih' x m
        · rw [List.mem_singleton.mp m]
          simp
theorem look_small {g : Gp} {n : Nat} (h : ∀ x ∈ g, x.2.length ≤ n) (y : Int × Int) : (lookP g y).length ≤ n := by
  unfold lookP
  cases e : g.find? fun x => decide (x.1 = y) with
  | none => exact Nat.zero_le _
  | some x => exact h x (List.mem_of_find?_eq_some e)
section
variable {P : Program} {w : World} {K : PySem.W.Frag} {mg : Str → Option Value} {base : Heap} {C : Addr}
def GpAt (H : Hp) (D : Addr) (g : Gp) : Prop := ∃ kvs, H D = some (.dT kvs) ∧ DD H kvs pK (gpD g)
def spGo (K : PySem.W.Frag) (C : Addr) : Sp := fun vs H Q _ => ∃ (sa h L : Addr) (b : Sh) (cs : List Ch) (l : List Un), vs = [.ref sa, .ref h, .ref L] ∧ ShAt C H sa b ∧ HoAt K H h cs b.pl ∧ LsU H L (l.map uD) ∧ l.length ≤ 98 ∧ ∀ D H', Same H H' → H D = none → GpAt H' D (gsN (placeN cs b) l) → Q (.ref D) H'
theorem ok_go {f fP : Addr} {fd dP : FuncData} (F : Fun K "groups_of" "groups_of" sGo f fd) (DP : Df P w K mg base CX0 3 "place_of" ["shape", "home", "unit"] (spPoU K C) fP dP) {t1 : Tok} (mF : mg "FOUND" = some (.int 1 t1)) : FnOk P w K mg base CX0 4 f fd ["shape", "home", "units"] (spGo K C) := by
  refine F.ok scGo (fun vs H Q E h => ?_) (fun cdv A outer s H vs Q E hr h => ?_)
  · obtain ⟨sa, h, L, b, cs, l, rfl, _⟩ := h
    rfl
  · obtain ⟨sa, h, L, b, cs, l, rfl, S, Ho, AL, hl98, k⟩ := h
    have nd := scGo.nd
    have hu := hu_of hr
    refine ⟨_, pss_cons (ps_set (i := 3) nd rfl (.inl rfl) pe_dnewT)
      (pss_cons (ps_for PassesOwn.never rfl (pi_list (pv 2)) (pg_name (i := 4) nd rfl (.inl rfl))
        (pss_cons (ps_set (i := 5) nd rfl (.inl rfl) (pe_call DP.G hr rfl DP.g DP.kp DP.b .nil pass0 (pa_cons (pv 0) (pa_cons (pv 1) (pa_cons (pv 4) pa_nil)))))
        (pss_one (ps_if (PW.pt (pw_and (pt_cmpR op_notN (pv 5) pe_non (nomark _)) (pw_and1 (pt_cmpR op_ne (pe_ix ix_tup (pv 5) pe_int (fun _ _ => rfl)) (pe_glob (v := .int 1) rfl mF ⟨_, rfl⟩) (nomark _)))))
          (pss_one (ps_dput hu (pv 3) (pv 5) (pe_op op_catA (pe_dget2 hu (pv 3) (pv 5) (pe_tup pa_nil) ⟨rfl, rfl, rfl, rfl⟩) (pe_tup (pa_cons (pv 4) pa_nil))) rfl)) pss_nil))))
      (pss_one (ps_ret (pv 3)))), ?_⟩
    intro D hD
    have s0 := same_upd (o := .dT []) hD
    obtain ⟨ul, eL, dL⟩ := AL
    have hul := dps_len dL
    rw [List.length_map] at hul
    have nLD : L ≠ D := fun z => by rw [z, hD] at eL; cases eL
    refine ⟨_, rfl, L, rfl, ⟨ul, SqL.of (s0 _ _ eL)⟩, for_list (K := K) (a := L) (xs := ul) (fun i σ H' => ∃ y4 y5, σ = [some (.ref sa), some (.ref h), some (.ref L), some (.ref D), y4, y5] ∧ Same H H' ∧ GpAt H' D (gsN (placeN cs b) (l.take i))) ⟨none, none, rfl, s0, [], upd_same, ⟨rfl, .nil⟩⟩ (fun i σ H' _ z => by obtain ⟨_, _, _, z, _⟩ := z; exact SqL.of (z _ _ eL)) ?_ ?_⟩
    · rintro i x σ H' hi ⟨y4, y5, rfl, sH, kvs, eD, DDk⟩
      obtain ⟨u, hu', hd⟩ := dpu_at dL hi
      obtain ⟨t, rfl, et⟩ := dpu_un hd
      have hil := (List.getElem?_eq_some_iff.mp hu').1
      have hT : l.take (i + 1) = l.take i ++ [u] := by rw [List.take_succ, hu']; rfl
      have hkl : kvs.length ≤ i := by
        have h9 := gs_len (placeN cs b) (l.take i)
        have h8 := DDk.len
        unfold gpD at h8
        rw [List.length_map] at h8
        rw [List.length_take] at h9
        omega
      refine ⟨_, rfl, _, rfl, _, rfl, sa, h, t, b, cs, u, rfl, S.same sH, Ho.same sH, sH _ _ et, fun H2 v s2 dv => ⟨_, rfl, rfl, _, rfl, ?_⟩⟩
      have sH2 := sH.trans s2
      have DD2 := DDk.fr (tu_same s2)
      have eD2 := s2 _ _ eD
      rcases dpu_pl dv with ⟨hno, rfl⟩ | ⟨y, q, hs, rfl, eq⟩
      · refine iteF (iteF ⟨_, _, rfl, sH2, kvs, eD2, ?_⟩)
        rw [hT, gs_more, hno]
        exact DD2
      · refine iteT ⟨_, rfl, q, _, 0, _, rfl, rfl, SqT.of eq, atI_nat (j := 0) rfl, rfl, _, rfl, ?_⟩
        by_cases c : y.1 = 1
        · rw [decide_eq_true (by rw [c])]
          refine iteF ⟨_, _, rfl, sH2, kvs, eD2, ?_⟩
          rw [hT, gs_more, hs]
          show DD H2 kvs pK (gpD (if y.1 = 1 then _ else _))
          rw [if_pos c]
          exact DD2
        · rw [decide_eq_false (fun z => c (V.int.inj z))]
          have et2 := sH2 _ _ et
          refine iteT ⟨_, rfl, D, rfl, .inr ⟨_, .inl eD2⟩, _, rfl, Nat.zero_le _, fun e0 he0 => ?_⟩
          have s3 := same_upd (o := .tup []) he0
          have eD3 := s3 _ _ eD2
          have DD3 := DD2.fr (tu_same s3)
          have ee0 : upd H2 e0 (.tup []) e0 = some (.tup []) := upd_same
          have eq3 := s3 _ _ eq
          have et3 := s3 _ _ et2
          have sH3 := sH2.trans s3
          generalize upd H2 e0 (.tup []) = H3 at eD3 DD3 ee0 eq3 et3 sH3 ⊢
          obtain ⟨g1, g2⟩ := DD3.get pK_inj y
          have hsm := look_small (lookP_len (placeN cs b) (l.take i)) y
          rw [List.length_take] at hsm
          refine ⟨_, DGet.t (k := pK y) eD3 eq3, ?_⟩
          obtain ⟨tv, vs, ev, etv, dvs⟩ : ∃ tv vs, (valV kvs (pK y)).getD (.ref e0) = V.ref tv ∧ H3 tv = some (.tup vs) ∧ DpAll [] (Tu H3) vs ((lookP (gsN (placeN cs b) (l.take i)) y).map uD) := by
            rcases gpD_look (gsN (placeN cs b) (l.take i)) y with ⟨a1, a2, a3⟩ | ⟨a1, a2⟩
            · rw [g1 a1, a2]
              exact ⟨e0, [], rfl, ee0, .nil⟩
            · obtain ⟨v, hv, dv'⟩ := g2 _ a1
              obtain ⟨tv, vs, rfl, etv, dvs⟩ := dpu_tup dv'
              exact ⟨tv, vs, by rw [hv]; rfl, etv, dvs⟩
          have hvl := dps_len dvs
          rw [List.length_map] at hvl
          rw [ev]
          refine ⟨_, rfl, (by show 1 ≤ sizeLine; decide), fun p hp => ?_⟩
          have s4 := same_upd (o := .tup [V.ref t]) hp
          refine cat_un (K := K) (s4 _ _ etv) upd_same (by rw [hvl, sizeLine_eq]; simp; omega) fun r H5 s5 er => ?_
          have s45 := s4.trans s5
          have eD5 := s45 _ _ eD3
          have hD0 : Dp [] (Tu H5) (.ref r) (.tuple ((lookP (gsN (placeN cs b) (l.take i)) y ++ [u]).map uD)) := by
            rw [List.map_append]
            exact .tup (SqT.of (tu_at er)) (dps_app (dps_same (tu_same s45) _ _ dvs) (.cons (dpu_ofun (s45 _ _ et3)) .nil))
          have eput := DPut.t (k := pK y) (v := V.ref r) eD5 (s45 _ _ eq3) (by rw [sizeLine_eq]; omega)
          have fD : Fr [D] H5 (upd H5 D (.dT (putK kvs (pK y) (.ref r)))) := .put (by simp) fun o z => by rw [eD5] at z; cases z; rfl
          refine ⟨_, rfl, _, rfl, D, _, rfl, eput, _, _, rfl, fun c o e => by rw [upd_ne (ne_of_none e hD)]; exact s45 _ _ (sH3 _ _ e), _, upd_same, ?_⟩
          rw [hT, gs_more, hs]
          show DD _ _ pK (gpD (if y.1 = 1 then _ else _))
          rw [if_neg c, ← putA_addP (gs_nodup _ _)]
          exact ((DD3.fr (tu_same s45)).fr (tu_fr fD)).put pK_inj (dp_same (tu_fr fD) _ _ hD0)
    · rintro σ H' ⟨y4, y5, rfl, sH, G⟩
      rw [hul, List.take_length] at G
      exact ⟨_, rfl, k D H' sH hD G⟩
end
end Pf

set_option Elab.async false
set_option linter.all false
set_option maxRecDepth 100000
set_option maxHeartbeats 4000000
namespace L2
open PySem PySem.Spec PyProof.Rows PySem.W
theorem vals_each : ∀ {bs : List (V × PyData)} {us : List Value}, Vals (bs.map (·.1)) us → EachIs (fun v (b : V × PyData) => RelV b.1 v) us bs
  | [], _, .nil => .nil
  | _ :: _, _, .cons r rs => .cons r (vals_each rs)
theorem each_vals : ∀ {bs : List (V × PyData)} {us : List Value}, EachIs (fun v (b : V × PyData) => RelV b.1 v) us bs → Vals (bs.map (·.1)) us
  | _, _, .nil => .nil
  | _, _, .cons r rs => .cons r (each_vals rs)
theorem each_with {α β : Type} {R S : α → β → Prop} : ∀ {us : List α} {bs : List β}, EachIs R us bs → (∀ u b, b ∈ bs → R u b → S u b) → EachIs S us bs
  | _, _, .nil, _ => .nil
  | _, _, .cons r rs, h => .cons (h _ _ List.mem_cons_self r) (each_with rs fun u b m => h u b (List.mem_cons_of_mem _ m))
/-- sorted(xs) of told data: as data, in order -/
def rSortedDp (K : PySem.W.Frag) : List V → Hp → VK → Prop := fun vs H Q => ∃ (a : Addr) (bs : List (V × PyData)), vs = [V.ref a] ∧ SqL K H a (bs.map (·.1)) ∧ (∀ b ∈ bs, Dp K H b.1 b.2) ∧ AllAlike (bs.map (·.2)) ∧ Sortable (bs.map (·.2)) ∧ (∀ b ∈ bs, b.2.depth ≤ 40) ∧
  ∀ p, H p = none → Q (.ref p) (upd H p (.lst ((bs.mergeSort (dataLe false fun b : V × PyData => b.2)).map (·.1))))
section
variable {X : Cx}
theorem cr_sortedDp (hu : X.A.units + 64 < cLine) : CallR X (.builtin "sorted") (rSortedDp X.K) := by
  intro pins s σ H vs us Q I r h
  obtain ⟨a, bs, rfl, hs, hd, hal, hso, hdp, q⟩ := h
  obtain ⟨its, rv, hl, hz⟩ := I.list hs
  obtain ⟨u, rfl, ru⟩ := vals1 r
  obtain rfl : u = Value.ref a := ru
  have e := vals_each rv
  have hbl : bs.length ≤ sizeLine := by rw [List.length_map] at hz; exact hz
  refine sorted_data (enc := fun b : V × PyData => b.2) hl.isList e (each_with e fun v b hb r => Dp.reads I b.2 b.1 v (hd b hb) r) hal hso hbl (fun b hb => ?_) fun out ho eo => ?_
  · have := hdp b hb
    omega
  · obtain ⟨c, hc⟩ := sortedAll_at s.heap its (List.toArray out)
    refine ⟨.ref (s.heap.objs.size + 1), upd H (s.heap.objs.size + 1) (.lst ((bs.mergeSort (dataLe false fun b : V × PyData => b.2)).map (·.1))), I.laid (t' := s.toks) (fun b o q => sortedAll_old q) (Nat.le_succ _) ⟨?_, out, c, each_vals eo, hc⟩, rfl, q _ (I.hok.fresh (Nat.le_succ _))⟩
    rw [List.length_map, List.length_mergeSort]
    exact hbl
/-- what stands in the result, one by one -/
theorem sort_at {bs : List (V × PyData)} {i : Nat} {v : V} (h : ((bs.mergeSort (dataLe false fun b : V × PyData => b.2)).map (·.1))[i]? = some v) : ∃ b ∈ bs, v = b.1 ∧ ((bs.map (·.2)).mergeSort (dataLe false id))[i]? = some b.2 := by
  rw [List.getElem?_map] at h
  cases e : (bs.mergeSort (dataLe false fun b : V × PyData => b.2))[i]? with
  | none => rw [e] at h; cases h
  | some b =>
    rw [e] at h
    have hm := List.mem_mergeSort.mp (List.mem_of_getElem? e)
    refine ⟨b, hm, (Option.some.inj h).symm, ?_⟩
    rw [← List.map_mergeSort (r := dataLe false fun b : V × PyData => b.2) (s := dataLe false id) (f := fun b : V × PyData => b.2) (fun _ _ _ _ => rfl), List.getElem?_map, e]
    rfl
theorem sort_all {K : PySem.W.Frag} {H : Hp} {bs : List (V × PyData)} (h : ∀ b ∈ bs, Dp K H b.1 b.2) : DpAll K H ((bs.mergeSort (dataLe false fun b : V × PyData => b.2)).map (·.1)) ((bs.map (·.2)).mergeSort (dataLe false id)) := by
  rw [← List.map_mergeSort (r := dataLe false fun b : V × PyData => b.2) (s := dataLe false id) (f := fun b : V × PyData => b.2) (fun _ _ _ _ => rfl)]
  have : ∀ l : List (V × PyData), (∀ b ∈ l, Dp K H b.1 b.2) → DpAll K H (l.map (·.1)) (l.map (·.2)) := fun l => by
    induction l with
    | nil => exact fun _ => .nil
    | cons b l ih => exact fun h => .cons (h b List.mem_cons_self) (ih fun c m => h c (List.mem_cons_of_mem _ m))
  exact this _ fun b hb => h b (List.mem_mergeSort.mp hb)
/-- sorted(d), d a dict whose keys are pairs of ints -/
abbrev leP : Int × Int → Int × Int → Bool := fun p q => decide (p.1 < q.1 ∨ (p.1 = q.1 ∧ p.2 ≤ q.2))
theorem paired_each {α β γ δ : Type} {F : α → β → Prop} {R : γ → δ → Prop} {f : α → δ} {g : β → γ} (h : ∀ a b, F a b → R (g b) (f a)) : ∀ {l : List α} {m : List β}, Paired F l m → EachIs R (m.map g) (l.map f)
  | _, _, .nil => .nil
  | _, _, .cons r rs => .cons (h _ _ r) (paired_each h rs)
theorem call_sortedDT2 (hc : X.calm = true) (hu : X.A.units + 64 < cLine) : CallR X (.builtin "sorted") (fun xs H Q => ∃ (d : Addr) (kvs : List (List Key × V)) (ns : List (Int × Int)), xs = [V.ref d] ∧ Rd H d (.dT kvs) ∧ kvs.map (·.1) = ns.map (fun k => [.inl k.1, .inl k.2]) ∧
    ∀ p bs, H p = none → EachIs (fun (v : V) (k : Int × Int) => ∃ t, v = .ref t ∧ H t = some (.tup [.int k.1, .int k.2])) bs (ns.mergeSort leP) → Q (.ref p) (upd H p (.lst bs))) := by
  intro pins s σ H xs us Q I r h
  obtain ⟨d, kvs, ns, rfl, hd, hpr, q⟩ := h
  obtain ⟨u, rfl, rx⟩ := r.one
  cases rx
  obtain ⟨z, hs, ks, pr, o, es, ep, ho, hx, hdt, he, hn⟩ := (show ObjOk X.prog X.w H s.heap d (.dT kvs) from hd.ok I.hok)
  have l1 : es.size = ks.length := size_of_entries he
  have l2 : kvs.length = ks.length := Paired.length pr
  refine Calls.call_function_entry PyProof.Rows.kind_sorted PyProof.Rows.plain_sorted PyProof.Rows.entry_sorted (PyProof.Rows.args_sorted1 _) ?_
  unfold Builtin.«sorted»
  refine wpAny_bind (m := checkCount "sorted" 1 1 _) (wpAny_pure ?_)
  refine wpAny_bind (PySem.W.kdu_collect (A := X.A.in1) (kdl_raw hs hx hdt) (I.ok.hd hc) ho (by omega) fun h' tk acc' kp it => ?_)
  have ea : acc'.toList = ks.map fun x => Value.ref x.2.1 := by
    have hl : acc'.toList.length = ks.length := by rw [Array.length_toList, it.1]; exact l1
    apply List.ext_getElem?
    intro j
    rw [List.getElem?_map]
    cases hj : acc'.toList[j]? with
    | none =>
      have h1 := List.getElem?_eq_none_iff.mp hj
      rw [List.getElem?_eq_none (by omega)]
      all_goals rfl
    | some v =>
      obtain ⟨en, hen, hv⟩ := it.2 j v (by rw [← Array.getElem?_toList]; exact hj)
      have qe := entry_at he j
      rw [hen] at qe
      cases hb : ks[j]? with
      | none =>
        rw [hb] at qe
        exact nomatch (show some en = none from qe)
      | some b =>
        rw [hb] at qe
        have e2 : en = entryOfKey (tupleKind (mixKind X.prog X.w)) b := Option.some.inj qe
        rw [hv, e2]
        all_goals rfl
  have hal : acc'.toList.length = ks.length := by rw [ea, List.length_map]
  have hz : acc'.toList.length ≤ sizeLine := by omega
  have hnl : ns.length = ks.length := by
    have := congrArg List.length hpr
    rw [List.length_map, List.length_map] at this
    omega
  have eR : EachIs (fun (v : Value) (k : Int × Int) => ∃ t, v = Value.ref t ∧ H t = some (.tup [.int k.1, .int k.2])) acc'.toList ns := by
    have h0 : EachIs (fun (v : Value) (k : List Key) => ∃ t, v = Value.ref t ∧ H t = some (.tup (k.map kV))) acc'.toList (kvs.map (·.1)) := by
      rw [ea]
      refine paired_each (F := _) (f := fun a : List Key × V => a.1) (g := fun x => Value.ref x.2.1) (fun a b hF => ?_) pr
      obtain ⟨e1, e2, _⟩ := hF
      exact ⟨_, rfl, e2⟩
    rw [hpr] at h0
    have : ∀ (l : List Value) (m : List (Int × Int)), EachIs (fun (v : Value) (k : List Key) => ∃ t, v = Value.ref t ∧ H t = some (.tup (k.map kV))) l (m.map fun k => [Sum.inl k.1, Sum.inl k.2]) → EachIs (fun (v : Value) (k : Int × Int) => ∃ t, v = Value.ref t ∧ H t = some (.tup [.int k.1, .int k.2])) l m := fun l m => by
      induction m generalizing l with
      | nil => intro h; cases h; exact .nil
      | cons k m ih =>
        intro h
        cases h with
        | cons a b => exact .cons a (ih _ b)
    exact this _ _ h0
  have I1 : Inv X pins σ H { s with heap := h', toks := tk } := I.kept kp
  refine wpAny_bind (wpAny_newList ?_ hz)
  have hoL : (h'.push (seqObj "list" acc'.toList.toArray 0)).get? h'.objs.size = some (seqObj "list" acc'.toList.toArray 0) := Heap.get?_push_size _ rfl
  have ho2 : ∀ b u, s.heap.get? b = some u → (h'.push (seqObj "list" acc'.toList.toArray 0)).get? b = some u := fun b u e => Heap.get?_push_of_some _ (kp _ _ e)
  show wpAny _ _ _ _ _ { s with heap := h'.push (seqObj "list" acc'.toList.toArray 0), toks := tk }
  have er : EachIs (fun (v : Value) (k : Int × Int) => ∃ as, Reads (h'.push (seqObj "list" acc'.toList.toArray 0)) v (.tuple [.int k.1, .int k.2]) as ∧ h'.objs.size ∉ as) acc'.toList ns := eR.mono fun v k ⟨t, ev, et⟩ => by
    subst ev
    obtain ⟨_, its2, r2, o, ho, hc, n, hd⟩ := I.hok _ _ et
    obtain ⟨u1, u2, rfl, ri, rj⟩ := vals2 r2
    obtain ⟨t1, rfl⟩ := ri
    obtain ⟨t2, rfl⟩ := rj
    exact ⟨_, .tuple (ho2 _ _ ho) hc hd (.cons (.int _ _) (.cons (.int _ _) .nil)), by simp⟩
  have hlen := eR.length
  refine wpAny_bind (wpAny_holding (list_sort_data (enc := fun k : Int × Int => PyData.tuple [.int k.1, .int k.2]) hoL eR er (AllAlike.of fun b b' => by simp [alike, alikeAll]) (.tuples fun b => ⟨_, _, rfl⟩) (by omega) (fun b _ => by simp only [PyData.depth, PyData.depthAll]; omega) fun out hlo eo => ?_))
  obtain ⟨e', he'⟩ := PyProof.Rows.sortedHeap_at (vs := acc'.toList) (out := out.toArray) hoL
  rw [show (dataLe false fun k : Int × Int => PyData.tuple [.int k.1, .int k.2]) = leP from dataLe_ii (fun k : Int × Int => k.1) (fun k : Int × Int => k.2)] at eo
  have hr : ∀ u ∈ out, ∃ a, u = Value.ref a := fun u hu => by
    have : ∀ (l : List Value) (m : List (Int × Int)), EachIs (fun (v : Value) (k : Int × Int) => ∃ t, v = Value.ref t ∧ H t = some (.tup [.int k.1, .int k.2])) l m → ∀ u ∈ l, ∃ a, u = Value.ref a := fun l m h => by
      induction h with
      | nil => intro u hu; cases hu
      | cons a b ih =>
        intro u hu
        rcases List.mem_cons.mp hu with e | m
        · obtain ⟨t, et, _⟩ := a
          exact ⟨t, by rw [e, et]⟩
        · exact ih u m
    exact this _ _ eo u hu
  have hlen2 : (out.map backV).length ≤ sizeLine := by rw [List.length_map]; omega
  refine wpAny_pure ⟨_, rfl, .ref h'.objs.size, upd H h'.objs.size (.lst (out.map backV)), I1.laid (t' := tk) (fun b u e => ?_) (Nat.le_refl _)
      (show ObjOk X.prog X.w _ _ _ (.lst (out.map backV)) from ⟨hlen2, out, e', vals_back hr, he'⟩), rfl, q _ _ (I1.hok.fresh (Nat.le_refl _)) ?_⟩
  · have hb : b < h'.objs.size := Heap.lt_size e
    rw [PyProof.Rows.sortedHeap_old (Nat.ne_of_lt hb) (by rw [size_push']; exact Nat.lt_succ_of_lt hb)]
    exact Heap.get?_push_of_some _ e
  · have : ∀ (l : List Value) (m : List (Int × Int)), EachIs (fun (v : Value) (k : Int × Int) => ∃ t, v = Value.ref t ∧ H t = some (.tup [.int k.1, .int k.2])) l m → EachIs (fun (v : V) (k : Int × Int) => ∃ t, v = .ref t ∧ H t = some (.tup [.int k.1, .int k.2])) (l.map backV) m := fun l m h => by
      induction h with
      | nil => exact .nil
      | cons a b ih =>
        obtain ⟨t, et, ht⟩ := a
        exact .cons ⟨t, by rw [et]; rfl, ht⟩ ih
    exact this _ _ eo
end
end L2

set_option Elab.async false
set_option linter.all false
set_option maxRecDepth 100000
set_option maxHeartbeats 4000000
namespace Pf
open PySem PySem.Spec PyProof.Rows L2
/-! ### sorted lists, by insertion -/
section
variable {α : Type} (le : α → α → Bool)
def insG (x : α) : List α → List α
  | [] => [x]
  | y :: l => if le x y = true then x :: y :: l else y :: insG x l
def isG (l : List α) : List α := l.foldr (insG le) []
theorem insG_perm (x : α) : ∀ l : List α, (insG le x l).Perm (x :: l)
  | [] => .refl _
  | y :: l => by
    unfold insG
    split
    · exact .refl _
    · exact ((insG_perm x l).cons y).trans (.swap x y l)
theorem isG_perm : ∀ l : List α, (isG le l).Perm l
  | [] => .refl _
  | x :: l => (insG_perm le x (isG le l)).trans ((isG_perm l).cons x)
variable {le}
theorem insG_srt (tr : ∀ a b c, le a b = true → le b c = true → le a c = true) (tot : ∀ a b, le a b = true ∨ le b a = true) (x : α) : ∀ {l : List α}, l.Pairwise (fun a b => le a b = true) → (insG le x l).Pairwise (fun a b => le a b = true)
  | [], _ => by simp [insG]
  | y :: l, h => by
    obtain ⟨h1, h2⟩ := List.pairwise_cons.mp h
    unfold insG
    split
    · rename_i c
      exact List.pairwise_cons.mpr ⟨fun z hz => by
        rcases List.mem_cons.mp hz with e | m
        · rw [e]; exact c
        · exact tr _ _ _ c (h1 z m), h⟩
    · rename_i c
      refine List.pairwise_cons.mpr ⟨fun z hz => ?_, insG_srt tr tot x h2⟩
      rcases List.mem_cons.mp ((insG_perm le x l).mem_iff.mp hz) with e | m
      · rw [e]
        rcases tot x y with a | a
        · exact absurd a c
        · exact a
      · exact h1 z m
theorem isG_srt (tr : ∀ a b c, le a b = true → le b c = true → le a c = true) (tot : ∀ a b, le a b = true ∨ le b a = true) : ∀ l : List α, (isG le l).Pairwise (fun a b => le a b = true)
  | [] => .nil
  | x :: l => insG_srt tr tot x (isG_srt tr tot l)
theorem isG_uniq (tr : ∀ a b c, le a b = true → le b c = true → le a c = true) (tot : ∀ a b, le a b = true ∨ le b a = true) (anti : ∀ a b, le a b = true → le b a = true → a = b) {l m : List α} (h : l.Perm m) (hs : l.Pairwise (fun a b => le a b = true)) : l = isG le m :=
  List.Perm.eq_of_pairwise (fun a b _ _ => anti a b) hs (isG_srt tr tot m) (h.trans (isG_perm le m).symm)
theorem merge_isG (tr : ∀ a b c, le a b = true → le b c = true → le a c = true) (tot : ∀ a b, le a b = true ∨ le b a = true) (anti : ∀ a b, le a b = true → le b a = true → a = b) (l : List α) : l.mergeSort le = isG le l :=
  isG_uniq tr tot anti (List.mergeSort_perm l le) (List.pairwise_mergeSort tr (fun a b => by rcases tot a b with h | h <;> simp [h]) l)
end
def leI (a b : Int) : Bool := decide (a ≤ b)
def isI (l : List Int) : List Int := isG leI l
theorem isI_uniq {l m : List Int} (h : l.Perm m) (hs : l.Pairwise (· ≤ ·)) : l = isI m :=
  isG_uniq (le := leI) (fun a b c h1 h2 => decide_eq_true (Int.le_trans (of_decide_eq_true h1) (of_decide_eq_true h2))) (fun a b => by rcases Int.le_total a b with h | h; exact .inl (decide_eq_true h); exact .inr (decide_eq_true h))
    (fun a b h1 h2 => Int.le_antisymm (of_decide_eq_true h1) (of_decide_eq_true h2)) h (hs.imp fun h => decide_eq_true h)
theorem isI_mem {l : List Int} {x : Int} : x ∈ isI l ↔ x ∈ l := (isG_perm leI l).mem_iff
theorem isI_len (l : List Int) : (isI l).length = l.length := (isG_perm leI l).length_eq
def leL : List Int → List Int → Bool
  | [], _ => true
  | _ :: _, [] => false
  | x :: xs, y :: ys => if x = y then leL xs ys else decide (x < y)
theorem leL_total : ∀ a b, leL a b = true ∨ leL b a = true
  | [], _ => .inl rfl
  | _ :: _, [] => .inr rfl
  | x :: xs, y :: ys => by
    unfold leL
    by_cases h : x = y
    · rw [if_pos h, if_pos h.symm]; exact leL_total xs ys
    · rw [if_neg h, if_neg (fun z => h z.symm)]
      simp only [decide_eq_true_eq]
      omega
theorem leL_anti : ∀ a b, leL a b = true → leL b a = true → a = b
  | [], [], _, _ => rfl
  | [], _ :: _, _, h => by cases h
  | _ :: _, [], h, _ => by cases h
  | x :: xs, y :: ys, h1, h2 => by
    unfold leL at h1 h2
    by_cases h : x = y
    · rw [if_pos h] at h1
      rw [if_pos h.symm] at h2
      rw [h, leL_anti xs ys h1 h2]
    · rw [if_neg h] at h1
      rw [if_neg (fun z => h z.symm)] at h2
      simp only [decide_eq_true_eq] at h1 h2
      omega
theorem leL_trans : ∀ a b c, leL a b = true → leL b c = true → leL a c = true
  | [], _, _, _, _ => rfl
  | _ :: _, [], _, h, _ => by cases h
  | _ :: _, _ :: _, [], _, h => by cases h
  | x :: xs, y :: ys, z :: zs, h1, h2 => by
    unfold leL at h1 h2 ⊢
    by_cases hxy : x = y
    · rw [if_pos hxy] at h1
      by_cases hyz : y = z
      · rw [if_pos hyz] at h2
        rw [if_pos (hxy.trans hyz)]
        exact leL_trans xs ys zs h1 h2
      · rw [if_neg hyz] at h2
        rw [if_neg (fun w => hyz (hxy.symm.trans w)), hxy]
        exact h2
    · rw [if_neg hxy] at h1
      by_cases hyz : y = z
      · rw [if_neg (fun w => hxy (w.trans hyz.symm)), ← hyz]
        exact h1
      · rw [if_neg hyz] at h2
        simp only [decide_eq_true_eq] at h1 h2
        rw [if_neg (by omega)]
        exact decide_eq_true (by omega)
theorem leL_lt : ∀ a b : List Int, (!decide (b < a)) = leL a b
  | [], b => by simp [leL]
  | x :: xs, [] => by simp [leL]
  | x :: xs, y :: ys => by
    unfold leL
    rw [← leL_lt xs ys]
    by_cases h : x = y
    · rw [if_pos h]
      simp [h, List.cons_lt_cons_iff]
    · rw [if_neg h]
      have h2 : ¬ y = x := fun z => h z.symm
      have h3 : (y :: ys < x :: xs) ↔ y < x := by simp [List.cons_lt_cons_iff, h2]
      rw [decide_eq_decide.mpr h3]
      by_cases a : x < y
      · rw [decide_eq_true a, decide_eq_false (by omega)]; rfl
      · rw [decide_eq_false a, decide_eq_true (by omega)]; rfl
def rngD (r : List Int) : PyData := .tuple (r.map .int)
def isL (l : List (List Int)) : List (List Int) := isG leL l
theorem rng_sort (l : List (List Int)) : (l.map rngD).mergeSort (PySem.W.dataLe false id) = (isL l).map rngD := by
  unfold isL
  rw [← merge_isG leL_trans leL_total leL_anti]
  refine (List.map_mergeSort fun a _ b _ => ?_).symm
  rw [← leL_lt a b]
  show _ = !PySem.W.dataLt (rngD b) (rngD a)
  unfold rngD
  rw [PySem.W.dataLt_tuple]
  exact congrArg _ (PySem.W.dataLt_ints b a).symm
/-! ### rings of a dict of ups -/
abbrev Us := List (Int × Int)
def look (m : Us) (k : Int) : Option Int := (m.find? fun x => decide (x.1 = k)).map (·.2)
def upV (m : Us) : List (Key × V) := m.map fun x => (Sum.inl x.1, V.int x.2)
theorem look_pos {x : Int × Int} {m : Us} {k : Int} (h : x.1 = k) : look (x :: m) k = some x.2 := by
  unfold look
  rw [List.find?_cons_of_pos (by simp [h])]
  rfl
theorem look_neg {x : Int × Int} {m : Us} {k : Int} (h : ¬ x.1 = k) : look (x :: m) k = look m k := by
  unfold look
  rw [List.find?_cons_of_neg (by simp [h])]
theorem up_val : ∀ (m : Us) (k : Int), valV (upV m) (Sum.inl k) = (look m k).map V.int
  | [], k => rfl
  | x :: m, k => by
    by_cases c : x.1 = k
    · rw [look_pos c]
      exact valV_pos (p := (Sum.inl x.1, V.int x.2)) (by rw [c])
    · rw [look_neg c, ← up_val m k]
      exact valV_neg (p := (Sum.inl x.1, V.int x.2)) (fun z => c (Sum.inl.inj z))
theorem look_in : ∀ {m : Us} {k v : Int}, look m k = some v → k ∈ m.map (·.1)
  | [], _, _, h => by cases h
  | x :: m, k, v, h => by
    by_cases c : x.1 = k
    · exact List.mem_cons.mpr (.inl c.symm)
    · rw [look_neg c] at h
      exact List.mem_cons_of_mem _ (look_in h)
def wk (ups : Us) : Nat → List Int → List Int → Int → List Int × List Int × Int
  | 0, met, ps, h => (met, ps, h)
  | n + 1, met, ps, h => match look ups h with
    | none => (met, ps, h)
    | some h' => if h ∈ met then (met, ps, h) else wk ups n (met ++ [h]) (ps ++ [h]) h'
theorem wk_stop {ups : Us} {met ps : List Int} {h : Int} (c : look ups h = none ∨ h ∈ met) : ∀ n, wk ups n met ps h = (met, ps, h)
  | 0 => rfl
  | n + 1 => by
    unfold wk
    cases e : look ups h with
    | none => rfl
    | some h' =>
      rcases c with c | c
      · rw [e] at c; cases c
      · show (if h ∈ met then _ else _) = _
        rw [if_pos c]
theorem wk_go {ups : Us} {n : Nat} {met ps : List Int} {h h' : Int} (e : look ups h = some h') (c : h ∉ met) : wk ups (n + 1) met ps h = wk ups n (met ++ [h]) (ps ++ [h]) h' := by
  show (match look ups h with | none => _ | some h' => if h ∈ met then _ else _) = _
  rw [e]
  show (if h ∈ met then _ else _) = _
  rw [if_neg c]
def dropTo (h : Int) : List Int → List Int
  | [] => []
  | x :: l => if x = h then x :: l else dropTo h l
theorem dropTo_at {h : Int} : ∀ {l : List Int}, h ∈ l → ∃ j, l[j]? = some h ∧ (∀ m z, m < j → l[m]? = some z → z ≠ h) ∧ dropTo h l = l.drop j
  | [], m => by cases m
  | x :: l, hm => by
    unfold dropTo
    by_cases c : x = h
    · exact ⟨0, by rw [c]; rfl, fun m z hm _ => by omega, by rw [if_pos c]; rfl⟩
    · rcases List.mem_cons.mp hm with e | hm
      · exact absurd e.symm c
      · obtain ⟨j, h1, h2, h3⟩ := dropTo_at hm
        refine ⟨j + 1, h1, fun m z hm hz => ?_, by rw [if_neg c, h3]; rfl⟩
        cases m with
        | zero => cases hz; exact c
        | succ m => exact h2 m z (by omega) hz
theorem dropTo_ne {h : Int} {l : List Int} (hm : h ∈ l) : dropTo h l ≠ [] := by
  obtain ⟨j, h1, _, h3⟩ := dropTo_at hm
  rw [h3]
  intro z
  have := (List.getElem?_eq_some_iff.mp h1).1
  have h9 := congrArg List.length z
  rw [List.length_drop] at h9
  simp at h9
  omega
def ringOf (ups : Us) (met : List Int) (s : Int) : List Int × List (List Int) :=
  let r := wk ups ups.length met [] s
  (r.1, if r.2.2 ∈ r.2.1 then [isI (dropTo r.2.2 r.2.1)] else [])
def ringsR (ups : Us) (l : List Int) : List Int × List (List Int) := l.foldl (fun st s => ((ringOf ups st.1 s).1, st.2 ++ (ringOf ups st.1 s).2)) ([], [])
def ringsP (ups : Us) : List (List Int) := isL (ringsR ups (ups.map (·.1))).2
theorem rings_more (ups : Us) (l : List Int) (s : Int) : ringsR ups (l ++ [s]) = ((ringOf ups (ringsR ups l).1 s).1, (ringsR ups l).2 ++ (ringOf ups (ringsR ups l).1 s).2) := by
  unfold ringsR
  rw [List.foldl_append]
  rfl
theorem ring_len (ups : Us) (met : List Int) (s : Int) : (ringOf ups met s).2.length ≤ 1 := by
  unfold ringOf
  show (if _ then _ else _ : List (List Int)).length ≤ 1
  split <;> simp
theorem rings_len (ups : Us) : ∀ l, (ringsR ups l).2.length ≤ l.length := snoc_ind (Nat.le_refl _) fun l s ih => by
  rw [rings_more, List.length_append]
  have := ring_len ups (ringsR ups l).1 s
  rw [List.length_append]
  simp
  omega
theorem rings_ne (ups : Us) : ∀ l, ∀ r ∈ (ringsR ups l).2, r ≠ [] := snoc_ind (fun r hr => by cases hr) fun l s ih => by
  rw [rings_more]
  intro r hr
  rcases List.mem_append.mp hr with h | h
  · exact ih r h
  · unfold ringOf at h
    revert h
    show r ∈ (if _ then _ else _ : List (List Int)) → _
    split
    · rename_i c
      intro h
      rw [List.mem_singleton.mp h]
      intro z
      refine dropTo_ne c ?_
      have := isI_len (dropTo (wk ups ups.length (ringsR ups l).1 [] s).2.2 (wk ups ups.length (ringsR ups l).1 [] s).2.1)
      rw [z] at this
      exact List.eq_nil_of_length_eq_zero this.symm
    · intro h
      cases h
end Pf

set_option Elab.async false
set_option linter.all false
set_option maxRecDepth 100000
set_option maxHeartbeats 4000000
namespace Pf
open PySem PySem.Spec PyProof.Rows L2
/-- a while by a measure that goes along -/
theorem while_m {c : TT} {tb : TS} {D : Ends} {σ : L2.St} {H : Hp} (W : Nat → L2.St → Hp → Prop) (m0 : Nat) (h0 : W m0 σ H)
    (hs : ∀ m σ H, W m σ H → c σ H fun b H1 => if b = true then tb { D with nx := fun σ' H' => ∃ m', m' < m ∧ W m' σ' H', ct := fun σ' H' => ∃ m', m' < m ∧ W m' σ' H', bk := D.nx } σ H1 else D.nx σ H1)
    (mono : ∀ σ H Q Q', (∀ b H1, Q b H1 → Q' b H1) → c σ H Q → c σ H Q') : tWhile c tb D σ H := by
  refine ⟨W, ⟨m0, h0⟩, fun m σ H w => ?_⟩
  refine mono σ H _ _ (fun b H1 q => ?_) (hs m σ H w)
  cases b with
  | true => exact ⟨_, fun σ' H' p => p, q⟩
  | false => exact q
theorem dcl {K : PySem.W.Frag} {l : Addr} {ys : List V} {gt : TG} {tf : TT} {ky vl : TE} {ws : List Nat} {st : L2.St} {G : Hp} {N : Addr} {fin : Hp → Prop}
    (In : Nat → Hp → Prop) (a0 : In 0 (upd G N (.dK []))) (al : ∀ i H, i ≤ ys.length → In i H → SqL K H l ys)
    (as : ∀ i x H, ys[i]? = some x → In i H → gt x (wipe st ws) H fun τ T => wipe τ ws = wipe st ws ∧ tf τ T fun b U => if b = true then
      ky τ U fun y Y => vl τ Y fun z Z => ∃ kvs k, y = kV k ∧ Z N = some (.dK kvs) ∧ kvs.length < sizeLine ∧ In (i + 1) (upd Z N (.dK (putK kvs k z))) else In (i + 1) U)
    (ad : ∀ H, In ys.length H → fin H) :
    ∃ W : Nat → Nat → Hp → Prop, (∃ m, W 0 m (upd G N (.dK []))) ∧ ∀ i m H, W i m H → ((Itl K l).stop i H ∧ fin H) ∨ ((Itl K l).go i H ∧ ∃ Nx : Hp → Prop, (∀ H', Nx H' → ∃ m', m' < m ∧ W (i + 1) m' H') ∧
      ∀ x H', (Itl K l).yld i H x H' → gt x (wipe st ws) H' fun τ T => wipe τ ws = wipe st ws ∧ tf τ T fun b U => if b = true then
        ky τ U fun y Y => vl τ Y fun z Z => ∃ kvs k, y = kV k ∧ Z N = some (.dK kvs) ∧ kvs.length < sizeLine ∧ Nx (upd Z N (.dK (putK kvs k z))) else Nx U) := by
  refine ⟨fun i m H => (m = ys.length - i ∧ i ≤ ys.length) ∧ In i H, ⟨ys.length, ⟨rfl, Nat.zero_le _⟩, a0⟩, fun i m H h => ?_⟩
  obtain ⟨⟨em, hi⟩, p⟩ := h
  have sq := al i H hi p
  rcases Nat.lt_or_ge i ys.length with hlt | hge
  · refine .inr ⟨⟨ys, ys[i], sq, List.getElem?_eq_getElem hlt⟩, In (i + 1), fun H' p' => ⟨ys.length - (i + 1), by omega, ⟨rfl, hlt⟩, p'⟩, fun x H' y => ?_⟩
    obtain ⟨e, y⟩ := y
    subst e
    exact as i x _ (y ys sq) p
  · have e : i = ys.length := by omega
    subst e
    exact .inl ⟨⟨ys, sq, Nat.le_refl _⟩, ad H p⟩
theorem nd_len : ∀ {l m : List Int}, l.Nodup → (∀ x ∈ l, x ∈ m) → l.length ≤ m.length
  | [], _, _, _ => Nat.zero_le _
  | x :: l, m, h, hs => by
    obtain ⟨h1, h2⟩ := List.nodup_cons.mp h
    have hx := hs x List.mem_cons_self
    have := nd_len (l := l) (m := m.erase x) h2 fun y hy => (List.mem_erase_of_ne fun e => h1 (by rw [← e]; exact hy)).mpr (hs y (List.mem_cons_of_mem _ hy))
    rw [List.length_erase_of_mem hx] at this
    have := List.length_pos_of_mem hx
    rw [List.length_cons]
    omega
theorem inV_ints {n : Int} {ns : List Int} : inV (.int n) (ns.map V.int) = decide (n ∈ ns) := by
  by_cases h : n ∈ ns
  · rw [decide_eq_true h]
    exact List.any_eq_true.mpr ⟨.int n, List.mem_map.mpr ⟨n, h, rfl⟩, by simp [eqV]⟩
  · rw [decide_eq_false h]
    refine List.any_eq_false.mpr fun x hx => ?_
    obtain ⟨y, hy, rfl⟩ := List.mem_map.mp hx
    intro z
    have : y = n := by simpa [eqV] using z
    exact h (by rw [← this]; exact hy)
theorem flat_ints (ns : List Int) : (ns.map V.int).all flatV = true := List.all_eq_true.mpr fun x hx => by
  obtain ⟨y, _, rfl⟩ := List.mem_map.mp hx
  rfl
theorem dirs_keys (cs : List Ch) (b : Sh) : ∀ k : Nat, ((dirsL cs b k).map (·.1)).Nodup ∧ ∀ x ∈ dirsL cs b k, 2 ≤ x.1 ∧ x.1 < 2 + ((k : Nat) : Int)
  | 0 => ⟨.nil, fun x hx => by cases hx⟩
  | k + 1 => by
    obtain ⟨h1, h2⟩ := dirs_keys cs b k
    rw [dirs_more]
    cases e : dirN cs b (2 + ((k : Nat) : Int)) with
    | none =>
      simp only [List.append_nil]
      exact ⟨h1, fun x hx => ⟨(h2 x hx).1, by have := (h2 x hx).2; omega⟩⟩
    | some y =>
      refine ⟨?_, fun x hx => ?_⟩
      · rw [List.map_append, List.nodup_append]
        refine ⟨h1, by simp, fun a ha c hc e => ?_⟩
        obtain ⟨z, hz, rfl⟩ := List.mem_map.mp ha
        simp only [List.map_cons, List.map_nil, List.mem_singleton] at hc
        have := (h2 z hz).2
        omega
      · rcases List.mem_append.mp hx with m | m
        · exact ⟨(h2 x m).1, by have := (h2 x m).2; omega⟩
        · rw [List.mem_singleton.mp m]
          exact ⟨by show 2 ≤ 2 + ((k : Nat) : Int); omega, by show 2 + ((k : Nat) : Int) < _; omega⟩
def upsL (cs : List Ch) (b : Sh) : Us := (dirsL cs b (b.d - 2).toNat).map fun x => (x.1, x.2.1)
def metV (met : List Int) : List (Key × V) := met.map fun k => (Sum.inl k, V.bl true)
theorem met_val : ∀ (met : List Int) (k : Int), (valV (metV met) (Sum.inl k)).isSome = decide (k ∈ met)
  | [], k => by simp [metV, valV]
  | x :: m, k => by
    by_cases c : x = k
    · rw [show valV (metV (x :: m)) (Sum.inl k) = some (V.bl true) from valV_pos (p := (Sum.inl x, V.bl true)) (by rw [c]), decide_eq_true (by rw [c]; exact List.mem_cons_self)]
      rfl
    · rw [show valV (metV (x :: m)) (Sum.inl k) = valV (metV m) (Sum.inl k) from valV_neg (p := (Sum.inl x, V.bl true)) (fun z => c (Sum.inl.inj z)), met_val m k]
      apply decide_eq_decide.mpr
      exact ⟨fun h => List.mem_cons_of_mem _ h, fun h => by
        rcases List.mem_cons.mp h with e | m
        · exact absurd e.symm c
        · exact m⟩
theorem putK_app {kvs : List (Key × V)} {k : Key} {v : V} (h : k ∉ kvs.map (·.1)) : putK kvs k v = kvs ++ [(k, v)] := by
  have hno : (kvs.any fun kv => decide (kv.1 = k)) = false := List.any_eq_false.mpr fun x hx z => h (List.mem_map.mpr ⟨x, hx, of_decide_eq_true z⟩)
  unfold putK
  rw [hno, if_neg (by decide)]
theorem met_put {met : List Int} {k : Int} (h : k ∉ met) : putK (metV met) (Sum.inl k) (V.bl true) = metV (met ++ [k]) := by
  rw [putK_app]
  · unfold metV
    rw [List.map_append]
    rfl
  · intro z
    obtain ⟨p, hp, e⟩ := List.mem_map.mp z
    obtain ⟨x, hx, rfl⟩ := List.mem_map.mp hp
    exact h (by rw [← Sum.inl.inj e]; exact hx)
theorem ite_stop {c : Prop} [Decidable c] {B G : Prop} (hB : c → G → B) (hG : G) : if c then B else G := by
  by_cases h : c
  · rw [if_pos h]; exact hB h hG
  · rw [if_neg h]; exact hG
theorem sql_nil {H : Hp} {a : Addr} {xs : List V} (h : SqL [] (Tu H) a xs) : False := by
  rcases h with h | ⟨o, its, n, hk, _⟩
  · rcases h with h | ⟨od, h⟩
    · obtain ⟨ys, e, _⟩ := tu_some h
      cases e
    · obtain ⟨ys, e, _⟩ := tu_some h
      cases e
  · cases hk
mutual
theorem dp_up {K : PySem.W.Frag} {H : Hp} : ∀ (d : PyData) (v : V), Dp [] (Tu H) v d → Dp K H v d
  | .none, _, h => by cases h; exact .non
  | .bool b, _, h => by cases h; exact .bl b
  | .int i, _, h => by cases h; exact .int i
  | .str x, _, h => by cases h; exact .str x
  | .list ds, _, h => by cases h with | lst hs ha => exact (sql_nil hs).elim
  | .tuple ds, _, h => by cases h with | tup hs ha => exact .tup (SqT.of (sqt_nil hs)) (dps_up ds _ ha)
  | .dict _, _, h => by cases h
theorem dps_up {K : PySem.W.Frag} {H : Hp} : ∀ (ds : List PyData) (vs : List V), DpAll [] (Tu H) vs ds → DpAll K H vs ds
  | [], _, h => by cases h; exact .nil
  | d :: ds, _, h => by cases h with | cons h1 h2 => exact .cons (dp_up d _ h1) (dps_up ds _ h2)
end
/-- the rings' walk: what stands -/
structure RgI (H H' : Hp) (D RL MD : Addr) (od : Obj) (m : Us) (met : List Int) (rs : List (List Int)) : Prop where
  s : Same H H'
  d : H' D = some (.frz od (.dK (upV m)))
  e : H' MD = some (.dK (metV met))
  l : LsU H' RL (rs.map rngD)
theorem RgI.same {H H' H2 : Hp} {D RL MD : Addr} {od : Obj} {m : Us} {met : List Int} {rs : List (List Int)} (I : RgI H H' D RL MD od m met rs) (s : Same H' H2) : RgI H H2 D RL MD od m met rs := ⟨I.s.trans s, s _ _ I.d, s _ _ I.e, I.l.same s⟩
theorem RgI.ne {H H' : Hp} {D RL MD : Addr} {od : Obj} {m : Us} {met : List Int} {rs : List (List Int)} (I : RgI H H' D RL MD od m met rs) : D ≠ RL ∧ MD ≠ RL ∧ D ≠ MD := by
  obtain ⟨us, e, _⟩ := I.l
  exact ⟨(fun z => by have := I.d; rw [z, e] at this; cases this), (fun z => by have := I.e; rw [z, e] at this; cases this), (fun z => by have := I.d; rw [z, I.e] at this; cases this)⟩
theorem RgI.met {H H' : Hp} {D RL MD : Addr} {od : Obj} {m : Us} {met met2 : List Int} {rs : List (List Int)} (I : RgI H H' D RL MD od m met rs) (hn : H MD = none) : RgI H (upd H' MD (.dK (metV met2))) D RL MD od m met2 rs := by
  have f : Fr [MD] H' (upd H' MD (.dK (metV met2))) := .put (by simp) fun o z => by rw [I.e] at z; cases z; rfl
  exact ⟨fun c o e => by rw [upd_ne (ne_of_none e hn)]; exact I.s _ _ e, f.at I.d (by simp [I.ne.2.2]), upd_same, I.l.fr f (by simp [I.ne.2.1.symm])⟩
theorem RgI.ps {H H' : Hp} {D RL MD P : Addr} {od : Obj} {m : Us} {met : List Int} {rs : List (List Int)} {xs ys : List V} (I : RgI H H' D RL MD od m met rs) (hn : H P = none) (eP : H' P = some (.lst xs)) (nP : P ≠ RL) : RgI H (upd H' P (.lst ys)) D RL MD od m met rs := by
  have f : Fr [P] H' (upd H' P (.lst ys)) := .put (by simp) fun o z => by rw [eP] at z; cases z; rfl
  have n1 : D ≠ P := fun z => by have := I.d; rw [z, eP] at this; cases this
  have n2 : MD ≠ P := fun z => by have := I.e; rw [z, eP] at this; cases this
  exact ⟨fun c o e => by rw [upd_ne (ne_of_none e hn)]; exact I.s _ _ e, f.at I.d (by simp [n1]), f.at I.e (by simp [n2]), I.l.fr f (by simp [nP.symm])⟩
abbrev NRi : List Str := ["shape", "home", "ups", "number", "place", "rings", "met", "start", "passed", "here"]
theorem scRi : FnScope NRi ["shape", "home"] (defScope sRio) := ⟨rfl, rfl, rfl, by decide +kernel, rfl, by decide +kernel, by decide +kernel⟩
theorem dep_rng (r : List Int) : (rngD r).depth ≤ 40 := by
  unfold rngD
  simp only [PyData.depth, dep_ints]
  omega
theorem rng_alike (a b : List Int) : PySem.W.alike (rngD a) (rngD b) = true := by
  unfold rngD
  simp only [PySem.W.alike]
  exact PySem.W.alike_ints a b
theorem zip_dps {K : PySem.W.Frag} {H : Hp} {α : Type} (f : α → PyData) : ∀ {us : List V} {l : List α}, DpAll K H us (l.map f) → ∃ bs : List (V × PyData), bs.map (·.1) = us ∧ bs.map (·.2) = l.map f ∧ ∀ b ∈ bs, Dp K H b.1 b.2
  | [], [], _ => ⟨[], rfl, rfl, fun b hb => by cases hb⟩
  | [], _ :: _, h => by cases h
  | _ :: _, [], h => by cases h
  | u :: us, x :: l, h => by
    cases h with
    | cons h1 h2 =>
      obtain ⟨bs, e1, e2, hb⟩ := zip_dps f h2
      refine ⟨(u, f x) :: bs, by rw [List.map_cons, e1], by rw [List.map_cons, e2, List.map_cons], fun b hb' => ?_⟩
      rcases List.mem_cons.mp hb' with e | m
      · rw [e]; exact h1
      · exact hb b m
section
variable {P : Program} {w : World} {K : PySem.W.Frag} {mg : Str → Option Value} {base : Heap} {C : Addr}
def spRi (K : PySem.W.Frag) (C : Addr) : Sp := fun vs H Q _ => ∃ (sa h : Addr) (b : Sh) (cs : List Ch), vs = [.ref sa, .ref h] ∧ ShAt C H sa b ∧ HoAt K H h cs b.pl ∧ ∀ L H', Same H H' → H L = none → LsU H' L ((ringsP (upsL cs b)).map rngD) → Q (.ref L) H'
theorem ok_rio {f fD : Addr} {fd dD : FuncData} (F : Fun K "rings_of" "rings_of" sRio f fd) (DD : Df P w K mg base CX0 3 "dirs_of" ["home", "shape"] (spDo K C) fD dD) (ms : mg "sorted" = none) (mt : mg "tuple" = none) : FnOk P w K mg base CX0 4 f fd ["shape", "home"] (spRi K C) := by
  refine F.ok scRi (fun vs H Q E h => ?_) (fun cdv A outer s H vs Q E hr h => ?_)
  · obtain ⟨sa, h, b, cs, rfl, _⟩ := h
    rfl
  · obtain ⟨sa, h, b, cs, rfl, S, Ho, k⟩ := h
    have nd := scRi.nd
    have hu := hu_of hr
    refine ⟨_, pss_cons (ps_setDc (i := 2) (own := [("number", 3), ("place", 4)]) (g := gTup K 2 (gCons (gName 3) (gCons (gName 4) gNil))) (tt := tYes) (tk := tVar 3) (tv := tOp (rIxT K) (tVar 4) (tC (.int 0))) rfl nd rfl rfl (swD_true rfl rfl rfl (by decide +kernel)) (pi_list (pe_call DD.G hr rfl DD.g DD.kp DD.b .nil pass0 (pa_cons (pv 1) (pa_cons (pv 0) pa_nil)))) (blkOk_by (N := NRi) (sc := defScope sRio) (by decide +kernel))
          (fun _ _ _ _ _ => pg_tup rfl (pgs_cons (pg_name (i := 3) nd rfl (.inl rfl)) (pgs_cons (pg_name (i := 4) nd rfl (.inl rfl)) pgs_nil))) (fun _ _ _ _ _ => pts_nil)
          (fun _ _ _ _ _ => pv 3) (fun _ _ _ _ _ => pe_ix ix_tup (pv 4) pe_int (fun _ _ => rfl)))
      (pss_cons (ps_set (i := 5) nd rfl (.inl rfl) (pe_lst pa_nil))
      (pss_cons (ps_set (i := 6) nd rfl (.inl rfl) pe_dnewK)
      (pss_cons (ps_lock (ps_for PassesOwn.never rfl (pi_keys (pv 2)) (pg_name (i := 7) nd rfl (.inl rfl))
        (pss_cons (ps_set (i := 8) nd rfl (.inl rfl) (pe_lst pa_nil))
        (pss_cons (ps_set (i := 9) nd rfl (.inl rfl) (pv 7))
        (pss_cons (ps_while PassesOwn.never (PW.pt (pw_and (pt_cmp (pc_din hu (pv 9) (pv 2))) (pw_and1 (pt_cmp (pc_dnotin hu (pv 9) (pv 6))))))
          (pss_cons (ps_dput hu (pv 6) (pv 9) pe_bl rfl)
          (pss_cons (ps_expr (pe_bm PySem.F.plainAttrs_list PySem.F.slot_list_append PySem.F.type_list_append mt_append (pv 8) (pa_cons (pv 9) pa_nil)))
          (pss_one (ps_set (i := 9) nd rfl (.inl rfl) (pe_dget hu (pv 2) (pv 9) (fun _ _ => rfl)))))))
        (pss_one (ps_if (pt_cmpR op_in_seq (pv 9) (pv 8) (by rfl))
          (pss_one (ps_expr (pe_bm PySem.F.plainAttrs_list PySem.F.slot_list_append PySem.F.type_list_append mt_append (pv 5) (pa_cons (pe_callTy call_tuple_of (by rfl) mt boot_tuple (pa_cons (pe_callB cr_sortedI (by rfl) ms (by decide +kernel) (pa_cons
            (pe_slice sl_list (pv 8) (po_some (pe_bm PySem.F.plainAttrs_list PySem.F.slot_list_index PySem.F.type_list_index mt_index (pv 8) (pa_cons (pv 9) pa_nil))) po_none) pa_nil)) pa_nil)) pa_nil)))) pss_nil)))))))
      (pss_one (ps_ret (pe_callB (cr_sortedDp hr.units) (by rfl) ms (by decide +kernel) (pa_cons (pv 5) pa_nil))))))), ?_⟩
    have hbd := b.hd
    obtain ⟨hkn, hkb⟩ := dirs_keys cs b (b.d - 2).toNat
    have hdl := dirs_len cs b (b.d - 2).toNat
    refine ⟨_, rfl, _, rfl, h, sa, b, cs, rfl, S, Ho, fun LA H1 s1 hLA A1 => ?_⟩
    obtain ⟨ua, ea, da⟩ := A1
    have hual := dps_len da
    rw [List.length_map] at hual
    have hN : (upsL cs b).length ≤ 98 := by unfold upsL; rw [List.length_map]; omega
    have hkn2 : ((upsL cs b).map (·.1)).Nodup := by unfold upsL; rw [List.map_map]; exact hkn
    refine ⟨LA, rfl, ⟨ua, SqL.of ea⟩, fun D hD => dcl (K := K) (l := LA) (ys := ua) (fun i H' => Same H1 H' ∧ H' D = some (.dK (upV ((upsL cs b).take i)))) ⟨same_upd hD, upd_same⟩ (fun i H2 _ z => SqL.of (z.1 _ _ ea)) ?_ ?_⟩
    · rintro i x H' hi ⟨s2, eD⟩
      obtain ⟨z, hz, hd⟩ := dpu_at da hi
      obtain ⟨t, v1, v2, rfl, et, e1, e2⟩ := dpu_two hd
      have e1' := dp_int e1
      subst e1'
      obtain ⟨q, rfl, eq⟩ := dpu_place e2
      have hm : (upsL cs b)[i]? = some (z.1, z.2.1) := by unfold upsL; rw [List.getElem?_map, hz]; rfl
      have hil := (List.getElem?_eq_some_iff.mp hm).1
      refine ⟨t, _, rfl, SqT.of (s2 _ _ et), rfl, _, _, rfl, _, _, rfl, rfl, rfl, tyes_go ⟨_, rfl, _, rfl, q, _, 0, _, rfl, rfl, SqT.of (s2 _ _ eq), atI_nat (j := 0) rfl, _, Sum.inl z.1, rfl, eD, ?_, fun c o e => ?_, ?_⟩⟩
      · unfold upV; rw [List.length_map, List.length_take, sizeLine_eq]; omega
      · rw [upd_ne (ne_of_none e hD)]; exact s2 _ _ e
      · rw [upd_same, putK_app]
        · rw [List.take_succ, hm]
          unfold upV
          rw [List.map_append]
          rfl
        · intro hx
          unfold upV at hx
          rw [List.map_map] at hx
          obtain ⟨y, hy, ey⟩ := List.mem_map.mp hx
          have ey' : y.1 = z.1 := Sum.inl.inj ey
          have h9 : ((upsL cs b).take (i + 1)).map (·.1) = ((upsL cs b).take i).map (·.1) ++ [z.1] := by rw [List.take_succ, hm, List.map_append]; rfl
          have h8 := hkn2.sublist ((List.take_sublist (i + 1) (upsL cs b)).map (·.1))
          rw [h9] at h8
          exact (List.nodup_append.mp h8).2.2 _ (List.mem_map.mpr ⟨y, hy, rfl⟩) _ (List.mem_singleton.mpr rfl) ey'
    rintro H2 ⟨s2, eD⟩
    have hul : ua.length = (upsL cs b).length := by unfold upsL; rw [List.length_map]; exact hual
    rw [hul, List.take_length] at eD
    have hD0 : H D = none := s1.free hD
    have s12 : Same H H2 := s1.trans s2
    generalize hm : upsL cs b = m at *
    refine ⟨Nat.zero_le _, fun RL hRL MD hMD => ?_⟩
    have s3 := same_upd (o := .lst []) hRL
    have eRL : upd H2 RL (.lst []) RL = some (.lst []) := upd_same
    have hRL0 : H RL = none := s12.free hRL
    have hMD0 : H MD = none := (s12.trans s3).free hMD
    have s4 := same_upd (o := .dK []) hMD
    have eMD : upd (upd H2 RL (.lst [])) MD (.dK []) MD = some (.dK []) := upd_same
    have eRL4 := s4 _ _ eRL
    have eD4 := (s3.trans s4) _ _ eD
    have s14 := (s12.trans s3).trans s4
    have nMD : MD ≠ D := fun z => by have := s3 _ _ eD; rw [← z, hMD] at this; cases this
    generalize upd (upd H2 RL (.lst [])) MD (.dK []) = H4 at s4 eMD eRL4 eD4 s14 ⊢
    have nRD : RL ≠ D := fun z => by rw [z, eD4] at eRL4; cases eRL4
    refine ⟨D, _, eD4, trivial, fun od => ?_⟩
    have I0 : RgI H (upd H4 D (.frz od (.dK (upV m)))) D RL MD od m (ringsR m ((m.map (·.1)).take 0)).1 (ringsR m ((m.map (·.1)).take 0)).2 := ⟨fun c o e => by rw [upd_ne (ne_of_none e hD0)]; exact s14 _ _ e, upd_same, by rw [upd_ne nMD]; exact eMD, ⟨[], by rw [upd_ne nRD]; exact eRL4, .nil⟩⟩
    refine ⟨_, rfl, D, od, rfl, .inl ⟨_, upd_same, for_it (walk_keys (d := D) (o := od) (kvs := upV m)) (fun i σ H' => ∃ y7 y8 y9, σ = [some (.ref sa), some (.ref h), some (.ref D), none, none, some (.ref RL), some (.ref MD), y7, y8, y9] ∧ RgI H H' D RL MD od m (ringsR m ((m.map (·.1)).take i)).1 (ringsR m ((m.map (·.1)).take i)).2 ∧ (ringsR m ((m.map (·.1)).take i)).1.Nodup ∧ ∀ x ∈ (ringsR m ((m.map (·.1)).take i)).1, x ∈ m.map (·.1))
      ⟨none, none, none, rfl, I0, .nil, fun x hx => absurd hx (by simp [ringsR])⟩ (fun i σ H' _ z => by obtain ⟨_, _, _, _, I, _⟩ := z; exact I.d) ?_ ?_⟩⟩
    · rintro i x σ H5 H6 hi ⟨y7, y8, y9, rfl, I, hn, hk⟩ ⟨rfl, kk, v, hkv, rfl⟩
      obtain ⟨z, hz, rfl⟩ : ∃ z, m[i]? = some z ∧ kk = Sum.inl z.1 := by
        unfold upV at hkv
        rw [List.getElem?_map] at hkv
        cases e : m[i]? with
        | none => rw [e] at hkv; cases hkv
        | some z => rw [e] at hkv; cases hkv; exact ⟨z, rfl, rfl⟩
      have hil := (List.getElem?_eq_some_iff.mp hz).1
      have hT : (m.map (·.1)).take (i + 1) = (m.map (·.1)).take i ++ [z.1] := by rw [List.take_succ, List.getElem?_map, hz]; rfl
      have hrl := rings_len m ((m.map (·.1)).take i)
      rw [List.length_take, List.length_map] at hrl
      rw [hT, rings_more]
      unfold ringOf
      simp only []
      generalize (ringsR m ((m.map (·.1)).take i)).1 = met0 at I hn hk ⊢
      generalize (ringsR m ((m.map (·.1)).take i)).2 = rs at I hrl ⊢
      generalize hF : wk m m.length met0 [] z.1 = F
      refine ⟨Nat.zero_le _, fun PL hPL => ⟨_, rfl, ?_⟩⟩
      have hPL0 : H PL = none := I.s.free hPL
      have I1 := I.same (same_upd (o := .lst []) hPL)
      have ePL : upd H6 PL (.lst []) PL = some (.lst ([] : List V)) := upd_same
      have nPR : PL ≠ RL := fun w => by obtain ⟨us, e, _⟩ := I.l; rw [← w, hPL] at e; cases e
      generalize upd H6 PL (.lst []) = H7 at I1 ePL ⊢
      refine while_m (fun mm σ H' => ∃ (met ps : List Int) (hh : Int) (n : Nat), σ = [some (.ref sa), some (.ref h), some (.ref D), none, none, some (.ref RL), some (.ref MD), some (.int z.1), some (.ref PL), some (.int hh)] ∧ RgI H H' D RL MD od m met rs ∧ H' PL = some (.lst (ps.map V.int)) ∧ met.Nodup ∧ (∀ x ∈ met, x ∈ m.map (·.1)) ∧ wk m n met ps hh = F ∧ m.length ≤ n + met.length ∧ ps.length ≤ met.length ∧ mm = m.length - met.length) (m.length - met0.length)
        ⟨met0, [], z.1, m.length, rfl, I1, ePL, hn, hk, hF, Nat.le_add_right _ _, Nat.zero_le _, rfl⟩ ?_ ?_
      · rintro mm σ H8 ⟨met, ps, hh, n, rfl, I8, eP8, hn8, hk8, hF8, hN8, hps8, rfl⟩
        have hml : met.length ≤ m.length := by have := nd_len hn8 hk8; rw [List.length_map] at this; exact this
        refine ⟨_, rfl, _, rfl, D, _, rfl, .inl ⟨_, Sum.inl hh, .inr ⟨od, I8.d⟩, rfl, rfl⟩, _, rfl, ?_⟩
        rw [up_val]
        by_cases hs : look m hh = none ∨ hh ∈ met
        · rw [wk_stop hs] at hF8
          subst hF8
          refine ite_stop (fun hc hG => ⟨_, rfl, _, rfl, MD, _, rfl, DGet.k (k := Sum.inl hh) I8.e, _, rfl, ?_⟩) (iteF ?_)
          · rw [met_val, decide_eq_true (hs.resolve_left fun z => by rw [z] at hc; cases hc)]
            exact hG
          · refine ⟨_, rfl, _, rfl, PL, _, rfl, .inl (SqL.of eP8), rfl, flat_ints ps, decide (hh ∈ ps), ?_, ?_⟩
            · show V.bl (inV _ _) = _
              rw [inV_ints]
            obtain ⟨us, eR, dR⟩ := id I8.l
            have hul9 := dps_len dR
            rw [List.length_map] at hul9
            refine ite2 (fun hin => ?_) (fun hin => ?_)
            · have hin' : hh ∈ ps := of_decide_eq_true hin
              obtain ⟨j, g1, g2, g3⟩ := dropTo_at hin'
              refine ⟨_, rfl, .inl ⟨rfl, _, SqL.of eR⟩, _, rfl, _, rfl, .inl ⟨rfl, _, SqL.of eP8⟩, _, rfl, PL, _, .int hh, j, .int hh, rfl, rfl, SqL.of eP8, rfl, flat_ints ps, by rw [List.getElem?_map, g1]; rfl, by simp [eqV], fun m' z' hm' hz' => ?_, _, rfl, PL, _, rfl, SqL.of eP8, fun p1 hp1 => ?_⟩
              · rw [List.getElem?_map] at hz'
                cases e : ps[m']? with
                | none => rw [e] at hz'; cases hz'
                | some y =>
                  rw [e] at hz'
                  cases hz'
                  have := g2 m' y hm' e
                  simp [eqV, this]
              rw [cut_from, ← List.map_drop, ← g3]
              have t1 := same_upd (o := .lst ((dropTo hh ps).map V.int)) hp1
              refine ⟨p1, dropTo hh ps, rfl, SqL.of upd_same, fun ns' p2 hpm hpw hp2 => ?_⟩
              have ens := isI_uniq hpm hpw
              have t2 := same_upd (o := .lst (ns'.map V.int)) hp2
              refine ⟨p2, _, rfl, .inl ⟨SqL.of upd_same, fun l hll => ?_⟩⟩
              have t3 := same_upd (o := .tup (ns'.map V.int)) hll
              have t13 := (t1.trans t2).trans t3
              have Ix := I8.same t13
              have el : upd (upd (upd H8 p1 (.lst ((dropTo hh ps).map V.int))) p2 (.lst (ns'.map V.int))) l (.tup (ns'.map V.int)) l = some (.tup (ns'.map V.int)) := upd_same
              have eRx := t13 _ _ eR
              have dRx := dps_same (tu_same t13) _ _ dR
              generalize upd (upd (upd H8 p1 (.lst ((dropTo hh ps).map V.int))) p2 (.lst (ns'.map V.int))) l (.tup (ns'.map V.int)) = Hx at t13 Ix el eRx dRx ⊢
              refine ⟨RL, us, .ref l, rfl, rfl, eRx, by rw [hul9, sizeLine_eq]; omega, ?_⟩
              have f : Fr [RL] Hx (upd Hx RL (.lst (us ++ [.ref l]))) := .put (by simp) fun o z => by rw [eRx] at z; cases z; rfl
              have hld : Dp [] (Tu Hx) (.ref l) (rngD (isI (dropTo hh ps))) := by
                rw [← ens]
                exact .tup (SqT.of (tu_at el)) (dps_ints _)
              show ∃ y7 y8 y9, _
              refine ⟨_, _, _, rfl, ?_, hn8, hk8⟩
              simp only []
              rw [if_pos hin']
              have nRH : H RL = none := hRL0
              refine ⟨fun c o e => by rw [upd_ne (ne_of_none e nRH)]; exact Ix.s _ _ e, f.at Ix.d (by simp [Ix.ne.1]), f.at Ix.e (by simp [Ix.ne.2.1]), ?_⟩
              rw [List.map_append]
              exact LsU.push eRx dRx hld
            · have hin' : ¬ hh ∈ ps := fun z => hin (decide_eq_true z)
              show ∃ y7 y8 y9, _
              refine ⟨_, _, _, rfl, ?_, hn8, hk8⟩
              rw [if_neg hin', List.append_nil]
              exact I8
        · have hs1 : ¬ look m hh = none := fun z => hs (.inl z)
          have hs2 : hh ∉ met := fun z => hs (.inr z)
          obtain ⟨h', hl⟩ : ∃ h', look m hh = some h' := Option.ne_none_iff_exists'.mp hs1
          have hkm : hh ∈ m.map (·.1) := look_in hl
          rw [hl]
          refine iteT ⟨_, rfl, _, rfl, MD, _, rfl, DGet.k (k := Sum.inl hh) I8.e, _, rfl, ?_⟩
          rw [met_val, decide_eq_false hs2]
          have hn' : (met ++ [hh]).Nodup := List.nodup_append.mpr ⟨hn8, by simp, fun a ha c hc e => hs2 (by rw [← List.mem_singleton.mp hc, ← e]; exact ha)⟩
          have hk' : ∀ x ∈ met ++ [hh], x ∈ m.map (·.1) := fun x hx => by
            rcases List.mem_append.mp hx with q | q
            · exact hk8 x q
            · rw [List.mem_singleton.mp q]; exact hkm
          have hml' : met.length + 1 ≤ m.length := by
            have := nd_len hn' hk'
            rw [List.length_append, List.length_map] at this
            exact this
          obtain ⟨n', rfl⟩ : ∃ n', n = n' + 1 := ⟨n - 1, by omega⟩
          rw [wk_go hl hs2] at hF8
          have I9 := I8.met (met2 := met ++ [hh]) hMD0
          have nPM : PL ≠ MD := fun w => by rw [w, I8.e] at eP8; cases eP8
          have eP9 : upd H8 MD (.dK (metV (met ++ [hh]))) PL = some (.lst (ps.map V.int)) := by rw [upd_ne nPM]; exact eP8
          have hput : DPut H8 MD (.int hh) (.bl true) (upd H8 MD (.dK (metV (met ++ [hh])))) := by
            rw [← met_put hs2]
            exact DPut.k (k := Sum.inl hh) I8.e (by unfold metV; rw [List.length_map, sizeLine_eq]; omega)
          refine iteT ⟨_, rfl, _, rfl, MD, _, rfl, hput, ?_⟩
          generalize upd H8 MD (.dK (metV (met ++ [hh]))) = H9 at I9 eP9 ⊢
          refine ⟨_, rfl, .inl ⟨rfl, _, SqL.of eP9⟩, _, rfl, PL, _, .int hh, rfl, rfl, eP9, by rw [List.length_map, sizeLine_eq]; omega, ?_⟩
          have I10 := I9.ps (ys := ps.map V.int ++ [.int hh]) hPL0 eP9 nPR
          have eP10 : upd H9 PL (.lst (ps.map V.int ++ [.int hh])) PL = some (.lst ((ps ++ [hh]).map V.int)) := by rw [upd_same, List.map_append]; rfl
          have hget : DGet (upd H9 PL (.lst (ps.map V.int ++ [.int hh]))) D (.int hh) (some (.int h')) := .inl ⟨_, Sum.inl hh, .inr ⟨od, I10.d⟩, rfl, by rw [up_val, hl]; rfl⟩
          refine ⟨_, rfl, _, rfl, D, _, rfl, hget, ?_⟩
          exact ⟨m.length - (met ++ [hh]).length, by rw [List.length_append, List.length_singleton]; omega, met ++ [hh], ps ++ [hh], h', n', rfl, I10, eP10, hn', hk', hF8, by rw [List.length_append, List.length_singleton]; omega, by rw [List.length_append, List.length_append, List.length_singleton]; omega, rfl⟩
      · rintro σ H Q1 Q2 hq ⟨v, e, v2, e2, a, o, e3, g, c, ec, q⟩
        refine ⟨v, e, v2, e2, a, o, e3, g, c, ec, ?_⟩
        by_cases hc : c = true
        · rw [if_pos hc] at q ⊢
          obtain ⟨w1, f1, w2, f2, a2, o2, f3, g2, c2, fc, q2⟩ := q
          exact ⟨w1, f1, w2, f2, a2, o2, f3, g2, c2, fc, hq _ _ q2⟩
        · rw [if_neg hc] at q ⊢
          exact hq _ _ q
    · rintro σ H5 ⟨y7, y8, y9, rfl, I, hn, hk⟩
      refine ⟨I.d, ?_⟩
      have f : Fr [D] H5 (upd H5 D (.dK (upV m))) := .put (by simp) fun o z => by rw [I.d] at z; cases z; rfl
      have LR := I.l.fr f (by simp [I.ne.1.symm])
      have sF : Same H (upd H5 D (.dK (upV m))) := fun c o e => by rw [upd_ne (ne_of_none e hD0)]; exact I.s _ _ e
      have hlen : (upV m).length = m.length := by unfold upV; rw [List.length_map]
      have hks : (m.map (·.1)).take (upV m).length = m.map (·.1) := by rw [hlen, ← List.length_map (f := fun x : Int × Int => x.1), List.take_length]
      rw [hks] at LR
      generalize upd H5 D (.dK (upV m)) = H9 at LR sF ⊢
      obtain ⟨us, eR, dR⟩ := LR
      obtain ⟨bs, b1, b2, hb⟩ := zip_dps rngD dR
      have hne := rings_ne m (m.map (·.1))
      refine ⟨_, rfl, RL, bs, rfl, by rw [b1]; exact SqL.of eR, fun x hx => ?_, by rw [b2]; exact PySem.W.AllAlike.of rng_alike, ?_, fun x hx => ?_, fun p hp => ?_⟩
      · exact dp_up _ _ (hb x hx)
      · rw [b2]
        refine .inl fun d hd => ?_
        obtain ⟨r, hr', rfl⟩ := List.mem_map.mp hd
        cases r with
        | nil => exact absurd rfl (hne [] hr')
        | cons x r => exact ⟨_, _, rfl⟩
      · have hm2 : x.2 ∈ bs.map (·.2) := List.mem_map.mpr ⟨x, hx, rfl⟩
        rw [b2] at hm2
        obtain ⟨r, _, er⟩ := List.mem_map.mp hm2
        rw [← er]
        exact dep_rng r
      · have s5 := same_upd (o := .lst ((bs.mergeSort (PySem.W.dataLe false fun b : V × PyData => b.2)).map (·.1))) hp
        refine k p _ (sF.trans s5) (sF.free hp) ⟨_, upd_same, ?_⟩
        have h9 := dps_same (tu_same s5) _ _ (sort_all hb)
        rw [b2, rng_sort] at h9
        unfold ringsP
        exact h9
end
end Pf

set_option Elab.async false
set_option linter.all false
set_option maxRecDepth 100000
set_option maxHeartbeats 4000000
namespace Pf
open PySem PySem.Spec PyProof.Rows L2
/-! ### faults, as data -/
def unsD (l : List Un) : PyData := .tuple (l.map uD)
def frD (up : Int) (l : List Un) : PyData := .tuple [.str "free", .int up, unsD l]
def dbD (up n : Int) (l : List Un) : PyData := .tuple [.str "double", .int up, .int n, unsD l]
def wrD (u : Un) : PyData := .tuple [.str "wrong", uD u]
def rnD (r : List Int) : PyData := .tuple [.str "ring", rngD r]
def dbF (g : Gp) (up : Int) (k : Int × Int) : Option PyData := if 1 < (lookP g k).length then some (dbD up k.2 (lookP g k)) else none
def dbs (g : Gp) (up : Int) : List PyData := ((g.map (·.1)).mergeSort leP).filterMap (dbF g up)
def isDirN (cs : List Ch) (b : Sh) (n : Int) : Bool := decide (n = 0 ∨ n = 1) || (dirN cs b n).isSome
def frs (cs : List Ch) (b : Sh) (up : Int) (l : List Un) : List PyData := if 0 < l.length ∧ isDirN cs b up = false then [frD up l] else []
def fbL (cs : List Ch) (b : Sh) (up : Int) (l : List Un) : List PyData := frs cs b up l ++ dbs (gsN (placeN cs b) l) up
theorem fmap_take {α β : Type} {f : α → Option β} {l : List α} {i : Nat} {x : α} (h : l[i]? = some x) : (l.take (i + 1)).filterMap f = (l.take i).filterMap f ++ (f x).toList := by
  rw [List.take_succ, h, List.filterMap_append]
  cases e : f x <;> simp [e]
theorem each_at {α β : Type} {R : α → β → Prop} : ∀ {l : List α} {m : List β}, PySem.W.EachIs R l m → ∀ {i : Nat} {x : α}, l[i]? = some x → ∃ y, m[i]? = some y ∧ R x y
  | _, _, .nil, i, x, h => by simp at h
  | _, _, .cons a b, 0, x, h => by cases h; exact ⟨_, rfl, a⟩
  | _, _, .cons a b, i + 1, x, h => each_at (l := _) b h
theorem frs_len (cs : List Ch) (b : Sh) (up : Int) (l : List Un) : (frs cs b up l).length ≤ 1 := by
  unfold frs
  split <;> simp
theorem dbs_len (g : Gp) (up : Int) : (dbs g up).length ≤ g.length := by
  unfold dbs
  refine Nat.le_trans (List.length_filterMap_le _ _) ?_
  rw [List.length_mergeSort, List.length_map]
  exact Nat.le_refl _
theorem gsN_len (pl : Un → Option (Int × Int)) (l : List Un) : (gsN pl l).length ≤ l.length := gs_len pl l
theorem fb_len (cs : List Ch) (b : Sh) (up : Int) (l : List Un) : (fbL cs b up l).length ≤ 1 + l.length := by
  unfold fbL
  rw [List.length_append]
  have h1 := frs_len cs b up l
  have := dbs_len (gsN (placeN cs b) l) up
  have := gs_len (placeN cs b) l
  omega
abbrev NFb : List Str := ["shape", "home", "up", "units", "faults_here", "groups", "place"]
theorem scFbe : FnScope NFb ["shape", "home", "up", "units"] (defScope sFbe) := ⟨rfl, rfl, rfl, by decide +kernel, rfl, by decide +kernel, by decide +kernel⟩
section
variable {P : Program} {w : World} {K : PySem.W.Frag} {mg : Str → Option Value} {base : Heap} {C : Addr}
def spFb (K : PySem.W.Frag) (C : Addr) : Sp := fun vs H Q _ => ∃ (sa h L : Addr) (up : Int) (b : Sh) (cs : List Ch) (l : List Un), vs = [.ref sa, .ref h, .int up, .ref L] ∧ ShAt C H sa b ∧ HoAt K H h cs b.pl ∧ LsU H L (l.map uD) ∧ l.length ≤ 98 ∧ ∀ R H', Same H H' → H R = none → LsU H' R (fbL cs b up l) → Q (.ref R) H'
theorem ok_fbe {f fD fG : Addr} {fd dD dG : FuncData} (F : Fun K "faults_beneath" "faults_beneath" sFbe f fd) (DI : Df P w K mg base CX0 3 "is_dir" ["home", "shape", "number"] (spIsD K C) fD dD) (DG : Df P w K mg base CX0 4 "groups_of" ["shape", "home", "units"] (spGo K C) fG dG)
    (ml : mg "len" = none) (ms : mg "sorted" = none) (mt : mg "tuple" = none) : FnOk P w K mg base CX0 5 f fd ["shape", "home", "up", "units"] (spFb K C) := by
  refine F.ok scFbe (fun vs H Q E h => ?_) (fun cdv A outer s H vs Q E hr h => ?_)
  · obtain ⟨sa, h, L, up, b, cs, l, rfl, _⟩ := h
    rfl
  · obtain ⟨sa, h, L, up, b, cs, l, rfl, S, Ho, AL, hl98, k⟩ := h
    have nd := scFbe.nd
    have hu := hu_of hr
    have h3 : Room 3 _ := hr.mono (by decide)
    obtain ⟨ul, eL, dL⟩ := id AL
    have hul := dps_len dL
    rw [List.length_map] at hul
    obtain ⟨t, ht, hq⟩ : ∃ t, PSs (cxOf CX0 P w K mg base NFb "faults_beneath" (defScope sFbe) f cdv A outer s H E).nox ((defBody sFbe).drop 2) t ∧ ∀ H2 RL, Same H H2 → H RL = none → LsU H2 RL (frs cs b up l) →
        t { nx := fun x H' => Q V.non H', rt := Q } [some (.ref sa), some (.ref h), some (.int up), some (.ref L), some (.ref RL), none, none] H2 := by
      refine ⟨_, pss_cons (ps_set (i := 5) nd rfl (.inl rfl) (pe_call DG.G hr rfl DG.g DG.kp DG.b .nil pass0 (pa_cons (pv 0) (pa_cons (pv 1) (pa_cons (pv 3) pa_nil)))))
        (pss_cons (ps_for PassesOwn.never rfl (pi_list (pe_callB (call_sortedDT2 rfl hr.units) (by rfl) ms (by decide +kernel) (pa_cons (pv 5) pa_nil))) (pg_name (i := 6) nd rfl (.inl rfl))
          (pss_one (ps_if (pt_cmpR op_gt (pe_callB call_len_seq (by rfl) ml boot_len (pa_cons (pe_dget hu (pv 5) (pv 6) (fun _ _ => rfl)) pa_nil)) pe_int (nomark _))
            (pss_one (ps_expr (pe_bm PySem.F.plainAttrs_list PySem.F.slot_list_append PySem.F.type_list_append mt_append (pv 4) (pa_cons (pe_tup (pa_cons pe_str (pa_cons (pv 2) (pa_cons (pe_ix ix_tup (pv 6) pe_int (fun _ _ => rfl)) (pa_cons (pe_dget hu (pv 5) (pv 6) (fun _ _ => rfl)) pa_nil))))) pa_nil)))) pss_nil)))
        (pss_one (ps_ret (pv 4)))), ?_⟩
      intro H2 RL s2 hRL LR
      refine ⟨_, rfl, _, rfl, _, rfl, sa, h, L, b, cs, l, rfl, S.same s2, Ho.same s2, AL.same s2, hl98, fun D H3 s3 hD G => ?_⟩
      obtain ⟨kvs, eD, DDk⟩ := G
      have s23 := s2.trans s3
      have LR3 := LR.same s3
      generalize hg : gsN (placeN cs b) l = g at *
      have hgn : (g.map (·.1)).Nodup := by rw [← hg]; exact gs_nodup _ _
      have hgl : g.length ≤ 98 := by rw [← hg]; exact Nat.le_trans (gs_len _ _) hl98
      have hgs : ∀ x ∈ g, x.2.length ≤ 98 := fun x hx => by rw [← hg] at hx; exact Nat.le_trans (lookP_len _ _ x hx) hl98
      refine ⟨_, rfl, D, kvs, g.map (·.1), rfl, .inl eD, by rw [DDk.k]; unfold gpD; rw [List.map_map, List.map_map]; rfl, fun p bs hp hbs => ?_⟩
      have s4 := same_upd (o := .lst bs) hp
      have s34 := s23.trans s4
      have eD4 := s4 _ _ eD
      have DD4 := DDk.fr (tu_same s4)
      have LR4 := LR3.same s4
      have eb4 : upd H3 p (.lst bs) p = some (.lst bs) := upd_same
      have nRp : RL ≠ p := fun z => by obtain ⟨us, e, _⟩ := LR3; rw [z, hp] at e; cases e
      have nDR : D ≠ RL := fun z => by obtain ⟨us, e, _⟩ := LR3; rw [← z, eD] at e; cases e
      have hbs4 : PySem.W.EachIs (fun (v : V) (k : Int × Int) => ∃ t, v = .ref t ∧ upd H3 p (.lst bs) t = some (.tup [.int k.1, .int k.2])) bs ((g.map (·.1)).mergeSort leP) := hbs.mono fun v k ⟨t, e, et⟩ => ⟨t, e, s4 _ _ et⟩
      have hbl : bs.length = g.length := by rw [hbs.length, List.length_mergeSort, List.length_map]
      generalize upd H3 p (.lst bs) = H4 at s4 s34 eD4 DD4 LR4 eb4 hbs4 ⊢
      refine ⟨p, rfl, ⟨bs, SqL.of eb4⟩, for_list (K := K) (a := p) (xs := bs) (fun i σ H' => ∃ y6, σ = [some (.ref sa), some (.ref h), some (.int up), some (.ref L), some (.ref RL), some (.ref D), y6] ∧ Same H H' ∧ Fr [RL] H4 H' ∧ LsU H' RL (frs cs b up l ++ (((g.map (·.1)).mergeSort leP).take i).filterMap (dbF g up))) ⟨none, rfl, s34, .of (Same.refl _), by simpa using LR4⟩ (fun i σ H' _ z => by
        obtain ⟨_, _, _, f, _⟩ := z
        exact SqL.of (f.at eb4 (by simp [nRp.symm]))) ?_ ?_⟩
      · rintro i x σ H5 hi ⟨y6, rfl, s5, f5, LR5⟩
        obtain ⟨kk, hk, t, rfl, et⟩ := each_at hbs4 hi
        have hil := (List.getElem?_eq_some_iff.mp hi).1
        have et5 := f5.tup et
        have eD5 : H5 D = some (.dT kvs) := f5.at eD4 (by simp [nDR])
        have DD5 := DD4.fr (tu_fr f5)
        obtain ⟨g1, g2⟩ := DD5.get pK_inj kk
        have hkm : kk ∈ g.map (·.1) := List.mem_mergeSort.mp (List.mem_of_getElem? hk)
        obtain ⟨xg, hxg, exg⟩ := List.mem_map.mp hkm
        have hlk := lookP_in hgn hxg
        rw [exg] at hlk
        have hlk98 := hgs xg hxg
        rw [← hlk] at hlk98
        have ha1 : lookA (gpD g) kk = some (.tuple ((lookP g kk).map uD)) := by
          rcases gpD_look g kk with ⟨_, _, a3⟩ | ⟨a1, _⟩
          · exact absurd (List.any_eq_true.mpr ⟨xg, hxg, decide_eq_true exg⟩) (by rw [a3]; decide)
          · exact a1
        obtain ⟨v, hv, dv⟩ := g2 _ ha1
        obtain ⟨tv, vs, rfl, etv, dvs⟩ := dpu_tup dv
        have hvl := dps_len dvs
        rw [List.length_map] at hvl
        have hget : DGet H5 D (.ref t) (some (.ref tv)) := by rw [← hv]; exact DGet.t (k := pK kk) eD5 et5
        obtain ⟨us, eR, dR⟩ := id LR5
        have hul5 := dps_len dR
        rw [List.length_append] at hul5
        have h1 := frs_len cs b up l
        have h2 : ((((g.map (·.1)).mergeSort leP).take i).filterMap (dbF g up)).length ≤ i := Nat.le_trans (List.length_filterMap_le _ _) (by rw [List.length_take]; omega)
        rw [fmap_take hk]
        refine ⟨_, rfl, _, rfl, D, _, rfl, hget, tv, _, rfl, .inr (SqT.of etv), _, _, rfl, rfl, _, rfl, ?_⟩
        by_cases c : 1 < (lookP g kk).length
        · rw [decide_eq_true (by omega)]
          have hdb : dbF g up kk = some (dbD up kk.2 (lookP g kk)) := by unfold dbF; rw [if_pos c]
          refine iteT ⟨_, rfl, .inl ⟨rfl, _, SqL.of eR⟩, _, rfl, _, rfl, t, _, 1, _, rfl, rfl, SqT.of et5, atI_nat (j := 1) rfl, _, rfl, _, rfl, D, _, rfl, hget, (by show 4 ≤ sizeLine; decide), fun q hq => ?_⟩
          have s6 := same_upd (o := .tup [V.str "double", .int up, .int kk.2, .ref tv]) hq
          have eq6 : upd H5 q (.tup [V.str "double", .int up, .int kk.2, .ref tv]) q = some (.tup [V.str "double", .int up, .int kk.2, .ref tv]) := upd_same
          have dv6 := dp_same (tu_same s6) _ _ dv
          have eR6 := s6 _ _ eR
          have dR6 := dps_same (tu_same s6) _ _ dR
          have s56 := s5.trans s6
          have f56 := f5.trans (Fr.of (cs := [RL]) s6)
          generalize upd H5 q (.tup [V.str "double", .int up, .int kk.2, .ref tv]) = H6 at s6 eq6 dv6 eR6 dR6 s56 f56 ⊢
          refine ⟨RL, us, .ref q, rfl, rfl, eR6, by rw [hul5, sizeLine_eq]; omega, ?_⟩
          have f : Fr [RL] H6 (upd H6 RL (.lst (us ++ [.ref q]))) := .put (by simp) fun o z => by rw [eR6] at z; cases z; rfl
          refine ⟨_, rfl, fun c o e => by rw [upd_ne (ne_of_none e hRL)]; exact s56 _ _ e, f56.trans f, ?_⟩
          rw [hdb]
          show LsU _ _ (_ ++ (_ ++ [dbD up kk.2 (lookP g kk)]))
          rw [← List.append_assoc]
          exact LsU.push eR6 dR6 (.tup (SqT.of (tu_at eq6)) (.cons (.str _) (.cons (.int _) (.cons (.int _) (.cons dv6 .nil)))))
        · rw [decide_eq_false (by omega)]
          have hdb : dbF g up kk = none := by unfold dbF; rw [if_neg c]
          refine iteF ⟨_, rfl, s5, f5, ?_⟩
          rw [hdb]
          show LsU _ _ (_ ++ (_ ++ []))
          rw [List.append_nil]
          exact LR5
      · rintro σ H5 ⟨y6, rfl, s5, f5, LR5⟩
        have e9 : ((g.map (·.1)).mergeSort leP).take bs.length = (g.map (·.1)).mergeSort leP := by rw [hbs.length, List.take_length]
        rw [e9] at LR5
        refine ⟨_, rfl, k RL H5 s5 hRL ?_⟩
        unfold fbL dbs
        rw [hg]
        exact LR5
    refine ⟨_, pss_cons (ps_set (i := 4) nd rfl (.inl rfl) (pe_lst pa_nil))
      (pss_cons (ps_if (PW.pt (pw_and (pt_cmpR op_gt (pe_callB call_len_seq (by rfl) ml boot_len (pa_cons (pv 3) pa_nil)) pe_int (nomark _)) (pw_and1 (pt_not (pt_val (pe_call DI.G h3 rfl DI.g DI.kp DI.b .nil pass0 (pa_cons (pv 1) (pa_cons (pv 0) (pa_cons (pv 2) pa_nil)))))))))
        (pss_one (ps_expr (pe_bm PySem.F.plainAttrs_list PySem.F.slot_list_append PySem.F.type_list_append mt_append (pv 4) (pa_cons (pe_tup (pa_cons pe_str (pa_cons (pv 2) (pa_cons (pe_callTy call_tuple_of (by rfl) mt boot_tuple (pa_cons (pv 3) pa_nil)) pa_nil)))) pa_nil)))) pss_nil) ht), ?_⟩
    refine ⟨Nat.zero_le _, fun RL hRL => ?_⟩
    have s0 := same_upd (o := .lst []) hRL
    have eR0 : upd H RL (.lst []) RL = some (.lst []) := upd_same
    generalize upd H RL (.lst []) = H1 at s0 eR0 ⊢
    refine ⟨_, rfl, L, ul, rfl, .inl (SqL.of (s0 _ _ eL)), _, _, rfl, rfl, _, rfl, ?_⟩
    rw [hul]
    by_cases c1 : 0 < l.length
    · rw [decide_eq_true (by omega)]
      refine iteT ⟨_, rfl, _, rfl, _, rfl, h, sa, up, b, cs, rfl, S.same s0, Ho.same s0, fun H2 s2 => ⟨_, rfl, ?_⟩⟩
      have s02 := s0.trans s2
      show if (!(isDirN cs b up)) = true then _ else _
      by_cases c2 : isDirN cs b up = true
      · rw [c2]
        refine iteF (hq _ _ s02 hRL ?_)
        rw [show frs cs b up l = [] by unfold frs; rw [if_neg]; intro z; rw [c2] at z; cases z.2]
        exact ⟨[], s2 _ _ eR0, .nil⟩
      · have c2' : isDirN cs b up = false := by simpa using c2
        rw [c2']
        have hf : frs cs b up l = [frD up l] := by unfold frs; rw [if_pos ⟨c1, c2'⟩]
        have eR2 := s2 _ _ eR0
        have eL2 := s02 _ _ eL
        refine iteT ⟨_, rfl, .inl ⟨rfl, _, SqL.of eR2⟩, _, rfl, _, rfl, L, ul, rfl, .inl ⟨SqL.of eL2, fun t1 ht1 => ⟨(by show 3 ≤ sizeLine; decide), fun q hq' => ?_⟩⟩⟩
        have s3 := same_upd (o := .tup ul) ht1
        have s4 := same_upd (o := .tup [V.str "free", .int up, .ref t1]) hq'
        have e1 : upd H2 t1 (.tup ul) t1 = some (.tup ul) := upd_same
        have e1' := s4 _ _ e1
        have e2 : upd (upd H2 t1 (.tup ul)) q (.tup [V.str "free", .int up, .ref t1]) q = some (.tup [V.str "free", .int up, .ref t1]) := upd_same
        have eR4 := (s3.trans s4) _ _ eR2
        have d4 := dps_same (tu_same ((s02.trans s3).trans s4)) _ _ dL
        have s24 := (s02.trans s3).trans s4
        generalize upd (upd H2 t1 (.tup ul)) q (.tup [V.str "free", .int up, .ref t1]) = H4 at e1' e2 eR4 d4 s24 s4 ⊢
        refine ⟨RL, [], .ref q, rfl, rfl, eR4, (by show 0 < sizeLine; decide), hq _ _ (fun c o e => by rw [upd_ne (ne_of_none e hRL)]; exact s24 _ _ e) hRL ?_⟩
        rw [hf]
        exact LsU.push (ds := []) eR4 .nil (.tup (SqT.of (tu_at e2)) (.cons (.str _) (.cons (.int _) (.cons (.tup (SqT.of (tu_at e1')) d4) .nil))))
    · rw [decide_eq_false (by omega)]
      refine iteF (iteF (hq _ _ s0 hRL ?_))
      rw [show frs cs b up l = [] by unfold frs; rw [if_neg]; intro z; exact c1 z.1]
      exact ⟨[], eR0, .nil⟩
end
end Pf

set_option Elab.async false
set_option linter.all false
set_option maxRecDepth 100000
set_option maxHeartbeats 4000000
namespace Pf
open PySem PySem.Spec PyProof.Rows L2
def lookG (g : Gr) (k : Int) : List Un := ((g.find? fun x => decide (x.1 = k)).map (·.2)).getD []
def faultsL (cs : List Ch) (b : Sh) : List PyData := ((wrongL cs b).map wrD ++ (List.range b.d.toNat).flatMap fun i => fbL cs b ((i : Nat) : Int) (lookG (grpN (placeN cs b) (unitsL b)) ((i : Nat) : Int))) ++ (ringsP (upsL cs b)).map rnD
theorem lookG_in : ∀ {gs : Gt} (hn : (gs.map (·.1)).Nodup) {x : Int × Addr × List Un}, x ∈ gs → lookG (gpl gs) x.1 = x.2.2
  | [], _, x, hx => by cases hx
  | z :: gs, hn, x, hx => by
    have h1 := List.nodup_cons.mp hn
    by_cases c : z.1 = x.1
    · have e : z = x := nodup_inj (f := fun q : Int × Addr × List Un => q.1) hn List.mem_cons_self hx c
      subst e
      unfold lookG gpl
      rw [List.map_cons, List.find?_cons_of_pos (by simp)]
      rfl
    · have e1 : lookG (gpl (z :: gs)) x.1 = lookG (gpl gs) x.1 := by
        unfold lookG gpl
        rw [List.map_cons, List.find?_cons_of_neg (by simp [c])]
      rw [e1]
      rcases List.mem_cons.mp hx with e | m
      · exact absurd (by rw [e]) c
      · exact lookG_in h1.2 m
theorem lookG_no : ∀ {gs : Gt} {k : Int}, (gs.any fun x => decide (x.1 = k)) = false → lookG (gpl gs) k = []
  | [], _, _ => rfl
  | z :: gs, k, h => by
    rw [List.any_cons, Bool.or_eq_false_iff] at h
    have c : ¬ z.1 = k := of_decide_eq_false h.1
    have e1 : lookG (gpl (z :: gs)) k = lookG (gpl gs) k := by
      unfold lookG gpl
      rw [List.map_cons, List.find?_cons_of_neg (by simp [c])]
    rw [e1]
    exact lookG_no h.2
theorem LsU.app {H : Hp} {D : Addr} {us zs : List V} {ds es : List PyData} (e : H D = some (.lst us)) (h : DpAll [] (Tu H) us ds) (hz : DpAll [] (Tu H) zs es) : LsU (upd H D (.lst (us ++ zs))) D (ds ++ es) := by
  have tb : Same (Tu H) (Tu (upd H D (.lst (us ++ zs)))) := tu_of (tp_put fun o q => by rw [e] at q; cases q; rfl)
  exact ⟨_, upd_same, dps_app (dps_same tb _ _ h) (dps_same tb _ _ hz)⟩
theorem UB.fr {H H' : Hp} {D RL : Addr} {gs : Gt} (U : UB H D gs) (f : Fr [RL] H H') (n : D ≠ RL) (hn : ∀ x ∈ gs, x.2.1 ≠ RL) : UB H' D gs := ⟨f.at U.e (by simp [n]), U.k, U.a, fun x hx => (U.l x hx).fr f (by simp [hn x hx])⟩
abbrev NFa : List Str := ["shape", "home", "told", "unit", "units", "up", "ring"]
abbrev NIr : List Str := ["shape", "home"]
theorem scFau : FnScope NFa ["shape", "home"] (defScope sFau) := ⟨rfl, rfl, rfl, by decide +kernel, rfl, by decide +kernel, by decide +kernel⟩
theorem scIr : FnScope NIr ["shape", "home"] (defScope sIr) := ⟨rfl, rfl, rfl, by decide +kernel, rfl, by decide +kernel, by decide +kernel⟩
section
variable {P : Program} {w : World} {K : PySem.W.Frag} {mg : Str → Option Value} {base : Heap} {C : Addr}
def spFa (K : PySem.W.Frag) (C : Addr) : Sp := fun vs H Q _ => ∃ (sa h : Addr) (b : Sh) (cs : List Ch), vs = [.ref sa, .ref h] ∧ ShAt C H sa b ∧ HoAt K H h cs b.pl ∧ ∀ t us H', Same H H' → H' t = some (.tup us) → DpAll [] (Tu H') us (faultsL cs b) → Q (.ref t) H'
theorem ok_fau {f fW fU fB fR : Addr} {fd dW dU dB dR : FuncData} (F : Fun K "faults" "faults" sFau f fd) (T : ShTxt K C) (DW : Df P w K mg base CX0 4 "wrong_units" ["shape", "home"] (spWu K C) fW dW) (DU : Df P w K mg base CX0 4 "units_by_up" ["shape", "home"] (spUb K C) fU dU)
    (DB : Df P w K mg base CX0 5 "faults_beneath" ["shape", "home", "up", "units"] (spFb K C) fB dB) (DR : Df P w K mg base CX0 4 "rings_of" ["shape", "home"] (spRi K C) fR dR) (mr : mg "range" = none) (mt : mg "tuple" = none) : FnOk P w K mg base CX0 6 f fd ["shape", "home"] (spFa K C) := by
  refine F.ok scFau (fun vs H Q E h => ?_) (fun cdv A outer s H vs Q E hr h => ?_)
  · obtain ⟨sa, h, b, cs, rfl, _⟩ := h
    rfl
  · obtain ⟨sa, h, b, cs, rfl, S, Ho, k⟩ := h
    have nd := scFau.nd
    have hu := hu_of hr
    have h4 : Room 4 _ := hr.mono (by decide)
    refine ⟨_, pss_cons (ps_setLc (i := 2) (own := [("unit", 3)]) (g := gName 3) (tt := tYes) (te := tTup (tCons (tC (.str "wrong")) (tCons (tVar 3) tNil))) (by rfl) nd rfl rfl (sw_true rfl rfl rfl (by decide +kernel)) (pi_list (pe_call DW.G h4 rfl DW.g DW.kp DW.b .nil pass0 (pa_cons (pv 0) (pa_cons (pv 1) pa_nil)))) (blkOk_by (N := NFa) (sc := defScope sFau) (by decide +kernel))
          (fun _ _ _ _ _ => pg_name (i := 3) nd rfl (.inl rfl)) (fun _ _ _ _ _ => pts_nil) (fun _ _ _ _ _ => pe_tup (pa_cons pe_str (pa_cons (pv 3) pa_nil))))
      (pss_cons (ps_set (i := 4) nd rfl (.inl rfl) (pe_call DU.G h4 rfl DU.g DU.kp DU.b .nil pass0 (pa_cons (pv 0) (pa_cons (pv 1) pa_nil))))
      (pss_cons (ps_for PassesOwn.never rfl (pi_range1 (by rfl) mr (pa_cons (pe_fld (pv 0) rfl) pa_nil)) (pg_name (i := 5) nd rfl (.inl rfl))
        (pss_one (ps_expr (pe_bm PySem.F.plainAttrs_list PySem.F.slot_list_extend PySem.F.type_list_extend mt_extend (pv 2) (pa_cons (pe_call DB.G hr rfl DB.g DB.kp DB.b .nil pass0 (pa_cons (pv 0) (pa_cons (pv 1) (pa_cons (pv 5) (pa_cons (pe_dget2 hu (pv 4) (pv 5) (pe_lst pa_nil) ⟨rfl, rfl, rfl, rfl⟩) pa_nil))))) pa_nil)))))
      (pss_one (ps_ret (pe_callTy call_tuple_of (by rfl) mt boot_tuple (pa_cons (pe_op op_cat (pv 2) (pe_lc (own := [("ring", 6)]) (g := gName 6) (tt := tYes) (te := tTup (tCons (tC (.str "ring")) (tCons (tVar 6) tNil))) rfl nd (pi_list (pe_call DR.G h4 rfl DR.g DR.kp DR.b .nil pass0 (pa_cons (pv 0) (pa_cons (pv 1) pa_nil)))) (blkOk_by (N := NFa) (sc := defScope sFau) (by decide +kernel))
          (fun _ _ _ _ _ => pg_name (i := 6) nd rfl (.inl rfl)) (fun _ _ _ _ _ => pts_nil) (fun _ _ _ _ _ => pe_tup (pa_cons pe_str (pa_cons (pv 6) pa_nil))))) pa_nil)))))), ?_⟩
    have hbd := b.hd
    have hu98 := units_len b
    refine ⟨_, rfl, _, rfl, sa, h, b, cs, rfl, S, Ho, fun LW H1 s1 hLW A1 => ?_⟩
    obtain ⟨uw, ew, dw⟩ := A1
    have hwl := dps_len dw
    rw [List.length_map] at hwl
    have hw98 : (wrongL cs b).length ≤ 98 := Nat.le_trans (List.length_filter_le _ _) hu98
    refine ⟨LW, rfl, ⟨uw, SqL.of ew⟩, fun RL hRL => lc_list (K := K) (a := LW) (xs := uw) (fun i H' => Same H1 H' ∧ LsU H' RL (((wrongL cs b).take i).map wrD)) ⟨same_upd hRL, ⟨[], upd_same, .nil⟩⟩ (fun i H2 _ z => SqL.of (z.1 _ _ ew)) ?_ ?_⟩
    · rintro i x H' hi ⟨s2, us, eR, dR⟩
      obtain ⟨u, hu', hd⟩ := dpu_at dw hi
      have hul := dps_len dR
      rw [List.length_map, List.length_take] at hul
      refine ⟨rfl, tyes_go ⟨_, rfl, (by show 2 ≤ sizeLine; decide), fun p hp => ?_⟩⟩
      have s3 := same_upd (o := .tup [V.str "wrong", x]) hp
      refine ⟨us, s3 _ _ eR, by rw [sizeLine_eq]; omega, fun c o e => by rw [upd_ne (ne_of_none e hRL)]; exact s3 _ _ (s2 _ _ e), ?_⟩
      rw [List.take_succ, hu', List.map_append]
      exact LsU.push (s3 _ _ eR) (dps_same (tu_same s3) _ _ dR) (dpu_mk upd_same (.str _) (dp_same (tu_same (s2.trans s3)) _ _ hd))
    rintro H2 ⟨s2, LR2⟩
    rw [hwl, List.take_length] at LR2
    have s12 := s1.trans s2
    have hRL0 : H RL = none := s1.free hRL
    refine ⟨_, rfl, _, rfl, sa, h, b, cs, rfl, S.same s12, Ho.same s12, fun D H3 gs s3 hD U hg hgs => ?_⟩
    have LR3 := LR2.same s3
    have s13 := s12.trans s3
    have hRLn : ∃ us, H2 RL = some (.lst us) := let ⟨us, e, _⟩ := LR2; ⟨us, e⟩
    obtain ⟨us2, e2⟩ := hRLn
    have nDR : D ≠ RL := fun z => by rw [z, e2] at hD; cases hD
    have nxR : ∀ x ∈ gs, x.2.1 ≠ RL := fun x hx z => by have := (hgs x hx).1; rw [z, e2] at this; cases this
    obtain ⟨dx, es⟩ := S.same s13
    refine ⟨_, rfl, sa, C, dx, _, _, rfl, es, T.cl, T.no _ (by decide +kernel), zip_get (i := 0) shn_nodup rfl rfl, b.d, rfl, ?_⟩
    have hlenF : ∀ i : Nat, i ≤ 40 → ((List.range i).flatMap fun j => fbL cs b ((j : Nat) : Int) (lookG (grpN (placeN cs b) (unitsL b)) ((j : Nat) : Int))).length ≤ 99 * i := fun i => by
      induction i with
      | zero => intro _; simp
      | succ i ih =>
        intro h9
        rw [List.range_succ, List.flatMap_append, List.length_append]
        have h8 := ih (by omega)
        have h7 := fb_len cs b ((i : Nat) : Int) (lookG (grpN (placeN cs b) (unitsL b)) ((i : Nat) : Int))
        have h6 : (lookG (grpN (placeN cs b) (unitsL b)) ((i : Nat) : Int)).length ≤ 98 := by
          rw [← hg]
          cases e : gs.any fun x => decide (x.1 = ((i : Nat) : Int)) with
          | false => rw [lookG_no e]; exact Nat.zero_le _
          | true =>
            obtain ⟨x, hx, ex⟩ := List.any_eq_true.mp e
            rw [← of_decide_eq_true ex, lookG_in U.k hx]
            exact (hgs x hx).2
        simp only [List.flatMap_cons, List.flatMap_nil, List.append_nil]
        omega
    refine ⟨by omega, by omega, for_range (lo := 0) (n := b.d.toNat) (fun i σ H' => ∃ y5, σ = [some (.ref sa), some (.ref h), some (.ref RL), none, some (.ref D), y5, none] ∧ Same H H' ∧ UB H' D gs ∧ LsU H' RL ((wrongL cs b).map wrD ++ (List.range i).flatMap fun j => fbL cs b ((j : Nat) : Int) (lookG (grpN (placeN cs b) (unitsL b)) ((j : Nat) : Int)))) ⟨none, rfl, s13, U, by simpa using LR3⟩ ?_ ?_⟩
    · rintro i σ H5 hi ⟨y5, rfl, s5, U5, LR5⟩
      obtain ⟨us, eR, dR⟩ := id LR5
      have hul := dps_len dR
      rw [List.length_append, List.length_map] at hul
      have hF := hlenF i (by omega)
      refine ⟨_, rfl, .inl ⟨rfl, _, SqL.of eR⟩, _, rfl, _, rfl, _, rfl, _, rfl, D, rfl, .inl ⟨_, .inl U5.e⟩, _, rfl, Nat.zero_le _, fun l0 hl0 => ?_⟩
      have s6 := same_upd (o := .lst []) hl0
      have e0 : upd H5 l0 (.lst []) l0 = some (.lst []) := upd_same
      have U6 := U5.same s6
      have s56 := s5.trans s6
      have eR6 := s6 _ _ eR
      have dR6 := dps_same (tu_same s6) _ _ dR
      generalize upd H5 l0 (.lst []) = H6 at s6 e0 U6 s56 eR6 dR6 ⊢
      have ez : (0 : Int) + ((i : Nat) : Int) = ((i : Nat) : Int) := by omega
      obtain ⟨L, l, eL, AL, hl98, hlk⟩ : ∃ L l, (valV (gkv gs) (Sum.inl (0 + ((i : Nat) : Int)))).getD (.ref l0) = V.ref L ∧ LsU H6 L (l.map uD) ∧ l.length ≤ 98 ∧ lookG (grpN (placeN cs b) (unitsL b)) ((i : Nat) : Int) = l := by
        rw [ez]
        obtain ⟨g1, g2⟩ := gkv_val (gs := gs) (k := ((i : Nat) : Int))
        rw [← hg]
        cases hv : valV (gkv gs) (Sum.inl ((i : Nat) : Int)) with
        | none => exact ⟨l0, [], rfl, ⟨[], e0, .nil⟩, Nat.zero_le _, lookG_no (g2 hv)⟩
        | some v =>
          obtain ⟨x, hx, ex, rfl⟩ := g1 v hv
          exact ⟨x.2.1, x.2.2, rfl, U6.l x hx, (hgs x hx).2, by rw [← ex]; exact lookG_in U6.k hx⟩
      refine ⟨_, DGet.k (k := Sum.inl (0 + ((i : Nat) : Int))) U6.e, sa, h, L, 0 + ((i : Nat) : Int), b, cs, l, ?_, S.same s56, Ho.same s56, AL, hl98, fun R H7 s7 hR LR => ?_⟩
      · rw [eL]; rfl
      obtain ⟨zs, eZ, dZ⟩ := LR
      have hzl := dps_len dZ
      have hfl := fb_len cs b (0 + ((i : Nat) : Int)) l
      have eR7 := s7 _ _ eR6
      have U7 := U6.same s7
      have dR7 := dps_same (tu_same s7) _ _ dR6
      refine ⟨RL, R, us, zs, rfl, rfl, eR7, eZ, by rw [sizeLine_eq]; omega, ?_⟩
      have f : Fr [RL] H7 (upd H7 RL (.lst (us ++ zs))) := .put (by simp) fun o z => by rw [eR7] at z; cases z; rfl
      refine ⟨_, rfl, fun c o e => by rw [upd_ne (ne_of_none e hRL0)]; exact s7 _ _ (s56 _ _ e), U7.fr f nDR nxR, ?_⟩
      have ap := LsU.app eR7 dR7 dZ
      rw [List.range_succ, List.flatMap_append]
      simp only [List.flatMap_cons, List.flatMap_nil, List.append_nil]
      rw [← List.append_assoc, hlk, ← ez]
      exact ap
    · rintro σ H5 ⟨y5, rfl, s5, U5, LR5⟩
      refine ⟨_, rfl, _, rfl, _, rfl, sa, h, b, cs, rfl, S.same s5, Ho.same s5, fun LG H6 s6 hLG AG => ?_⟩
      obtain ⟨ug, eg, dg⟩ := AG
      have hgl := dps_len dg
      rw [List.length_map] at hgl
      have s56 := s5.trans s6
      have hrp : (ringsP (upsL cs b)).length ≤ 98 := by
        unfold ringsP isL
        rw [(isG_perm leL _).length_eq]
        refine Nat.le_trans (rings_len _ _) ?_
        unfold upsL
        rw [List.length_map, List.length_map]
        have := dirs_len cs b (b.d - 2).toNat
        omega
      refine ⟨LG, rfl, ⟨ug, SqL.of eg⟩, fun RG hRG => lc_list (K := K) (a := LG) (xs := ug) (fun i H' => Same H6 H' ∧ LsU H' RG (((ringsP (upsL cs b)).take i).map rnD)) ⟨same_upd hRG, ⟨[], upd_same, .nil⟩⟩ (fun i H2 _ z => SqL.of (z.1 _ _ eg)) ?_ ?_⟩
      · rintro i x H' hi ⟨s7, us, eR, dR⟩
        obtain ⟨u, hu', hd⟩ := dpu_at dg hi
        have hul := dps_len dR
        rw [List.length_map, List.length_take] at hul
        refine ⟨rfl, tyes_go ⟨_, rfl, (by show 2 ≤ sizeLine; decide), fun p hp => ?_⟩⟩
        have s8 := same_upd (o := .tup [V.str "ring", x]) hp
        refine ⟨us, s8 _ _ eR, by rw [sizeLine_eq]; omega, fun c o e => by rw [upd_ne (ne_of_none e hRG)]; exact s8 _ _ (s7 _ _ e), ?_⟩
        rw [List.take_succ, hu', List.map_append]
        exact LsU.push (s8 _ _ eR) (dps_same (tu_same s8) _ _ dR) (dpu_mk upd_same (.str _) (dp_same (tu_same (s7.trans s8)) _ _ hd))
      rintro H7 ⟨s7, LR7⟩
      rw [hgl, List.take_length] at LR7
      obtain ⟨u1, e1, d1⟩ := LR5.same (s6.trans s7)
      obtain ⟨u2, e2', d2⟩ := LR7
      have l1 := dps_len d1
      have l2 := dps_len d2
      rw [List.length_append, List.length_map] at l1
      rw [List.length_map] at l2
      have hF := hlenF b.d.toNat (by omega)
      refine ⟨RL, RG, _, _, rfl, rfl, e1, e2', by rw [sizeLine_eq]; omega, fun p hp => ⟨p, _, rfl, .inl ⟨SqL.of upd_same, fun t ht => ?_⟩⟩⟩
      have s8 := same_upd (o := .lst (u1 ++ u2)) hp
      have s9 := same_upd (o := .tup (u1 ++ u2)) ht
      refine k t _ _ ((s56.trans s7).trans (s8.trans s9)) upd_same ?_
      unfold faultsL
      exact dps_app (dps_same (tu_same (s8.trans s9)) _ _ d1) (dps_same (tu_same (s8.trans s9)) _ _ d2)
def spIr (K : PySem.W.Frag) (C : Addr) : Sp := fun vs H Q _ => ∃ (sa h : Addr) (b : Sh) (cs : List Ch), vs = [.ref sa, .ref h] ∧ ShAt C H sa b ∧ HoAt K H h cs b.pl ∧ ∀ H', Same H H' → Q (.bl (decide (faultsL cs b = []))) H'
theorem ok_ir {f fF : Addr} {fd dF : FuncData} (F : Fun K "is_right" "is_right" sIr f fd) (DF : Df P w K mg base CX0 6 "faults" ["shape", "home"] (spFa K C) fF dF) (ml : mg "len" = none) : FnOk P w K mg base CX0 7 f fd ["shape", "home"] (spIr K C) := by
  refine F.ok scIr (fun vs H Q E h => ?_) (fun cdv A outer s H vs Q E hr h => ?_)
  · obtain ⟨sa, h, b, cs, rfl, _⟩ := h
    rfl
  · obtain ⟨sa, h, b, cs, rfl, S, Ho, k⟩ := h
    have nd := scIr.nd
    refine ⟨_, pss_one (ps_ret (pe_cmpR op_eq (pe_callB call_len_seq (by rfl) ml boot_len (pa_cons (pe_call DF.G hr rfl DF.g DF.kp DF.b .nil pass0 (pa_cons (pv 0) (pa_cons (pv 1) pa_nil))) pa_nil)) pe_int (nomark _))), ?_⟩
    refine ⟨_, rfl, _, rfl, sa, h, b, cs, rfl, S, Ho, fun t us H1 s1 et dt => ⟨t, us, rfl, .inr (SqT.of et), rfl, ?_⟩⟩
    have hl := dps_len dt
    have e : V.bl (decide (V.int ((us.length : Nat) : Int) = V.int 0)) = V.bl (decide (faultsL cs b = [])) := by
      congr 1
      apply decide_eq_decide.mpr
      rw [hl]
      constructor
      · intro z
        have := V.int.inj z
        exact List.eq_nil_of_length_eq_zero (by omega)
      · intro z
        rw [z]
        rfl
    rw [e]
    exact k H1 s1
end
end Pf

set_option Elab.async false
set_option linter.all false
set_option maxRecDepth 100000
set_option maxHeartbeats 4000000
namespace Pf
open PySem PySem.Spec PyProof.Rows L2
theorem row_put (cs : List Ch) (k : Int) (l : List Int) (p : Int) : rowAt (putC cs k l) p = if p = k then l else rowAt cs p := by
  unfold rowAt
  rw [find_putC]
  by_cases e : p = k
  · rw [if_pos e, if_pos e]; rfl
  · rw [if_neg e, if_neg e]
theorem HoAt.fresh {K : PySem.W.Frag} {H : Hp} {h x : Addr} {cs : List Ch} {n : Int} (A : HoAt K H h cs n) (e : H x = none) : x ≠ h := fun z => by
  obtain ⟨⟨ts, e1, _⟩, _⟩ := A
  rw [z, e1] at e
  cases e
theorem HoAt.put {K : PySem.W.Frag} {H : Hp} {h : Addr} {cs : List Ch} {n : Int} (A : HoAt K H h cs n) {p : Int} (h0 : 0 ≤ p) (h1 : p < n) (hn : n ≤ 999) {t : Addr} {l : List Int} (et : SqT K H t (l.map V.int)) (hl : l.length = 8) :
    ∃ H', DPut H h (.int p) (.ref t) H' ∧ HoAt K H' h (putC cs p l) n ∧ Fr [h] H H' ∧ ∃ o, H' = upd H h o := by
  obtain ⟨⟨ts, e1, e2, e3⟩, hw⟩ := A
  have e4 : (tk ts).length = cs.length := by rw [← e2]; unfold tk tc; rw [List.length_map, List.length_map]
  have hlen := hw.len
  have f : Fr [h] H (upd H h (.dK (putK (tk ts) (Sum.inl p) (.ref t)))) := .put (by simp) fun u z => by rw [e1] at z; cases z; rfl
  refine ⟨_, DPut.k (k := Sum.inl p) e1 (by rw [e4]; exact small1000 (by omega)), ⟨⟨putT ts p (.ref t) l, by rw [upd_same, putT_tk], by rw [putT_tc, e2], ?_⟩, hw.put hl h0 h1⟩, f, _, rfl⟩
  exact putT_all (fun t z => dp_same f.tp _ _ (e3 t z)) (dp_same f.tp _ _ (row_tp (.tup et (dps_ints _))))
theorem scEh : FnScope ["self", "home", "limits", "plate"] ["self"] (defScope sEh) := ⟨rfl, rfl, rfl, by decide +kernel, rfl, by decide +kernel, by decide +kernel⟩
section
variable {P : Program} {w : World} {K : PySem.W.Frag} {mg : Str → Option Value} {base : Heap} {C : Addr}
def spEh (K : PySem.W.Frag) (C : Addr) : Sp := fun vs H Q _ => ∃ (s : Addr) (b : Sh), vs = [.ref s] ∧ ShAt C H s b ∧ b.u = 1 ∧ ∀ H' h cs, Same H H' → H h = none → HoAt K H' h cs b.pl → (∀ p : Int, 0 ≤ p → p < b.pl → p ≠ b.fu → rowAt cs p = List.replicate 8 0) → Q (.ref h) H'
theorem ok_eh {f : Addr} {fd : FuncData} (F : Fun K "empty_home" "Shape.empty_home" sEh f fd) (T : ShTxt K C) {tw : Tok} (mW : mg "WIDTH" = some (.int 8 tw)) (mr : mg "range" = none) : FnOk P w K mg base CX0 1 f fd ["self"] (spEh K C) := by
  refine F.ok scEh (fun vs H Q E h => ?_) (fun cdv A outer s H vs Q E hr h => ?_)
  · obtain ⟨sa, b, rfl, _⟩ := h
    rfl
  · obtain ⟨sa, b, rfl, S, hu1, k⟩ := h
    obtain ⟨q1, q2, q3, q4, q5, q6, q7, q8, q9, q10⟩ := b.bd
    have nd := scEh.nd
    have hu := hu_of hr
    refine ⟨_, pss_cons (ps_setDc (i := 1) (own := [("plate", 3)]) (g := gName 3) (tt := tYes) (tk := tVar 3) (tv := tOp (rRepT K) (tTup (tCons (tC (.int 0)) tNil)) (tC (.int 8))) rfl nd rfl rfl (swD_true rfl rfl rfl (by decide +kernel)) (pi_range1 (by rfl) mr (pa_cons (pe_fld (pv 0) rfl) pa_nil)) (blkOk_by (N := ["self", "home", "limits", "plate"]) (sc := defScope sEh) (by decide +kernel))
        (fun _ _ _ _ _ => pg_name (i := 3) nd rfl (Or.inl rfl)) (fun _ _ _ _ _ => pts_nil) (fun _ _ _ _ _ => pv 3) (fun _ _ _ _ _ => pe_op op_repT (pe_tup (pa_cons pe_int pa_nil)) (pe_glob (v := .int 8) rfl mW ⟨_, rfl⟩)))
      (pss_cons (ps_set (i := 2) nd rfl (.inl rfl) (pe_op op_rep1 (pe_tup (pa_cons (pe_fld (pv 0) rfl) pa_nil)) (pe_fld (pv 0) rfl)))
      (pss_cons (ps_dput hu (pv 1) (pe_fld (pv 0) rfl) (pe_op op_catT (pv 2) (pe_op op_repT (pe_tup (pa_cons pe_int pa_nil)) (pe_op op_sub (pe_glob (v := .int 8) rfl mW ⟨_, rfl⟩) (pe_fld (pv 0) rfl)))) rfl)
      (pss_one (ps_ret (pv 1))))), ?_⟩
    obtain ⟨dx, es⟩ := id S
    rw [show shV b = [.int b.d, .int b.r, .int b.f, .int b.b, .int 1, .int b.fr, .int b.fu, .int b.ff, .int b.fb, .int b.pl] by unfold shV; rw [hu1]] at es
    refine ⟨_, rfl, sa, C, dx, _, _, rfl, es, T.cl, T.no _ (by decide +kernel), zip_get (i := 9) shn_nodup rfl rfl, _, rfl, (by omega), (by omega), fun D hD => ?_⟩
    have hn : ((b.pl.toNat : Nat) : Int) = b.pl := by omega
    refine dc_it (walk_range (lo := 0) (n := b.pl.toNat)) (fun i H' => Same H H' ∧ ∃ ts : List Tr, H' D = some (.dK (tk ts)) ∧ HW (tc ts) (i : Nat) ∧ (∀ p : Int, 0 ≤ p → p < ((i : Nat) : Int) → rowAt (tc ts) p = List.replicate 8 0) ∧ ∀ t ∈ ts, Dp K (Off [D] H') t.2.1 (rowD t.2.2)) ?_ (fun _ _ _ _ => trivial) ?_ ?_
    · refine ⟨same_upd hD, [], upd_same, ⟨.nil, fun p h0 h1 => by omega, Int.le_refl _⟩, fun p h0 h1 => by omega, fun t ht => by simp at ht⟩
    · rintro i x Hz H1 hi ⟨s1, ts, e1, hw, hz, hd⟩ ⟨rfl, rfl⟩
      refine ⟨rfl, tyes_go ?_⟩
      refine ⟨_, rfl, (by show 1 ≤ sizeLine; decide), fun u hu => ⟨u, _, _, rfl, rfl, SqT.of upd_same, by simp, (by show (2 : Int) ≤ 8; decide), (by show (8 : Int) ≤ 1000; decide), (by show 1 ≤ 1000; decide), fun p hp => ?_⟩⟩
      have nu : u ≠ D := fun z => by rw [z, e1] at hu; cases hu
      have np : p ≠ D := fun z => by rw [z, upd_ne nu.symm, e1] at hp; cases hp
      have s2 : Same H1 (upd (upd H1 u (.tup [.int 0])) p (.tup (List.replicate (8 : Int).toNat [V.int 0]).flatten)) := (same_upd hu).trans (same_upd hp)
      refine ⟨tk ts, Sum.inl (0 + (i : Int)), rfl, s2 _ _ e1, ?_, (fun b o e => ?_), putT ts (0 + (i : Int)) (.ref p) (List.replicate 8 0), ?_, ?_, fun p h0 h1 => (by
        rw [putT_tc, row_put]
        by_cases c : p = 0 + (i : Int)
        · rw [if_pos c]
        · rw [if_neg c]
          exact hz p h0 (by omega)), ?_⟩
      · have := hw.len
        have e0 : (tk ts).length = (tc ts).length := by unfold tk tc; rw [List.length_map, List.length_map]
        rw [e0]
        exact small1000 (by omega)
      · rw [upd_ne (ne_of_none e hD)]
        exact s2 _ _ (s1 _ _ e)
      · rw [upd_same, putT_tk]
      · rw [putT_tc, Int.zero_add]
        exact hw.more rfl
      · refine putT_all (fun t ht => ?_) ?_
        · have s3 : Same (Off [D] H1) (Off [D] (upd (upd (upd H1 u (.tup [.int 0])) p (.tup (List.replicate (8 : Int).toNat [V.int 0]).flatten)) D (.dK (putK (tk ts) (Sum.inl (0 + (i : Int))) (.ref p))))) := by
            rw [off_upd (by simp)]
            exact off_same s2
          exact dp_same s3 _ _ (hd t ht)
        · refine .tup (SqT.of (xs := (List.replicate 8 (0 : Int)).map V.int) ?_) (dps_ints _)
          rw [off_out (by simp [np]), upd_ne np, upd_same]
          rfl
    · rintro H1 ⟨s1, ts, e1, hw, hz, hd⟩
      rw [hn] at hw
      have es1 := s1 _ _ es
      refine ⟨_, rfl, sa, C, dx, _, _, rfl, es1, T.cl, T.no _ (by decide +kernel), zip_get (i := 3) shn_nodup rfl rfl, (by show 1 ≤ sizeLine; decide), fun u hu => ?_⟩
      have s2 := same_upd (o := .tup [.int b.b]) hu
      have es2 := s2 _ _ es1
      have nuD : u ≠ D := fun z => by rw [z, e1] at hu; cases hu
      refine ⟨_, rfl, sa, C, dx, _, _, rfl, es2, T.cl, T.no _ (by decide +kernel), zip_get (i := 4) shn_nodup rfl rfl, u, _, rfl, rfl, SqT.of upd_same, ?_⟩
      refine ⟨_, rfl, (by show 1 ≤ sizeLine; decide), fun u2 hu2 => ?_⟩
      have s3 := s2.trans (same_upd (o := .tup [.int 0]) hu2)
      have es3 := s3 _ _ es1
      refine ⟨_, rfl, sa, C, dx, _, _, rfl, es3, T.cl, T.no _ (by decide +kernel), zip_get (i := 4) shn_nodup rfl rfl, _, _, rfl, rfl, u2, _, _, rfl, rfl, SqT.of upd_same, by simp, (by show (2 : Int) ≤ 8 - 1; decide), (by show (8 - 1 : Int) ≤ 1000; decide), (by show 1 ≤ 1000; decide), fun p hp => ?_⟩
      have s4 := s3.trans (same_upd (o := .tup (List.replicate ((8 : Int) - 1).toNat [V.int 0]).flatten) hp)
      have eu : upd (upd (upd H1 u (.tup [.int b.b])) u2 (.tup [.int 0])) p (.tup (List.replicate ((8 : Int) - 1).toNat [V.int 0]).flatten) u = some (.tup [.int b.b]) := by
        have n1 : u2 ≠ u := fun z => by rw [z, upd_same] at hu2; cases hu2
        have n2 : p ≠ u := fun z => by rw [z, upd_ne n1.symm, upd_same] at hp; cases hp
        rw [upd_ne n2.symm, upd_ne n1.symm, upd_same]
      refine ⟨u, p, _, _, rfl, rfl, SqT.of eu, SqT.of upd_same, by simp, (by show 8 ≤ sizeLine; decide), (fun z => by cases z), fun _ r hrn => ?_⟩
      have s5 := s4.trans (same_upd (o := .tup ([V.int b.b] ++ (List.replicate ((8 : Int) - 1).toNat [V.int 0]).flatten)) hrn)
      have es5 := s5 _ _ es1
      have e5 := s5 _ _ e1
      have hlen : (tk ts).length < sizeLine := by
        have := hw.len
        have e0 : (tk ts).length = (tc ts).length := by unfold tk tc; rw [List.length_map, List.length_map]
        rw [e0]
        exact small1000 (by omega)
      have nrD : r ≠ D := fun z => by rw [z, s4 _ _ e1] at hrn; cases hrn
      refine ⟨_, rfl, _, rfl, sa, C, dx, _, _, rfl, es5, T.cl, T.no _ (by decide +kernel), zip_get (i := 6) shn_nodup rfl rfl, D, _, rfl, DPut.k (k := Sum.inl b.fu) e5 hlen, ?_⟩
      refine ⟨_, rfl, k _ D (tc (putT ts b.fu (.ref r) (b.b :: List.replicate 7 0))) (fun q o e => ?_) hD ⟨⟨putT ts b.fu (.ref r) (b.b :: List.replicate 7 0), by rw [upd_same, putT_tk], rfl, ?_⟩, ?_⟩ fun p h0 h1 h2 => (by
        rw [putT_tc, row_put, if_neg h2]
        exact hz p h0 (by omega))⟩
      · rw [upd_ne (ne_of_none e hD)]
        exact s5 _ _ (s1 _ _ e)
      · have fD : Fr [D] (upd (upd (upd (upd H1 u (.tup [.int b.b])) u2 (.tup [.int 0])) p (.tup (List.replicate ((8 : Int) - 1).toNat [V.int 0]).flatten)) r (.tup ([V.int b.b] ++ (List.replicate ((8 : Int) - 1).toNat [V.int 0]).flatten))) (upd (upd (upd (upd (upd H1 u (.tup [.int b.b])) u2 (.tup [.int 0])) p (.tup (List.replicate ((8 : Int) - 1).toNat [V.int 0]).flatten)) r (.tup ([V.int b.b] ++ (List.replicate ((8 : Int) - 1).toNat [V.int 0]).flatten))) D (.dK (putK (tk ts) (Sum.inl b.fu) (.ref r)))) :=
          .put (by simp) (fun u z => by rw [e5] at z; cases z; rfl)
        refine putT_all (fun t ht => ?_) ?_
        · exact dp_same fD.tp _ _ (row_tp (dp_same (off_le.trans s5) _ _ (hd t ht)))
        · refine dp_same fD.tp _ _ (row_tp (.tup (SqT.of (xs := (b.b :: List.replicate 7 0).map V.int) ?_) (dps_ints _)))
          rw [upd_same]
          rfl
      · rw [putT_tc]
        exact hw.put rfl (by omega) (by omega)
end
end Pf

set_option Elab.async false
set_option linter.all false
set_option maxRecDepth 100000
set_option maxHeartbeats 4000000
/-! dict(l), l a list of pairs whose keys are unlike tuples of ints and texts -/
namespace L2
open PySem PySem.Spec PyProof.Rows PySem.W
theorem storedAll_new {K : Type} [DecidableEq K] : ∀ (ps xs : List (K × Addr × Value)), ((xs ++ ps).map (·.1)).Nodup → storedAllH xs ps = xs ++ ps
  | [], xs, _ => by rw [List.append_nil]; rfl
  | p :: ps, xs, h => by
    have hno : atKey xs p.1 = none := by
      cases e : atKey xs p.1 with
      | none => rfl
      | some q =>
        have hm : p.1 ∈ xs.map (·.1) := by
          clear h
          unfold atKey at e
          cases e2 : xs.find? fun x => decide (x.1 = p.1) with
          | none =>
            first
              | rw [e2] at e; cases e
              | (simp_all)
          | some x => exact List.mem_map.mpr ⟨x, List.mem_of_find?_eq_some e2, by simpa using List.find?_some e2⟩
        rw [List.map_append, List.nodup_append] at h
        exact absurd rfl (h.2.2 _ hm _ (by simp))
    have e : storedAllH xs (p :: ps) = storedAllH (storedH xs p.1 p.2.1 p.2.2) ps := rfl
    rw [e, storedH_new hno, storedAll_new ps (xs ++ [(p.1, p.2.1, p.2.2)]) (by simpa using h), List.append_assoc]
    rfl
section
variable {X : Cx}
theorem trip_of {pins : List (Addr × Obj)} {σ : St} {H : Hp} {s : Shared} (I : Inv X pins σ H s) : ∀ {tr : List (Addr × Addr × List Key × V)}, (∀ t ∈ tr, H t.1 = some (.tup [.ref t.2.1, t.2.2.2]) ∧ H t.2.1 = some (.tup (t.2.2.1.map kV))) →
    ∃ us : List Value, us.length = tr.length ∧ ∀ (j : Nat) (t : Addr × Addr × List Key × V), tr[j]? = some t → ∃ u, us[j]? = some u ∧ RelV t.2.2.2 u ∧ IsTup s.heap t.1 #[.ref t.2.1, u]
  | [], _ => ⟨[], rfl, fun j t e => by simp at e⟩
  | t :: tr, h => by
    obtain ⟨us, hl, hp⟩ := trip_of I fun x m => h x (List.mem_cons_of_mem _ m)
    obtain ⟨its, rv, ht, _⟩ := I.tuple (SqT.of (h t List.mem_cons_self).1)
    obtain ⟨u, y, ei, ru, ry⟩ := vals2 rv
    subst ei
    cases ru
    refine ⟨y :: us, by rw [List.length_cons, List.length_cons, hl], fun j q e => ?_⟩
    cases j with
    | zero =>
      cases e
      exact ⟨y, rfl, ry, ht⟩
    | succ j =>
      obtain ⟨u', e1, e2, e3⟩ := hp j q (by simpa using e)
      exact ⟨u', by simpa using e1, e2, e3⟩
theorem call_dictPT (hcalm : X.calm = true) (hu : X.A.units + 64 < cLine) : CallR X (.type "dict") (fun xs H Q => ∃ (a : Addr) (tr : List (Addr × Addr × List Key × V)), xs = [.ref a] ∧ SqL X.K H a (tr.map fun t => V.ref t.1) ∧ (∀ t ∈ tr, H t.1 = some (.tup [.ref t.2.1, t.2.2.2]) ∧ H t.2.1 = some (.tup (t.2.2.1.map kV))) ∧
    (tr.map fun t => t.2.2.1).Nodup ∧ ∀ p, H p = none → Q (.ref p) (upd H p (.dT (tr.map fun t => (t.2.2.1, t.2.2.2))))) := by
  intro pins s σ H xs us Q I r q
  obtain ⟨a, tr, ex, hq, hp, hnd, q⟩ := q
  subst ex
  obtain ⟨u, eu, rx⟩ := vals1 r
  subst eu
  cases rx
  obtain ⟨its, rv, pl, hz⟩ := I.list hq
  have ei : its = (tr.map (·.1)).map Value.ref := refs_at (by rw [List.map_map]; exact rv)
  subst ei
  rw [List.length_map] at hz
  obtain ⟨us, hul, hus⟩ := trip_of I hp
  obtain ⟨o, n, ho, hc, hd, hdat⟩ := pl
  let ps : List (List Key × Addr × Value) := (tr.zip us).map fun z => (z.1.2.2.1, z.1.2.1, z.2)
  let qs : List (Value × Value) := (tr.zip us).map fun z => (Value.ref z.1.2.1, z.2)
  have hpl : ps.length = tr.length := by show ((tr.zip us).map _).length = _; rw [List.length_map, List.length_zip]; omega
  have hql : qs.length = tr.length := by show ((tr.zip us).map _).length = _; rw [List.length_map, List.length_zip]; omega
  have at_q : ∀ (j : Nat) (k v : Value), qs[j]? = some (k, v) → ∃ t : Addr × Addr × List Key × V, tr[j]? = some t ∧ k = Value.ref t.2.1 ∧ ps[j]? = some (t.2.2.1, t.2.1, v) ∧ IsTup s.heap t.1 #[.ref t.2.1, v] := fun j k v e => by
    have e0 : ((tr.zip us).map fun z => (Value.ref z.1.2.1, z.2))[j]? = some (k, v) := e
    rw [List.getElem?_map] at e0
    cases hz' : (tr.zip us)[j]? with
    | none => rw [hz'] at e0; cases e0
    | some z =>
      rw [hz'] at e0
      cases e0
      obtain ⟨h1, h2⟩ := List.getElem?_zip_eq_some.mp hz'
      obtain ⟨u, e1, _, e3⟩ := hus j z.1 h1
      rw [h2] at e1
      cases e1
      refine ⟨z.1, h1, rfl, ?_, e3⟩
      show ((tr.zip us).map fun z => (z.1.2.2.1, z.1.2.1, z.2))[j]? = _
      rw [List.getElem?_map, hz']
      rfl
  have hkeys : ps.map (·.1) = tr.map fun t => t.2.2.1 := by
    show ((tr.zip us).map fun z => (z.1.2.2.1, z.1.2.1, z.2)).map (·.1) = _
    rw [List.map_map]
    have : (tr.zip us).map (fun z => z.1.2.2.1) = ((tr.zip us).map Prod.fst).map fun t => t.2.2.1 := by rw [List.map_map]; rfl
    exact this.trans (by rw [List.map_fst_zip (by omega)])
  have hsa : storedAllH [] ps = ps := (storedAll_new ps [] (by rw [List.nil_append, hkeys]; exact hnd)).trans (List.nil_append _)
  have his : ∀ h' : Heap, (∀ b o, b ≠ s.heap.objs.size → b ∉ ([] : List Addr) → s.heap.get? b = some o → h'.get? b = some o) → ∀ x ∈ ps, (tupleKind (mixKind X.prog X.w)).is h' x.1 x.2.1 := fun h' hk x hx => by
    obtain ⟨z, hz', rfl⟩ := List.mem_map.mp (show x ∈ (tr.zip us).map _ from hx)
    have hm := (List.of_mem_zip (a := z.1) (b := z.2) hz').1
    have k0 := key_of (P := X.prog) (w := X.w) I.hok (hp z.1 hm).2
    exact tupleKind_stays.stays (fun b o vs n e _ => hk b o (Nat.ne_of_lt (Heap.lt_size e)) (by simp) e) k0
  refine PySem.call_dict_pairsH (K := List Key) (knd := tupleKind (mixKind X.prog X.w)) (ps := ps) (PairArg.list a (((tr.map (·.1)).map Value.ref).toArray) (fun j => (tr.map (·.1)).getD j 0) qs) (I.ok.hd hcalm) ?_ ⟨⟨o, n, ho, hc, hd, hdat⟩, ⟨by simp [hql], fun j k v e => ?_⟩⟩ ⟨by rw [hpl, hql], fun i key v e => ?_⟩ his (by rw [hql]; exact hz) fun h' tk hd' k => ?_
  · show (X.A.in1.in1).units < cLine
    show X.A.units + 1 + 1 < cLine
    omega
  · obtain ⟨t, e1, rfl, _, e3⟩ := at_q j k v e
    have hgd : (tr.map (·.1)).getD j 0 = t.1 := by rw [List.getD_eq_getElem?_getD, List.getElem?_map, e1]; rfl
    refine ⟨?_, .inl (by show s.heap.IsTuple ((tr.map (·.1)).getD j 0) _; rw [hgd]; exact e3)⟩
    show ((tr.map (·.1)).map Value.ref).toArray[j]? = some (Value.ref ((tr.map (·.1)).getD j 0))
    rw [hgd]
    simp [e1]
  · obtain ⟨t, e1, rfl, e2, _⟩ := at_q i key v e
    exact ⟨_, _, e2, rfl⟩
  · rw [hsa] at hd'
    have hm : (s.heap.objs.size == sysModules) = false := beq_eq_false_iff_ne.mpr (Nat.ne_of_gt I.big)
    obtain ⟨q0, es, ep, hq0, h2, h3, h4, _, h5⟩ := hd'
    have hfree := I.hok.fresh (Nat.le_refl s.heap.objs.size)
    refine ⟨.ref s.heap.objs.size, upd H s.heap.objs.size (.dT (tr.map fun t => (t.2.2.1, t.2.2.2))), I.laid (t' := tk) (fun b o e => k b o (fun h => nomatch h) e) (Nat.le_refl _) ?_, rfl, q _ hfree⟩
    refine ⟨by rw [List.length_map]; exact hz, hm, ps, ?_, q0, es, ep, hq0, h2, h3, h4, h5⟩
    have : ∀ (l : List (Addr × Addr × List Key × V)) (vs : List Value), l.length = vs.length → (∀ t ∈ l, H t.2.1 = some (.tup (t.2.2.1.map kV))) → (∀ (j : Nat) t, l[j]? = some t → ∃ u, vs[j]? = some u ∧ RelV t.2.2.2 u) →
        Paired (fun (p : List Key × V) (q : List Key × Addr × Value) => p.1 = q.1 ∧ upd H s.heap.objs.size (.dT (tr.map fun t => (t.2.2.1, t.2.2.2))) q.2.1 = some (.tup (p.1.map kV)) ∧ RelV p.2 q.2.2) (l.map fun t => (t.2.2.1, t.2.2.2)) ((l.zip vs).map fun z => (z.1.2.2.1, z.1.2.1, z.2)) := by
      intro l
      induction l with
      | nil => intro vs _ _ _; exact .nil
      | cons t l ih =>
        intro vs hlen hk hr
        cases vs with
        | nil => cases hlen
        | cons v vs =>
          obtain ⟨u, e1, e2⟩ := hr 0 t rfl
          cases e1
          refine .cons ⟨rfl, ?_, e2⟩ (ih vs (by simpa using hlen) (fun x m => hk x (List.mem_cons_of_mem _ m)) fun j x e => hr (j + 1) x (by simpa using e))
          have ek := hk t List.mem_cons_self
          show upd H _ _ t.2.1 = _
          rw [upd_ne (fun z => by rw [z, hfree] at ek; cases ek)]
          exact ek
    exact this tr us hul.symm (fun t m => (hp t m).2) fun j t e => let ⟨u, a, b, _⟩ := hus j t e; ⟨u, a, b⟩
end
end L2

set_option Elab.async false
set_option linter.all false
set_option maxRecDepth 100000
set_option maxHeartbeats 4000000
namespace Pf
open PySem PySem.Spec PyProof.Rows L2
theorem but_trans {cs : List Addr} {H H1 H2 : Hp} (s : But cs H H1) (g : But cs H1 H2) : But cs H H2 := fun b o e => by
  have hb : b ∉ cs := fun y => by rw [off_in y] at e; cases e
  rw [off_out hb] at e
  exact g.at (s.at e hb) hb
theorem but_same {cs : List Addr} {H H1 H2 : Hp} (s : But cs H H1) (g : Same H1 H2) : But cs H H2 := but_trans s (.of g)
theorem same_but {cs : List Addr} {H H1 H2 : Hp} (s : Same H H1) (g : But cs H1 H2) : But cs H H2 := but_trans (.of s) g
theorem scLsh : FnScope ["draw"] ["draw"] (defScope sLsh) := ⟨rfl, rfl, rfl, by decide +kernel, rfl, by decide +kernel, by decide +kernel⟩
theorem scLce : FnScope ["shape", "unit"] ["shape", "unit"] (defScope sLce) := ⟨rfl, rfl, rfl, by decide +kernel, rfl, by decide +kernel, by decide +kernel⟩
theorem scLwi : FnScope ["home", "cell", "number", "row", "found"] ["home", "cell", "number"] (defScope sLwi) := ⟨rfl, rfl, rfl, by decide +kernel, rfl, by decide +kernel, by decide +kernel⟩
theorem scLpla : FnScope ["shape", "home", "unit", "cell", "number"] ["shape", "home", "unit"] (defScope sLpla) := ⟨rfl, rfl, rfl, by decide +kernel, rfl, by decide +kernel, by decide +kernel⟩
theorem scLno : FnScope ["shape", "unit", "up", "name", "file"] ["shape", "unit", "up", "name", "file"] (defScope sLno) := ⟨rfl, rfl, rfl, by decide +kernel, rfl, by decide +kernel, by decide +kernel⟩
def cellP (b : Sh) (u : Un) : Int := (if u.1 = true then 1 else b.fr) + u.2 / 8
def InU (b : Sh) (u : Un) : Prop := (u.1 = true ∧ 2 ≤ u.2 ∧ u.2 < b.d) ∨ (u.1 = false ∧ 0 ≤ u.2 ∧ u.2 < b.r)
theorem in_units {b : Sh} {u : Un} (h : u ∈ unitsL b) : InU b u := by
  unfold unitsL dUn rUn at h
  have := b.hd
  have := b.hr
  rcases List.mem_append.mp h with m | m
  · obtain ⟨i, hi, rfl⟩ := List.mem_map.mp m
    have := List.mem_range.mp hi
    exact .inl ⟨rfl, by show 2 ≤ 2 + ((i : Nat) : Int); omega, by show 2 + ((i : Nat) : Int) < b.d; omega⟩
  · obtain ⟨i, hi, rfl⟩ := List.mem_map.mp m
    have := List.mem_range.mp hi
    exact .inr ⟨rfl, by show 0 ≤ ((i : Nat) : Int); omega, by show ((i : Nat) : Int) < b.r; omega⟩
theorem cellP_in {b : Sh} {u : Un} (h : InU b u) : 0 ≤ cellP b u ∧ cellP b u < b.pl ∧ 0 ≤ u.2 % 8 ∧ u.2 % 8 < 8 := by
  have h1 := b.hd
  have h2 := b.hr
  have h3 := b.bd
  obtain ⟨k, n⟩ := u
  unfold cellP
  rcases h with ⟨hk, g1, g2⟩ | ⟨hk, g1, g2⟩
  · have hk' : k = true := hk
    have g1' : 2 ≤ n := g1
    have g2' : n < b.d := g2
    subst hk'
    have : 1 + n / 8 ≤ b.fr := by unfold Sh.fr; omega
    refine ⟨?_, ?_, ?_, ?_⟩
    · show 0 ≤ 1 + n / 8; omega
    · show 1 + n / 8 < b.pl; omega
    · show 0 ≤ n % 8; omega
    · show n % 8 < 8; omega
  · have hk' : k = false := hk
    have g1' : 0 ≤ n := g1
    have g2' : n < b.r := g2
    subst hk'
    have : b.fr + n / 8 ≤ b.fu := by unfold Sh.fu; omega
    refine ⟨?_, ?_, ?_, ?_⟩
    · show 0 ≤ b.fr + n / 8; omega
    · show b.fr + n / 8 < b.pl; omega
    · show 0 ≤ n % 8; omega
    · show n % 8 < 8; omega
section
variable {P : Program} {w : World} {K : PySem.W.Frag} {mg : Str → Option Value} {base : Heap} {C : Addr}
def ShS (b : Sh) : Prop := 3 ≤ b.d ∧ b.d ≤ 6 ∧ b.r ≤ 3 ∧ b.f ≤ 5 ∧ b.u = 1
def spLsh (K : PySem.W.Frag) (C : Addr) : Sp := fun vs H Q _ => ∃ (a sc : Addr) (ns : List Int), vs = [.ref a] ∧ DrawAt K H a sc ns ∧ ∀ sa b H', ShAt C H' sa b → ShS b → But [a] H H' → DrawAt K H' a sc ns → sa ≠ a → Q (.ref sa) H'
theorem ok_lsh {f fS fP : Addr} {fd dS dP : FuncData} (F : Fun K "_law_shape" "_law_shape" sLsh f fd)
    (MS : Mk K C fS) (GS : FnOk P w K mg base CX0 2 fS dS ["self", "dirs", "rows", "files", "blocks", "users"] (spShI C)) (gS : mg "Shape" = some (.ref C)) (bS : Binds K dS ["self", "dirs", "rows", "files", "blocks", "users"] [])
    (DP : Df P w K mg base CX0 3 "_law_pick" ["draw", "items"] (spPick K) fP dP) : FnOk P w K mg base CX0 4 f fd ["draw"] (spLsh K C) := by
  refine F.ok scLsh (fun vs H Q E h => ?_) (fun cdv A outer s H vs Q E hr h => ?_)
  · obtain ⟨a, sc, ns, rfl, _⟩ := h
    rfl
  · obtain ⟨a, sc, ns, rfl, D, k⟩ := h
    refine ⟨_, pss_one (ps_ret (pe_make MS GS hr rfl gS bS .nil pass0
      (pa_cons (pe_call DP.G hr rfl DP.g DP.kp DP.b .nil pass0 (pa_cons (pv 0) (pa_cons (pe_lst (pa_cons pe_int (pa_cons pe_int (pa_cons pe_int (pa_cons pe_int pa_nil))))) pa_nil)))
      (pa_cons (pe_call DP.G hr rfl DP.g DP.kp DP.b .nil pass0 (pa_cons (pv 0) (pa_cons (pe_lst (pa_cons pe_int (pa_cons pe_int (pa_cons pe_int pa_nil)))) pa_nil)))
      (pa_cons (pe_call DP.G hr rfl DP.g DP.kp DP.b .nil pass0 (pa_cons (pv 0) (pa_cons (pe_lst (pa_cons pe_int (pa_cons pe_int (pa_cons pe_int pa_nil)))) pa_nil)))
      (pa_cons pe_int (pa_cons pe_int pa_nil))))))), ?_⟩
    refine ⟨_, rfl, (by show 4 ≤ sizeLine; decide), fun l1 hl1 => ?_⟩
    have t1 := same_upd (o := .lst [.int 3, .int 4, .int 5, .int 6]) hl1
    refine ⟨a, l1, sc, ns, _, rfl, D.same t1, upd_same, (fun z => by obtain ⟨i, e⟩ := D.1; rw [z, e] at hl1; cases hl1), by simp, fun v1 H1 m1 z1 D1 => ?_⟩
    refine ⟨_, rfl, (by show 3 ≤ sizeLine; decide), fun l2 hl2 => ?_⟩
    have t2 := same_upd (o := .lst [.int 1, .int 2, .int 3]) hl2
    refine ⟨a, l2, sc, ns, _, rfl, D1.same t2, upd_same, (fun z => by obtain ⟨i, e⟩ := D1.1; rw [z, e] at hl2; cases hl2), by simp, fun v2 H2 m2 z2 D2 => ?_⟩
    refine ⟨_, rfl, (by show 3 ≤ sizeLine; decide), fun l3 hl3 => ?_⟩
    have t3 := same_upd (o := .lst [.int 1, .int 2, .int 5]) hl3
    refine ⟨a, l3, sc, ns, _, rfl, D2.same t3, upd_same, (fun z => by obtain ⟨i, e⟩ := D2.1; rw [z, e] at hl3; cases hl3), by simp, fun v3 H3 m3 z3 D3 => ?_⟩
    have bt : But [a] H H3 := but_trans (but_trans (same_but t1 z1) (same_but t2 z2)) (same_but t3 z3)
    obtain ⟨n1, rfl, q1, q2⟩ : ∃ n : Int, v1 = .int n ∧ 3 ≤ n ∧ n ≤ 6 := by
      simp only [List.mem_cons, List.not_mem_nil, or_false] at m1
      rcases m1 with rfl | rfl | rfl | rfl <;> exact ⟨_, rfl, by decide, by decide⟩
    obtain ⟨n2, rfl, q3, q4⟩ : ∃ n : Int, v2 = .int n ∧ 1 ≤ n ∧ n ≤ 3 := by
      simp only [List.mem_cons, List.not_mem_nil, or_false] at m2
      rcases m2 with rfl | rfl | rfl <;> exact ⟨_, rfl, by decide, by decide⟩
    obtain ⟨n3, rfl, q5, q6⟩ : ∃ n : Int, v3 = .int n ∧ 1 ≤ n ∧ n ≤ 5 := by
      simp only [List.mem_cons, List.not_mem_nil, or_false] at m3
      rcases m3 with rfl | rfl | rfl <;> exact ⟨_, rfl, by decide, by decide⟩
    intro sa dx hsa hdx hne
    have sS : Same H3 (upd (upd H3 dx (.own sa)) sa (.ins C dx [])) := fun b o z => by
      rw [upd_ne (ne_of_none z hsa), upd_ne (ne_of_none z hdx)]
      exact z
    refine ⟨sa, dx, ⟨n1, n2, n3, 2, 1, by omega, by omega, by omega, by omega, by omega⟩, rfl, upd_same, fun H6 f6 S6 => ?_⟩
    have s6 : Same H3 H6 := fun b' o z => f6.at (sS _ _ z) (by simp [ne_of_none z hsa])
    exact ⟨rfl, k sa _ H6 S6 ⟨q1, q2, q4, q6, rfl⟩ (but_same bt s6) (D3.same s6) (fun z => by obtain ⟨i, e⟩ := D3.1; rw [z, e] at hsa; cases hsa)⟩
end
end Pf

set_option Elab.async false
set_option linter.all false
set_option maxRecDepth 100000
set_option maxHeartbeats 4000000
namespace Pf
open PySem PySem.Spec PyProof.Rows L2
section
variable {P : Program} {w : World} {K : PySem.W.Frag} {mg : Str → Option Value} {base : Heap} {C : Addr}
theorem str_dir (u : Un) : (V.str (uS u) = V.str "dir") = (u.1 = true) := by
  obtain ⟨k, n⟩ := u
  cases k
  · exact propext ⟨fun h => absurd (show ("row" : Str) = "dir" from V.str.inj h) (by decide +kernel), fun h => by cases h⟩
  · exact propext ⟨fun _ => rfl, fun _ => rfl⟩
theorem str_row (u : Un) : (V.str (uS u) = V.str "row") = (u.1 = false) := by
  obtain ⟨k, n⟩ := u
  cases k
  · exact propext ⟨fun _ => rfl, fun _ => rfl⟩
  · exact propext ⟨fun h => absurd (show ("dir" : Str) = "row" from V.str.inj h) (by decide +kernel), fun h => by cases h⟩
def spLce (C : Addr) : Sp := fun vs H Q _ => ∃ (sa t : Addr) (b : Sh) (u : Un), vs = [.ref sa, .ref t] ∧ ShAt C H sa b ∧ H t = some (.tup (uV u)) ∧ ∀ p H', Same H H' → H' p = some (.tup [.int (cellP b u), .int (u.2 % 8)]) → Q (.ref p) H'
theorem ok_lce {f fD fR : Addr} {fd dD dR : FuncData} (F : Fun K "_law_cell" "_law_cell" sLce f fd) (T : ShTxt K C) (MD : Me P w K mg base 1 C "dir_cell" ["self", "number"] (spCellN C fun _ => 1) fD dD) (MR : Me P w K mg base 1 C "row_cell" ["self", "number"] (spCellN C Sh.fr) fR dR) : FnOk P w K mg base CX0 2 f fd ["shape", "unit"] (spLce C) := by
  refine F.ok scLce (fun vs H Q E h => ?_) (fun cdv A outer s H vs Q E hr h => ?_)
  · obtain ⟨sa, t, b, u, rfl, _⟩ := h
    rfl
  · obtain ⟨sa, t, b, u, rfl, S, et, k⟩ := h
    refine ⟨_, pss_one (ps_ret (pe_ifExp (pt_cmpR op_eq (pe_ix ix_tup (pv 1) pe_int (fun _ _ => rfl)) pe_str (nomark _)) (pe_meth (pv 0) T.cl MD.m MD.G hr MD.b .nil pass0 (pa_cons (pe_ix ix_tup (pv 1) pe_int (fun _ _ => rfl)) pa_nil))
      (pe_meth (pv 0) T.cl MR.m MR.G hr MR.b .nil pass0 (pa_cons (pe_ix ix_tup (pv 1) pe_int (fun _ _ => rfl)) pa_nil)))), ?_⟩
    obtain ⟨dx, es⟩ := id S
    refine ⟨_, rfl, t, _, 0, _, rfl, rfl, SqT.of et, atI_nat (j := 0) rfl, rfl, _, rfl, ite2 (fun c => ?_) (fun c => ?_)⟩
    · have c' : u.1 = true := by rw [← str_dir]; exact of_decide_eq_true c
      refine ⟨_, rfl, sa, dx, _, rfl, es, zip_no (by decide +kernel), _, rfl, t, _, 1, _, rfl, rfl, SqT.of et, atI_nat (j := 1) rfl, sa, b, u.2, rfl, S, fun q hq => ?_⟩
      refine k q _ (same_upd hq) ?_
      rw [upd_same]
      unfold cellP
      rw [if_pos c']
    · have c' : ¬ u.1 = true := by rw [← str_dir]; exact fun z => c (decide_eq_true z)
      refine ⟨_, rfl, sa, dx, _, rfl, es, zip_no (by decide +kernel), _, rfl, t, _, 1, _, rfl, rfl, SqT.of et, atI_nat (j := 1) rfl, sa, b, u.2, rfl, S, fun q hq => ?_⟩
      refine k q _ (same_upd hq) ?_
      rw [upd_same]
      unfold cellP
      rw [if_neg c']
def spLno : Sp := fun vs H Q _ => ∃ (sa t : Addr) (C : Addr) (b : Sh) (u : Un) (up nm fl : Int), vs = [.ref sa, .ref t, .int up, .int nm, .int fl] ∧ ShAt C H sa b ∧ H t = some (.tup (uV u)) ∧ ∀ r, Q (.int r) H
def spLwi (K : PySem.W.Frag) : Sp := fun vs H Q _ => ∃ (h c : Addr) (p s v n : Int) (cs : List Ch), vs = [.ref h, .ref c, .int v] ∧ HoAt K H h cs n ∧ n ≤ 999 ∧ H c = some (.tup [.int p, .int s]) ∧ 0 ≤ p ∧ p < n ∧ 0 ≤ s ∧ s < 8 ∧ ∀ h' H', Same H H' → H h' = none → HoAt K H' h' (putC cs p ((rowAt cs p).set s.toNat v)) n → Q (.ref h') H'
theorem ok_lwi {f : Addr} {fd : FuncData} (F : Fun K "_law_with" "_law_with" sLwi f fd) (ml : mg "list" = none) (md : mg "dict" = none) (mt : mg "tuple" = none) : FnOk P w K mg base CX0 1 f fd ["home", "cell", "number"] (spLwi K) := by
  refine F.ok scLwi (fun vs H Q E h => ?_) (fun cdv A outer s H vs Q E hr h => ?_)
  · obtain ⟨h, c, p, s, v, n, cs, rfl, _⟩ := h
    rfl
  · obtain ⟨h, c, p, s, v, n, cs, rfl, Ho, hn, ec, p0, p1, s0, s1, k⟩ := h
    have nd := scLwi.nd
    have hu := hu_of hr
    refine ⟨_, pss_cons (ps_set (i := 3) nd rfl (.inl rfl) (pe_callTy call_list_of (by rfl) ml boot_list (pa_cons (pe_dget hu (pv 0) (pe_ix ix_tup (pv 1) pe_int (fun _ _ => rfl)) (fun _ _ => rfl)) pa_nil)))
      (pss_cons (ps_asg (pv 2) (pg_sub (pv 3) (pe_ix ix_tup (pv 1) pe_int (fun _ _ => rfl)) set_list))
      (pss_cons (ps_set (i := 4) nd rfl (.inl rfl) (pe_callTy call_dictD (by rfl) md (by decide +kernel) (pa_cons (pv 0) pa_nil)))
      (pss_cons (ps_dput hu (pv 4) (pe_ix ix_tup (pv 1) pe_int (fun _ _ => rfl)) (pe_callTy call_tuple_of (by rfl) mt boot_tuple (pa_cons (pv 3) pa_nil)) rfl)
      (pss_one (ps_ret (pv 4)))))), ?_⟩
    obtain ⟨kvs, ra, e1, e2, e3, e4⟩ := Ho.get p0 p1
    obtain ⟨⟨ts, f1, f2, f3⟩, hw⟩ := id Ho
    have hix : ixN ((rowAt cs p).map V.int).length s = some s.toNat := by
      rw [List.length_map, e4]
      have := ixN_nn (n := 8) (j := s.toNat) (by omega)
      rw [show ((s.toNat : Nat) : Int) = s by omega] at this
      exact this
    refine ⟨_, rfl, _, rfl, c, _, 0, _, rfl, rfl, SqT.of ec, atI_nat (j := 0) rfl, h, .ref ra, rfl, (by rw [← e2]; exact DGet.k (k := Sum.inl p) e1), ra, _, rfl, .inr e3, fun l hl => ?_⟩
    have t1 := same_upd (o := .lst ((rowAt cs p).map V.int)) hl
    have ec1 := t1 _ _ ec
    refine ⟨_, rfl, _, rfl, _, rfl, c, _, 1, _, rfl, rfl, SqT.of ec1, atI_nat (j := 1) rfl, l, _, s, s.toNat, rfl, rfl, upd_same, hix, ?_⟩
    have el2 : upd (upd H l (.lst ((rowAt cs p).map V.int))) l (.lst (((rowAt cs p).map V.int).set s.toNat (.int v))) l = some (.lst (((rowAt cs p).set s.toNat v).map V.int)) := by rw [upd_same, List.map_set]
    have t2 : Same H (upd (upd H l (.lst ((rowAt cs p).map V.int))) l (.lst (((rowAt cs p).map V.int).set s.toNat (.int v)))) := fun b o e => by rw [upd_ne (ne_of_none e hl), upd_ne (ne_of_none e hl)]; exact e
    generalize upd (upd H l (.lst ((rowAt cs p).map V.int))) l (.lst (((rowAt cs p).map V.int).set s.toNat (.int v))) = H2 at el2 t2 ⊢
    refine ⟨_, rfl, h, tk ts, rfl, .inl (t2 _ _ f1), fun D hD => ?_⟩
    have t3 := same_upd (o := .dK (tk ts)) hD
    have eD : upd H2 D (.dK (tk ts)) D = some (.dK (tk ts)) := upd_same
    have el3 := t3 _ _ el2
    have t23 := t2.trans t3
    have hD0 : H D = none := t2.free hD
    have HD : HoAt K (upd H2 D (.dK (tk ts))) D cs n := ⟨⟨ts, eD, f2, fun t ht => dp_same (tp_same t23) _ _ (f3 t ht)⟩, hw⟩
    generalize upd H2 D (.dK (tk ts)) = H3 at t3 eD el3 t23 HD ⊢
    refine ⟨_, rfl, l, _, rfl, .inl ⟨SqL.of el3, fun t ht => ?_⟩⟩
    have t4 := same_upd (o := .tup (((rowAt cs p).set s.toNat v).map V.int)) ht
    have HD4 := HD.same t4
    have t24 := t23.trans t4
    have et4 : upd H3 t (.tup (((rowAt cs p).set s.toNat v).map V.int)) t = some (.tup (((rowAt cs p).set s.toNat v).map V.int)) := upd_same
    generalize upd H3 t (.tup (((rowAt cs p).set s.toNat v).map V.int)) = H4 at t4 HD4 t24 et4 ⊢
    obtain ⟨H5, dp, HD5, f5, o5, e5⟩ := HD4.put p0 p1 hn (SqT.of et4) (by rw [List.length_set]; exact e4)
    refine ⟨_, rfl, _, rfl, c, _, 0, _, rfl, rfl, SqT.of (t24 _ _ ec), atI_nat (j := 0) rfl, D, H5, rfl, dp, _, rfl, k D H5 (fun b o e => ?_) hD0 HD5⟩
    rw [e5, upd_ne (ne_of_none e hD0)]
    exact t24 _ _ e
end
end Pf

set_option Elab.async false
set_option linter.all false
set_option maxRecDepth 100000
set_option maxHeartbeats 4000000
namespace Pf
open PySem PySem.Spec PyProof.Rows L2
theorem place_eq {cs : List Ch} {b : Sh} {u : Un} (h : InU b u) : placeN cs b u = if cellN cs (cellP b u) (u.2 % 8).toNat - 1 < 0 then none else
    some ((if u.1 = true then cellN cs (cellP b u) (u.2 % 8).toNat - 1 else (cellN cs (cellP b u) (u.2 % 8).toNat - 1) / b.f) / 475254, (if u.1 = true then cellN cs (cellP b u) (u.2 % 8).toNat - 1 else (cellN cs (cellP b u) (u.2 % 8).toNat - 1) / b.f) % 475254) := by
  obtain ⟨k, n⟩ := u
  unfold placeN cellP
  rcases h with ⟨hk, g1, g2⟩ | ⟨hk, g1, g2⟩
  · have hk' : k = true := hk
    subst hk'
    have g1' : 2 ≤ n := g1
    have g2' : n < b.d := g2
    simp only [if_pos]
    unfold dirN
    rw [if_pos ⟨g1', g2'⟩]
    by_cases c : cellN cs (1 + n / 8) (n % 8).toNat < 1
    · rw [if_pos c, if_pos (by omega)]
    · rw [if_neg c, if_neg (by omega)]
  · have hk' : k = false := hk
    subst hk'
    have g1' : 0 ≤ n := g1
    have g2' : n < b.r := g2
    simp only [Bool.false_eq_true, if_false]
    unfold rowN
    rw [if_pos ⟨g1', g2'⟩]
    by_cases c : cellN cs (b.fr + n / 8) (n % 8).toNat < 1
    · rw [if_pos c, if_pos (by omega)]; rfl
    · rw [if_neg c, if_neg (by omega)]; rfl
section
variable {P : Program} {w : World} {K : PySem.W.Frag} {mg : Str → Option Value} {base : Heap} {C : Addr}
theorem ok_lno {f : Addr} {fd : FuncData} (F : Fun K "_law_number_of" "_law_number_of" sLno f fd) (T : ShTxt K C) {t2 : Tok} (mN : mg "NAMES" = some (.int 475254 t2)) : FnOk P w K mg base CX0 1 f fd ["shape", "unit", "up", "name", "file"] (fun vs H Q _ => ∃ (sa t : Addr) (b : Sh) (u : Un) (up nm fl : Int), vs = [.ref sa, .ref t, .int up, .int nm, .int fl] ∧ ShAt C H sa b ∧ H t = some (.tup (uV u)) ∧ ∀ r, Q (.int r) H) := by
  refine F.ok scLno (fun vs H Q E h => ?_) (fun cdv A outer s H vs Q E hr h => ?_)
  · obtain ⟨sa, t, b, u, up, nm, fl, rfl, _⟩ := h
    rfl
  · obtain ⟨sa, t, b, u, up, nm, fl, rfl, S, et, k⟩ := h
    refine ⟨_, pss_one (ps_ret (pe_ifExp (pt_cmpR op_eq (pe_ix ix_tup (pv 1) pe_int (fun _ _ => rfl)) pe_str (nomark _)) (pe_op op_add (pe_op op_add pe_int (pe_op op_mul (pv 2) (pe_glob (v := .int 475254) rfl mN ⟨_, rfl⟩))) (pv 3))
      (pe_op op_add (pe_op op_add pe_int (pe_op op_mul (pe_op op_add (pe_op op_mul (pv 2) (pe_glob (v := .int 475254) rfl mN ⟨_, rfl⟩)) (pv 3)) (pe_fld (pv 0) rfl))) (pv 4)))), ?_⟩
    obtain ⟨dx, es⟩ := id S
    have hf := b.hf
    refine ⟨_, rfl, t, _, 0, _, rfl, rfl, SqT.of et, atI_nat (j := 0) rfl, rfl, _, rfl, ite2 (fun c => ?_) (fun c => ?_)⟩
    · exact ⟨_, rfl, _, _, rfl, rfl, .inr ⟨by decide, by decide⟩, _, _, rfl, rfl, _, rfl, _, _, rfl, rfl, k _⟩
    · exact ⟨_, rfl, _, _, rfl, rfl, .inr ⟨by decide, by decide⟩, _, rfl, _, _, rfl, rfl, _, rfl, sa, C, dx, _, _, rfl, es, T.cl, T.no _ (by decide +kernel), zip_get (i := 2) shn_nodup rfl rfl, _, _, rfl, rfl, .inr ⟨by omega, by omega⟩, _, _, rfl, rfl, _, rfl, _, _, rfl, rfl, k _⟩
def spLpl (K : PySem.W.Frag) (C : Addr) : Sp := fun vs H Q _ => ∃ (sa h t : Addr) (b : Sh) (cs : List Ch) (u : Un), vs = [.ref sa, .ref h, .ref t] ∧ ShAt C H sa b ∧ HoAt K H h cs b.pl ∧ H t = some (.tup (uV u)) ∧ InU b u ∧ ∀ H' v, Same H H' → Dp [] (Tu H') v (plD (placeN cs b u)) → Q v H'
theorem ok_lpla {f fC : Addr} {fd dC : FuncData} (F : Fun K "_law_place" "_law_place" sLpla f fd) (T : ShTxt K C) (DC : Df P w K mg base CX0 2 "_law_cell" ["shape", "unit"] (spLce C) fC dC) {t2 : Tok} (mN : mg "NAMES" = some (.int 475254 t2)) (mi : mg "int" = none) : FnOk P w K mg base CX0 3 f fd ["shape", "home", "unit"] (spLpl K C) := by
  refine F.ok scLpla (fun vs H Q E h => ?_) (fun cdv A outer s H vs Q E hr h => ?_)
  · obtain ⟨sa, h, t, b, cs, u, rfl, _⟩ := h
    rfl
  · obtain ⟨sa, h, t, b, cs, u, rfl, S, Ho, et, hU, k⟩ := h
    have nd := scLpla.nd
    have hu := hu_of hr
    obtain ⟨q1, q2, q3, q4⟩ := cellP_in hU
    obtain ⟨tt, ht, hq⟩ : ∃ tt, PSs (cxOf CX0 P w K mg base ["shape", "home", "unit", "cell", "number"] "_law_place" (defScope sLpla) f cdv A outer s H E).nox ((defBody sLpla).drop 4) tt ∧ ∀ H2 y3 (m : Int), Same H H2 → placeN cs b u = some (m / 475254, m % 475254) →
        tt { nx := fun x H' => Q V.non H', rt := Q } [some (.ref sa), some (.ref h), some (.ref t), y3, some (.int m)] H2 := by
      refine ⟨_, pss_one (ps_ret (pe_tup (pa_cons (pe_op op_fdiv (pe_callTy call_int1 (by rfl) mi boot_int (pa_cons (pv 4) pa_nil)) (pe_glob (v := .int 475254) rfl mN ⟨_, rfl⟩)) (pa_cons (pe_op op_mod (pe_callTy call_int1 (by rfl) mi boot_int (pa_cons (pv 4) pa_nil)) (pe_glob (v := .int 475254) rfl mN ⟨_, rfl⟩)) pa_nil)))), ?_⟩
      intro H2 y3 m s2 hp
      refine ⟨_, rfl, .inl ⟨_, rfl, _, _, rfl, rfl, ⟨by decide, by decide⟩, _, rfl, .inl ⟨_, rfl, _, _, rfl, rfl, (by show (0 : Int) < 475254; decide), (by show 2 ≤ sizeLine; decide), fun q hq' => ?_⟩⟩⟩
      have s3 := same_upd (o := .tup [.int (m / 475254), .int (m % 475254)]) hq'
      refine k _ _ (s2.trans s3) ?_
      rw [hp]
      exact dpu_ofplace (x := (m / 475254, m % 475254)) upd_same
    refine ⟨_, pss_cons (ps_set (i := 3) nd rfl (.inl rfl) (pe_call DC.G hr rfl DC.g DC.kp DC.b .nil pass0 (pa_cons (pv 0) (pa_cons (pv 2) pa_nil))))
      (pss_cons (ps_set (i := 4) nd rfl (.inl rfl) (pe_op op_sub (pe_ix ix_tup (pe_dget hu (pv 1) (pe_ix ix_tup (pv 3) pe_int (fun _ _ => rfl)) (fun _ _ => rfl)) (pe_ix ix_tup (pv 3) pe_int (fun _ _ => rfl)) (fun _ _ => rfl)) pe_int))
      (pss_cons (ps_if (pt_cmpR op_lt (pv 4) pe_int (nomark _)) (pss_one (ps_ret pe_non)) pss_nil)
      (pss_cons (ps_if (pt_cmpR op_eq (pe_ix ix_tup (pv 2) pe_int (fun _ _ => rfl)) pe_str (nomark _)) (pss_one (ps_set (i := 4) nd rfl (.inl rfl) (pe_op op_fdiv (pv 4) (pe_fld (pv 0) rfl)))) pss_nil)
      ht))), ?_⟩
    obtain ⟨dx, es⟩ := id S
    have hf := b.hf
    refine ⟨_, rfl, _, rfl, sa, t, b, u, rfl, S, et, fun c H1 s1 ec => ?_⟩
    obtain ⟨kvs, ra, e1, e2, e3, e4⟩ := (Ho.same s1).get q1 q2
    have er : atI ((rowAt cs (cellP b u)).map V.int) (u.2 % 8) = some (.int (cellN cs (cellP b u) (u.2 % 8).toNat)) := by
      have := row_at (l := rowAt cs (cellP b u)) (s := (u.2 % 8).toNat) (by omega)
      rw [show (((u.2 % 8).toNat : Nat) : Int) = u.2 % 8 by omega] at this
      exact this
    refine ⟨_, rfl, _, rfl, c, _, 0, _, rfl, rfl, SqT.of ec, atI_nat (j := 0) rfl, h, .ref ra, rfl, (by rw [← e2]; exact DGet.k (k := Sum.inl (cellP b u)) e1), _, rfl, c, _, 1, _, rfl, rfl, SqT.of ec, atI_nat (j := 1) rfl, ra, _, _, _, rfl, rfl, e3, er, _, _, rfl, rfl, ?_⟩
    have hpe := place_eq (cs := cs) hU
    refine ⟨_, rfl, _, _, rfl, rfl, _, rfl, ite2 (fun c3 => ?_) (fun c3 => ?_)⟩
    · have c3' : cellN cs (cellP b u) (u.2 % 8).toNat - 1 < 0 := of_decide_eq_true c3
      refine k _ _ s1 ?_
      rw [hpe, if_pos c3']
      exact .non
    · have c3' : ¬ cellN cs (cellP b u) (u.2 % 8).toNat - 1 < 0 := fun z => c3 (decide_eq_true z)
      rw [if_neg c3'] at hpe
      have et1 := s1 _ _ et
      have es1 := s1 _ _ es
      refine ⟨_, rfl, t, _, 0, _, rfl, rfl, SqT.of et1, atI_nat (j := 0) rfl, rfl, _, rfl, ite2 (fun c4 => ?_) (fun c4 => ?_)⟩
      · have c4' : u.1 = false := by rw [← str_row]; exact of_decide_eq_true c4
        rw [c4'] at hpe
        refine ⟨_, rfl, _, rfl, sa, C, dx, _, _, rfl, es1, T.cl, T.no _ (by decide +kernel), zip_get (i := 2) shn_nodup rfl rfl, _, _, rfl, rfl, ⟨by show (0 : Int) < b.f; omega, by show b.f < 1073741824; omega⟩, ?_⟩
        exact hq _ _ _ s1 hpe
      · have c4' : u.1 = true := by
          cases e : u.1 with
          | true => rfl
          | false => exact absurd (decide_eq_true (show V.str (uS u) = V.str "row" by rw [str_row]; exact e)) c4
        rw [c4'] at hpe
        exact hq _ _ _ s1 hpe
end
end Pf

set_option Elab.async false
set_option linter.all false
set_option maxRecDepth 100000
set_option maxHeartbeats 4000000
namespace Pf
open PySem PySem.Spec PyProof.Rows L2
theorem DrawAt.frb {K : PySem.W.Frag} {H H' : Hp} {a sc : Addr} {ns : List Int} (D : DrawAt K H a sc ns) (s : But [a] H H') : Fr [a] H H' := Fr.but s fun c hc u e => by
  obtain ⟨i, e2⟩ := D.1
  rw [List.mem_singleton.mp hc, e2] at e
  cases e
  rfl
theorem DrawAt.ne {K : PySem.W.Frag} {H : Hp} {a sc x : Addr} {ns : List Int} (D : DrawAt K H a sc ns) (h : H x = none) : x ≠ a := fun z => by
  obtain ⟨i, e⟩ := D.1
  rw [z, e] at h
  cases h
theorem But.free {cs : List Addr} {H H' : Hp} {p : Addr} (s : But cs H H') (h : H' p = none) (n : p ∉ cs) : H p = none := by
  cases e : H p with
  | none => rfl
  | some o => rw [s.at e n] at h; cases h
/-- while units are drawn -/
structure DrI (K : PySem.W.Frag) (C : Addr) (H H' : Hp) (a sc sa h : Addr) (ns : List Int) (b : Sh) (cs : List Ch) : Prop where
  t : But [a] H H'
  f : Fr [a] H H'
  d : DrawAt K H' a sc ns
  s : ShAt C H' sa b
  o : HoAt K H' h cs b.pl
section
variable {K : PySem.W.Frag} {C : Addr} {H H' H2 : Hp} {a sc sa h : Addr} {ns : List Int} {b : Sh} {cs : List Ch}
theorem DrI.but (I : DrI K C H H' a sc sa h ns b cs) (n1 : sa ≠ a) (n2 : h ≠ a) (s : But [a] H' H2) (d : DrawAt K H2 a sc ns) : DrI K C H H2 a sc sa h ns b cs :=
  have g := I.d.frb s
  ⟨but_trans I.t s, I.f.trans g, d, I.s.fr g (by simp [n1]), I.o.fr g (by simp [n2])⟩
theorem DrI.same (I : DrI K C H H' a sc sa h ns b cs) (s : Same H' H2) : DrI K C H H2 a sc sa h ns b cs := ⟨but_same I.t s, I.f.trans (.of s), I.d.same s, I.s.same s, I.o.same s⟩
end
theorem pe_imp {X : Cx} {e : Expr} {t t' : TE} (h : PE X e t) (k : ∀ σ H Q, t' σ H Q → t σ H Q) : PE X e t' := ⟨fun pins s σ H Q I g => h.run pins s σ H Q I (k σ H Q g)⟩
def tUpL (K : PySem.W.Frag) (C a sc sa : Addr) (ns : List Int) (b : Sh) : TE := fun σ H Q => (∃ kk : Int, σ[4]? = some (some (.int kk))) ∧ σ[0]? = some (some (.ref a)) ∧ σ[1]? = some (some (.ref sa)) ∧ sa ≠ a ∧ DrawAt K H a sc ns ∧ ShAt C H sa b ∧ ∀ r H', But [a] H H' → DrawAt K H' a sc ns → Q (.int r) H'
def tNmL (K : PySem.W.Frag) (a sc : Addr) (ns : List Int) : TE := fun σ H Q => (∃ kk : Int, σ[4]? = some (some (.int kk))) ∧ (∃ kk : Int, σ[6]? = some (some (.int kk))) ∧ σ[0]? = some (some (.ref a)) ∧ DrawAt K H a sc ns ∧ ∀ r H', But [a] H H' → DrawAt K H' a sc ns → Q (.int r) H'
abbrev NLh : List Str := ["draw", "shape", "home", "unit", "kind", "up", "number"]
theorem scLh : FnScope NLh ["draw", "shape"] (defScope sLh) := ⟨rfl, rfl, rfl, by decide +kernel, rfl, by decide +kernel, by decide +kernel⟩
section
variable {P : Program} {w : World} {K : PySem.W.Frag} {mg : Str → Option Value} {base : Heap} {C : Addr}
def spLnoC (C : Addr) : Sp := fun vs H Q _ => ∃ (sa t : Addr) (b : Sh) (u : Un) (up nm fl : Int), vs = [.ref sa, .ref t, .int up, .int nm, .int fl] ∧ ShAt C H sa b ∧ H t = some (.tup (uV u)) ∧ ∀ r, Q (.int r) H
def spLh (K : PySem.W.Frag) (C : Addr) : Sp := fun vs H Q _ => ∃ (a sc sa : Addr) (ns : List Int) (b : Sh), vs = [.ref a, .ref sa] ∧ DrawAt K H a sc ns ∧ ShAt C H sa b ∧ b.u = 1 ∧ sa ≠ a ∧ ∀ h cs H', But [a] H H' → DrawAt K H' a sc ns → HoAt K H' h cs b.pl → h ≠ a → Q (.ref h) H'
theorem ok_lh {f fT fP fE fU fN fC fW : Addr} {fd dT dP dE dU dN dC dW : FuncData} (F : Fun K "_law_home" "_law_home" sLh f fd) (T : ShTxt K C) (DT : Df P w K mg base CX0 2 "_law_take" ["draw", "many"] (spTake K) fT dT) (DP : Df P w K mg base CX0 3 "_law_pick" ["draw", "items"] (spPick K) fP dP)
    (ME : Me P w K mg base 1 C "empty_home" ["self"] (spEh K C) fE dE) (DU : Df P w K mg base CX0 1 "_law_units" ["shape"] (spAu C) fU dU) (DN : Df P w K mg base CX0 1 "_law_number_of" ["shape", "unit", "up", "name", "file"] (spLnoC C) fN dN)
    (DC : Df P w K mg base CX0 2 "_law_cell" ["shape", "unit"] (spLce C) fC dC) (DW : Df P w K mg base CX0 1 "_law_with" ["home", "cell", "number"] (spLwi K) fW dW) : FnOk P w K mg base CX0 4 f fd ["draw", "shape"] (spLh K C) := by
  refine F.ok scLh (fun vs H Q E h => ?_) (fun cdv A outer s H vs Q E hr h => ?_)
  · obtain ⟨a, sc, sa, ns, b, rfl, _⟩ := h
    rfl
  · obtain ⟨a, sc, sa, ns, b, rfl, D, S, hu1, hsa, k⟩ := h
    have nd := scLh.nd
    have h1 : Room 1 _ := hr.mono (by decide)
    have h2 : Room 2 _ := hr.mono (by decide)
    have hbd := b.bd
    have hhd := b.hd
    have hhf := b.hf
    have up9 : ∀ (σ : L2.St) (H : Hp) (Q : VK), tUpL K C a sc sa ns b σ H Q → tIf (tTest (tOp (rI0 fun i j => .bl (decide (i < j))) (tVar 4) (tC (.int 8)))) (tCall (spTake K) [] E0 (tCons (tVar 0) (tCons (tFld K (tVar 1) "dirs") tNil))) (tOp (rI0 fun i j => .int (i + j)) (tFld K (tVar 1) "dirs") (tCall (spTake K) [] E0 (tCons (tVar 0) (tCons (tC (.int 3)) tNil)))) σ H Q := by
      rintro σ H Q ⟨⟨kk, e4⟩, e0, e1, hsa, D, S, q⟩
      obtain ⟨dx, es⟩ := id S
      refine ⟨_, e4, _, _, rfl, rfl, _, rfl, ite2 (fun c => ?_) (fun c => ?_)⟩
      · exact ⟨_, e0, _, e1, sa, C, dx, _, _, rfl, es, T.cl, T.no _ (by decide +kernel), zip_get (i := 0) shn_nodup rfl rfl, a, sc, ns, b.d, rfl, D, by omega, fun r H' _ _ z D' => q r H' z D'⟩
      · exact ⟨_, e1, sa, C, dx, _, _, rfl, es, T.cl, T.no _ (by decide +kernel), zip_get (i := 0) shn_nodup rfl rfl, _, e0, a, sc, ns, 3, rfl, D, by decide, fun r H' _ _ z D' => ⟨_, _, rfl, rfl, q _ H' z D'⟩⟩
    have nm9 : ∀ (σ : L2.St) (H : Hp) (Q : VK), tNmL K a sc ns σ H Q → tIf (tTest (tOp (rI0 fun i j => .bl (decide (j < i))) (tVar 4) (tC (.int 1)))) (tVar 6) (tCall (spPick K) [] E0 (tCons (tVar 0) (tCons (tLst (tCons (tC (.int 0)) (tCons (tC (.int 0)) (tCons (tUn (rU fun i => .int (-i)) (tC (.int 7))) tNil)))) tNil))) σ H Q := by
      rintro σ H Q ⟨⟨kk, e4⟩, ⟨mm, e6⟩, e0, D, q⟩
      refine ⟨_, e4, _, _, rfl, rfl, _, rfl, ite2 (fun c => ?_) (fun c => ?_)⟩
      · exact ⟨_, e6, q _ _ (But.of (Same.refl _)) D⟩
      · refine ⟨_, e0, _, rfl, (by show 3 ≤ sizeLine; decide), fun l hl => ?_⟩
        have t1 := same_upd (o := .lst [.int 0, .int 0, .int (-7)]) hl
        refine ⟨a, l, sc, ns, _, rfl, D.same t1, upd_same, D.ne hl, by simp, fun v H' hv z D' => ?_⟩
        obtain ⟨n, rfl⟩ : ∃ n : Int, v = .int n := by
          simp only [List.mem_cons, List.not_mem_nil, or_false] at hv
          rcases hv with rfl | rfl | rfl <;> exact ⟨_, rfl⟩
        exact q _ _ (same_but t1 z) D'
    refine ⟨_, pss_cons (ps_set (i := 2) nd rfl (.inl rfl) (pe_meth0 (pv 1) T.cl ME.m ME.G h1 ME.b .nil pass0))
      (pss_cons (ps_for PassesOwn.never rfl (pi_list (pe_call DU.G h1 rfl DU.g DU.kp DU.b .nil pass0 (pa_cons (pv 1) pa_nil))) (pg_name (i := 3) nd rfl (.inl rfl))
        (pss_cons (ps_set (i := 4) nd rfl (.inl rfl) (pe_call DT.G h2 rfl DT.g DT.kp DT.b .nil pass0 (pa_cons (pv 0) (pa_cons pe_int pa_nil))))
        (pss_cons (ps_set (i := 5) nd rfl (.inl rfl) (pe_imp (t' := tUpL K C a sc sa ns b) (pe_ifExp (pt_cmpR op_lt (pv 4) pe_int (nomark _)) (pe_call DT.G h2 rfl DT.g DT.kp DT.b .nil pass0 (pa_cons (pv 0) (pa_cons (pe_fld (pv 1) rfl) pa_nil)))
          (pe_op op_add (pe_fld (pv 1) rfl) (pe_call DT.G h2 rfl DT.g DT.kp DT.b .nil pass0 (pa_cons (pv 0) (pa_cons pe_int pa_nil))))) up9))
        (pss_cons (ps_set (i := 6) nd rfl (.inl rfl) (pe_call DN.G h1 rfl DN.g DN.kp DN.b .nil pass0 (pa_cons (pv 1) (pa_cons (pv 3) (pa_cons (pv 5) (pa_cons (pe_call DP.G hr rfl DP.g DP.kp DP.b .nil pass0 (pa_cons (pv 0) (pa_cons (pe_lst (pa_cons pe_int (pa_cons pe_int (pa_cons pe_int (pa_cons pe_int pa_nil))))) pa_nil)))
          (pa_cons (pe_call DT.G h2 rfl DT.g DT.kp DT.b .nil pass0 (pa_cons (pv 0) (pa_cons (pe_fld (pv 1) rfl) pa_nil))) pa_nil)))))))
        (pss_one (ps_set (i := 2) nd rfl (.inl rfl) (pe_call DW.G h1 rfl DW.g DW.kp DW.b .nil pass0 (pa_cons (pv 2) (pa_cons (pe_call DC.G h2 rfl DC.g DC.kp DC.b .nil pass0 (pa_cons (pv 1) (pa_cons (pv 3) pa_nil)))
          (pa_cons (pe_imp (t' := tNmL K a sc ns) (pe_ifExp (pt_cmpR op_gt (pv 4) pe_int (nomark _)) (pv 6) (pe_call DP.G hr rfl DP.g DP.kp DP.b .nil pass0 (pa_cons (pv 0) (pa_cons (pe_lst (pa_cons pe_int (pa_cons pe_int (pa_cons (pe_un un_neg pe_int) pa_nil)))) pa_nil)))) nm9) pa_nil))))))))))
      (pss_one (ps_ret (pv 2)))), ?_⟩
    obtain ⟨dx, es⟩ := id S
    refine ⟨_, rfl, sa, dx, _, rfl, es, zip_no (by decide +kernel), sa, b, rfl, S, hu1, fun H1 h cs s1 hn A1 _ => ?_⟩
    have nha : h ≠ a := D.ne hn
    refine ⟨_, rfl, sa, b, rfl, S.same s1, fun LA H2 s2 hLA AL => ?_⟩
    obtain ⟨ua, ea, da⟩ := AL
    have hual := dps_len da
    rw [List.length_map] at hual
    have nLa : LA ≠ a := (D.same s1).ne hLA
    have s12 := s1.trans s2
    refine ⟨LA, rfl, ⟨ua, SqL.of ea⟩, for_list (K := K) (a := LA) (xs := ua) (fun i σ H' => ∃ h y3 y4 y5 y6 cs, σ = [some (.ref a), some (.ref sa), some (.ref h), y3, y4, y5, y6] ∧ h ≠ a ∧ DrI K C H2 H' a sc sa h ns b cs) ⟨h, none, none, none, none, cs, rfl, nha, But.of (Same.refl _), Fr.of (Same.refl _), D.same s12, S.same s12, A1.same s2⟩ (fun i σ H' _ z => by
        obtain ⟨_, _, _, _, _, _, _, _, I⟩ := z
        exact SqL.of (I.f.at ea (by simp [nLa]))) ?_ ?_⟩
    · rintro i x σ H' hi ⟨h, y3, y4, y5, y6, cs, rfl, nha, I⟩
      obtain ⟨u, hu', hd⟩ := dpu_at da hi
      obtain ⟨t, rfl, et⟩ := dpu_un hd
      have hU := in_units (List.mem_of_getElem? hu')
      refine ⟨_, rfl, a, sc, ns, 10, rfl, I.d, by decide, fun kk H3 _ _ z3 D3 => ?_⟩
      have I3 := I.but hsa nha z3 D3
      refine ⟨⟨kk, rfl⟩, rfl, rfl, hsa, I3.d, I3.s, fun up H4 z4 D4 => ?_⟩
      have I4 := I3.but hsa nha z4 D4
      refine ⟨_, rfl, _, rfl, _, rfl, _, rfl, (by show 4 ≤ sizeLine; decide), fun l hl => ?_⟩
      have t5 := same_upd (o := .lst [.int 0, .int 0, .int 1, .int 475253]) hl
      have I5 := I4.same t5
      refine ⟨a, l, sc, ns, _, rfl, I5.d, upd_same, D4.ne hl, by simp, fun v H6 hv z6 D6 => ?_⟩
      obtain ⟨nm, rfl⟩ : ∃ n : Int, v = .int n := by
        simp only [List.mem_cons, List.not_mem_nil, or_false] at hv
        rcases hv with rfl | rfl | rfl | rfl <;> exact ⟨_, rfl⟩
      have I6 := I5.but hsa nha z6 D6
      obtain ⟨dx6, es6⟩ := I6.s
      refine ⟨_, rfl, _, rfl, sa, C, dx6, _, _, rfl, es6, T.cl, T.no _ (by decide +kernel), zip_get (i := 2) shn_nodup rfl rfl, a, sc, ns, b.f, rfl, I6.d, by omega, fun fl H7 _ _ z7 D7 => ?_⟩
      have I7 := I6.but hsa nha z7 D7
      have et7 := I7.f.tup et
      refine ⟨sa, t, b, u, up, nm, fl, rfl, I7.s, et7, fun m => ?_⟩
      obtain ⟨q1, q2, q3, q4⟩ := cellP_in hU
      refine ⟨_, rfl, _, rfl, _, rfl, sa, t, b, u, rfl, I7.s, et7, fun c H8 s8 ec => ?_⟩
      have I8 := I7.same s8
      refine ⟨⟨kk, rfl⟩, ⟨m, rfl⟩, rfl, I8.d, fun v H9 z9 D9 => ?_⟩
      have I9 := I8.but hsa nha z9 D9
      refine ⟨h, c, cellP b u, u.2 % 8, v, b.pl, cs, rfl, I9.o, by omega, (I8.d.frb z9).tup ec, q1, q2, q3, q4, fun h' H10 s10 hn10 A10 => ?_⟩
      have I10 := I9.same s10
      exact ⟨h', _, _, _, _, _, rfl, I9.d.ne hn10, I10.t, I10.f, I10.d, I10.s, A10⟩
    · rintro σ H' ⟨h, y3, y4, y5, y6, cs, rfl, nha, I⟩
      exact ⟨_, rfl, k h cs H' (same_but s12 I.t) I.d I.o nha⟩
end
end Pf

set_option Elab.async false
set_option linter.all false
set_option maxRecDepth 100000
set_option maxHeartbeats 4000000
namespace Pf
open PySem PySem.Spec PyProof.Rows L2
/-! ### rings, by steps -/
def wkG (step : Int → Option Int) : Nat → List Int → List Int → Int → List Int × List Int × Int
  | 0, met, ps, h => (met, ps, h)
  | n + 1, met, ps, h => match step h with
    | none => (met, ps, h)
    | some h' => if h ∈ met then (met, ps, h) else wkG step n (met ++ [h]) (ps ++ [h]) h'
theorem wk_G (ups : Us) : ∀ n met ps h, wk ups n met ps h = wkG (look ups) n met ps h
  | 0, _, _, _ => rfl
  | n + 1, met, ps, h => by
    unfold wk wkG
    cases look ups h with
    | none => rfl
    | some h' =>
      show (if h ∈ met then _ else _) = (if h ∈ met then _ else _)
      rw [wk_G ups n]
theorem wkG_stop {step : Int → Option Int} {met ps : List Int} {h : Int} (c : step h = none ∨ h ∈ met) : ∀ n, wkG step n met ps h = (met, ps, h)
  | 0 => rfl
  | n + 1 => by
    unfold wkG
    cases e : step h with
    | none => rfl
    | some h' =>
      rcases c with c | c
      · rw [e] at c; cases c
      · show (if h ∈ met then _ else _) = _
        rw [if_pos c]
theorem wkG_go {step : Int → Option Int} {n : Nat} {met ps : List Int} {h h' : Int} (e : step h = some h') (c : h ∉ met) : wkG step (n + 1) met ps h = wkG step n (met ++ [h]) (ps ++ [h]) h' := by
  show (match step h with | none => _ | some h' => if h ∈ met then _ else _) = _
  rw [e]
  show (if h ∈ met then _ else _) = _
  rw [if_neg c]
def ringG (step : Int → Option Int) (N : Nat) (met : List Int) (s : Int) : List Int × List (List Int) :=
  let r := wkG step N met [] s
  (r.1, if r.2.2 ∈ r.2.1 then [isI (dropTo r.2.2 r.2.1)] else [])
def progG (step : Int → Option Int) (N : Nat) (l : List Int) : List Int × List (List Int) := l.foldl (fun st s => ((ringG step N st.1 s).1, st.2 ++ (ringG step N st.1 s).2)) ([], [])
def lawA (step : Int → Option Int) (N : Nat) (rs : List (List Int)) (n : Int) : List (List Int) :=
  let r := wkG step N [] [] n
  if r.2.1 ≠ [] ∧ r.2.2 = n ∧ isI r.2.1 ∉ rs then rs ++ [isI r.2.1] else rs
def lawG (step : Int → Option Int) (N : Nat) (l : List Int) : List (List Int) := l.foldl (lawA step N) []
theorem ring_G (ups : Us) (met : List Int) (s : Int) : ringOf ups met s = ringG (look ups) ups.length met s := by
  unfold ringOf ringG
  rw [wk_G]
theorem rings_G (ups : Us) (l : List Int) : ringsR ups l = progG (look ups) ups.length l := by
  unfold ringsR progG
  simp only [ring_G]
def canC (k : Nat) (v : Int) : Int := if 2 ≤ v ∧ v < 2 + ((k : Nat) : Int) then v else 0
/-- what a step takes: only numbers from 2 on -/
def InS (k : Nat) (step : Int → Option Int) : Prop := ∀ h, step h ≠ none → 2 ≤ h ∧ h < 2 + ((k : Nat) : Int)
section
variable {k : Nat} {step : Int → Option Int}
theorem can_in (hs : InS k step) {h : Int} (e : step h ≠ none) : canC k h = h := by
  unfold canC
  rw [if_pos (hs h e)]
theorem can_step (hs : InS k step) (h : Int) : step (canC k h) = step h := by
  by_cases c : 2 ≤ h ∧ h < 2 + ((k : Nat) : Int)
  · unfold canC; rw [if_pos c]
  · have e0 : step 0 = none := by
      cases e : step 0 with
      | none => rfl
      | some v => exact absurd (hs 0 (by rw [e]; simp)).1 (by decide)
    have e1 : step h = none := by
      cases e : step h with
      | none => rfl
      | some v => exact absurd (hs h (by rw [e]; simp)) c
    unfold canC
    rw [if_neg c, e0, e1]
theorem can_wk (hs : InS k step) : ∀ n met ps h, wkG (fun h => (step h).map (canC k)) n met ps (canC k h) = ((wkG step n met ps h).1, (wkG step n met ps h).2.1, canC k (wkG step n met ps h).2.2)
  | 0, _, _, _ => rfl
  | n + 1, met, ps, h => by
    have e0 : ((fun h => (step h).map (canC k)) (canC k h)) = (step h).map (canC k) := by show (step (canC k h)).map _ = _; rw [can_step hs]
    cases e : step h with
    | none =>
      rw [wkG_stop (.inl e), wkG_stop (.inl (by rw [can_step hs, e]; rfl))]
    | some h' =>
      have ec : canC k h = h := can_in hs (by rw [e]; simp)
      by_cases c : h ∈ met
      · rw [wkG_stop (.inr c), wkG_stop (.inr (by rw [ec]; exact c))]
      · rw [wkG_go e c, wkG_go (h' := canC k h') (by rw [can_step hs, e]; rfl) (by rw [ec]; exact c), can_wk hs n, ec]
theorem wk_keys (hs : InS k step) : ∀ n met ps h, (∀ y ∈ ps, step y ≠ none) → ∀ y ∈ (wkG step n met ps h).2.1, step y ≠ none
  | 0, _, _, _, hp => hp
  | n + 1, met, ps, h, hp => by
    cases e : step h with
    | none => rw [wkG_stop (.inl e)]; exact hp
    | some h' =>
      by_cases c : h ∈ met
      · rw [wkG_stop (.inr c)]; exact hp
      · rw [wkG_go e c]
        refine wk_keys hs n _ _ _ fun y hy => ?_
        rcases List.mem_append.mp hy with m | m
        · exact hp y m
        · rw [List.mem_singleton.mp m, e]; simp
theorem can_ring (hs : InS k step) (N : Nat) (met : List Int) {s : Int} (hk : canC k s = s) : ringG (fun h => (step h).map (canC k)) N met s = ringG step N met s := by
  have h0 := can_wk hs N met [] s
  rw [hk] at h0
  have hkeys := wk_keys hs N met [] s (fun y hy => by cases hy)
  unfold ringG
  simp only [h0]
  generalize wkG step N met [] s = r at hkeys
  congr 1
  have hiff : canC k r.2.2 ∈ r.2.1 ↔ r.2.2 ∈ r.2.1 := by
    constructor
    · intro m
      have e := hkeys _ m
      rw [can_step hs] at e
      rw [can_in hs e] at m
      exact m
    · intro m
      rw [can_in hs (hkeys _ m)]
      exact m
  by_cases c : r.2.2 ∈ r.2.1
  · rw [if_pos c, if_pos (hiff.mpr c), can_in hs (hkeys _ c)]
  · rw [if_neg c, if_neg fun z => c (hiff.mp z)]
theorem can_prog (hs : InS k step) (N : Nat) : ∀ l : List Int, (∀ x ∈ l, canC k x = x) → progG (fun h => (step h).map (canC k)) N l = progG step N l := snoc_ind (fun _ => rfl) fun l s ih hl => by
  unfold progG at ih ⊢
  rw [List.foldl_append, List.foldl_append, ih fun x hx => hl x (by simp [hx])]
  simp only [List.foldl_cons, List.foldl_nil]
  rw [can_ring hs N _ (hl s (by simp))]
theorem can_lawA (hs : InS k step) (N : Nat) (rs : List (List Int)) {n : Int} (hn : 2 ≤ n ∧ n < 2 + ((k : Nat) : Int)) : lawA (fun h => (step h).map (canC k)) N rs n = lawA step N rs n := by
  have hk : canC k n = n := by unfold canC; rw [if_pos hn]
  have h0 := can_wk hs N [] [] n
  rw [hk] at h0
  unfold lawA
  simp only [h0]
  generalize wkG step N [] [] n = r
  have hiff : canC k r.2.2 = n ↔ r.2.2 = n := by
    constructor
    · intro e
      unfold canC at e
      split at e
      · exact e
      · omega
    · intro e
      rw [e, hk]
  simp only [hiff]
theorem can_law (hs : InS k step) (N : Nat) : ∀ l : List Int, (∀ x ∈ l, 2 ≤ x ∧ x < 2 + ((k : Nat) : Int)) → lawG (fun h => (step h).map (canC k)) N l = lawG step N l := snoc_ind (fun _ => rfl) fun l s ih hl => by
  unfold lawG at ih ⊢
  rw [List.foldl_append, List.foldl_append, ih fun x hx => hl x (by simp [hx])]
  simp only [List.foldl_cons, List.foldl_nil]
  exact can_lawA hs N _ (hl s (by simp))
end
/-! ### all ups of at most 4 directories -/
def stepOf (l : List (Option Int)) (h : Int) : Option Int := if 2 ≤ h then (l.getD (h - 2).toNat none) else none
def keysOf (l : List (Option Int)) : List Int := ((List.range l.length).filter fun i => (l.getD i none).isSome).map fun i => 2 + ((i : Nat) : Int)
def rngOf (k : Nat) : List Int := (List.range k).map fun i => 2 + ((i : Nat) : Int)
def okL (l : List (Option Int)) : Bool := decide (isL (lawG (stepOf l) l.length (rngOf l.length)) = isL (progG (stepOf l) (keysOf l).length (keysOf l)).2)
def valsOf (k : Nat) : List (Option Int) := none :: some 0 :: (rngOf k).map some
def allL (vs : List (Option Int)) : Nat → List (List (Option Int))
  | 0 => [[]]
  | n + 1 => (allL vs n).flatMap fun l => vs.map fun v => v :: l
theorem ok_all1 : ((allL (valsOf 1) 1).all okL) = true := by decide +kernel
theorem ok_all2 : ((allL (valsOf 2) 2).all okL) = true := by decide +kernel
theorem ok_all3 : ((allL (valsOf 3) 3).all okL) = true := by decide +kernel
theorem ok_all4 : ((allL (valsOf 4) 4).all okL) = true := by decide +kernel
theorem mem_allL {vs : List (Option Int)} : ∀ {l : List (Option Int)}, (∀ x ∈ l, x ∈ vs) → l ∈ allL vs l.length
  | [], _ => List.mem_singleton.mpr rfl
  | x :: l, h => List.mem_flatMap.mpr ⟨l, mem_allL fun y m => h y (List.mem_cons_of_mem _ m), List.mem_map.mpr ⟨x, h x List.mem_cons_self, rfl⟩⟩
theorem stepOf_in (l : List (Option Int)) : InS l.length (stepOf l) := fun h e => by
  unfold stepOf at e
  by_cases c : 2 ≤ h
  · rw [if_pos c] at e
    refine ⟨c, ?_⟩
    by_cases c2 : (h - 2).toNat < l.length
    · omega
    · rw [List.getD_eq_getElem?_getD, List.getElem?_eq_none (by omega)] at e
      exact absurd rfl e
  · rw [if_neg c] at e
    exact absurd rfl e
theorem stepOf_can (l : List (Option Int)) (k : Nat) : stepOf (l.map (Option.map (canC k))) = fun h => (stepOf l h).map (canC k) := by
  funext h
  unfold stepOf
  by_cases c : 2 ≤ h
  · rw [if_pos c, if_pos c, List.getD_eq_getElem?_getD, List.getD_eq_getElem?_getD, List.getElem?_map]
    cases l[(h - 2).toNat]? with
    | none => rfl
    | some x => rfl
  · rw [if_neg c, if_neg c]; rfl
theorem keysOf_can (l : List (Option Int)) (k : Nat) : keysOf (l.map (Option.map (canC k))) = keysOf l := by
  unfold keysOf
  rw [List.length_map]
  congr 1
  apply List.filter_congr
  intro i _
  rw [List.getD_eq_getElem?_getD, List.getD_eq_getElem?_getD, List.getElem?_map]
  cases l[i]? with
  | none => rfl
  | some x => cases x <;> rfl
theorem rngOf_in {k : Nat} {x : Int} (h : x ∈ rngOf k) : 2 ≤ x ∧ x < 2 + ((k : Nat) : Int) := by
  obtain ⟨i, hi, rfl⟩ := List.mem_map.mp h
  have := List.mem_range.mp hi
  omega
theorem keysOf_in {l : List (Option Int)} {x : Int} (h : x ∈ keysOf l) : 2 ≤ x ∧ x < 2 + ((l.length : Nat) : Int) := by
  obtain ⟨i, hi, rfl⟩ := List.mem_map.mp h
  have := List.mem_range.mp (List.mem_filter.mp hi).1
  omega
theorem ring_same {l : List (Option Int)} (h1 : 1 ≤ l.length) (h4 : l.length ≤ 4) : isL (lawG (stepOf l) l.length (rngOf l.length)) = isL (progG (stepOf l) (keysOf l).length (keysOf l)).2 := by
  have hv : ∀ x ∈ l.map (Option.map (canC l.length)), x ∈ valsOf l.length := fun x hx => by
    obtain ⟨y, _, rfl⟩ := List.mem_map.mp hx
    cases y with
    | none => exact List.mem_cons_self
    | some v =>
      show some (canC l.length v) ∈ _
      unfold canC
      split
      · rename_i c
        refine List.mem_cons_of_mem _ (List.mem_cons_of_mem _ (List.mem_map.mpr ⟨v, List.mem_map.mpr ⟨(v - 2).toNat, List.mem_range.mpr (by omega), by omega⟩, rfl⟩))
      · exact List.mem_cons_of_mem _ List.mem_cons_self
  have hm := mem_allL hv
  rw [List.length_map] at hm
  have hok : okL (l.map (Option.map (canC l.length))) = true := by
    generalize l.map (Option.map (canC l.length)) = m at hm
    generalize l.length = k at hm h1 h4
    have : k = 1 ∨ k = 2 ∨ k = 3 ∨ k = 4 := by omega
    rcases this with rfl | rfl | rfl | rfl
    · exact List.all_eq_true.mp ok_all1 _ hm
    · exact List.all_eq_true.mp ok_all2 _ hm
    · exact List.all_eq_true.mp ok_all3 _ hm
    · exact List.all_eq_true.mp ok_all4 _ hm
  have h0 := of_decide_eq_true hok
  rw [List.length_map, stepOf_can, keysOf_can, can_law (stepOf_in l) _ _ (fun x hx => rngOf_in hx), can_prog (stepOf_in l) _ _ (fun x hx => by unfold canC; rw [if_pos (keysOf_in hx)])] at h0
  exact h0
end Pf

set_option Elab.async false
set_option linter.all false
set_option maxRecDepth 100000
set_option maxHeartbeats 4000000
namespace Pf
open PySem PySem.Spec PyProof.Rows L2
/-! ### the ups of a home, as steps -/
def upU (g : Nat → Option Int) (k : Nat) : Us := (List.range k).filterMap fun i => (g i).map fun v => (2 + ((i : Nat) : Int), v)
theorem upU_more (g : Nat → Option Int) (k : Nat) : upU g (k + 1) = upU g k ++ (match g k with | none => [] | some v => [(2 + ((k : Nat) : Int), v)]) := by
  unfold upU
  rw [List.range_succ, List.filterMap_append]
  congr 1
  cases e : g k <;> simp [e]
theorem look_app (a c : Us) (h : Int) : look (a ++ c) h = (look a h).or (look c h) := by
  induction a with
  | nil => rfl
  | cons x a ih =>
    by_cases e : x.1 = h
    · rw [List.cons_append, look_pos e, look_pos e]; rfl
    · rw [List.cons_append, look_neg e, look_neg e, ih]
theorem look_upU (g : Nat → Option Int) (h : Int) : ∀ k, look (upU g k) h = if 2 ≤ h ∧ h < 2 + ((k : Nat) : Int) then g (h - 2).toNat else none
  | 0 => by
    rw [if_neg (by omega)]
    rfl
  | k + 1 => by
    rw [upU_more, look_app, look_upU g h k]
    by_cases c : 2 ≤ h ∧ h < 2 + ((k : Nat) : Int)
    · rw [if_pos c, if_pos (by omega)]
      cases g (h - 2).toNat with
      | some v => rfl
      | none =>
        cases e : g k with
        | none => rfl
        | some v =>
          rw [look_neg (by show ¬ 2 + ((k : Nat) : Int) = h; omega)]
          rfl
    · rw [if_neg c]
      by_cases c2 : h = 2 + ((k : Nat) : Int)
      · rw [if_pos (by omega), show (h - 2).toNat = k by omega]
        cases e : g k with
        | none => rfl
        | some v => rw [look_pos (by show 2 + ((k : Nat) : Int) = h; omega)]; rfl
      · rw [if_neg (by omega)]
        cases e : g k with
        | none => rfl
        | some v => rw [look_neg (by show ¬ 2 + ((k : Nat) : Int) = h; omega)]; rfl
def lstU (g : Nat → Option Int) (k : Nat) : List (Option Int) := (List.range k).map g
theorem lstU_get (g : Nat → Option Int) (k i : Nat) : (lstU g k).getD i none = if i < k then g i else none := by
  unfold lstU
  rw [List.getD_eq_getElem?_getD, List.getElem?_map]
  by_cases c : i < k
  · rw [if_pos c, List.getElem?_range c]; rfl
  · rw [if_neg c, List.getElem?_eq_none (by rw [List.length_range]; omega)]; rfl
theorem step_upU (g : Nat → Option Int) (k : Nat) : look (upU g k) = stepOf (lstU g k) := by
  funext h
  rw [look_upU]
  unfold stepOf
  rw [lstU_get]
  by_cases c : 2 ≤ h
  · rw [if_pos c]
    by_cases c2 : h < 2 + ((k : Nat) : Int)
    · rw [if_pos ⟨c, c2⟩, if_pos (by omega)]
    · rw [if_neg (by omega), if_neg (by omega)]
  · rw [if_neg c, if_neg (by omega)]
theorem keys_upU (g : Nat → Option Int) (k : Nat) : (upU g k).map (·.1) = keysOf (lstU g k) := by
  unfold keysOf
  have hl : (lstU g k).length = k := by unfold lstU; rw [List.length_map, List.length_range]
  rw [hl]
  have : (List.range k).filter (fun i => ((lstU g k).getD i none).isSome) = (List.range k).filter (fun i => (g i).isSome) := by
    apply List.filter_congr
    intro i hi
    rw [lstU_get, if_pos (List.mem_range.mp hi)]
  rw [this]
  clear this
  induction k with
  | zero => rfl
  | succ k ih =>
    have hl' : (lstU g k).length = k := by unfold lstU; rw [List.length_map, List.length_range]
    rw [upU_more, List.range_succ, List.filter_append, List.map_append, List.map_append, ih hl']
    congr 1
    cases e : g k with
    | none => rw [List.filter_cons_of_neg (by simp [e])]; rfl
    | some v => rw [List.filter_cons_of_pos (by simp [e])]; rfl
def upN (cs : List Ch) (b : Sh) (i : Nat) : Option Int := (dirN cs b (2 + ((i : Nat) : Int))).map (·.1)
theorem ups_eq (cs : List Ch) (b : Sh) : upsL cs b = upU (upN cs b) (b.d - 2).toNat := by
  unfold upsL dirsL upU upN
  rw [List.map_filterMap]
  congr 1
  funext i
  cases dirN cs b (2 + ((i : Nat) : Int)) <;> rfl
/-- the program's rings are the law's -/
theorem rings_eq (cs : List Ch) (b : Sh) (hd : 3 ≤ b.d ∧ b.d ≤ 6) : ringsP (upsL cs b) = isL (lawG (look (upsL cs b)) (b.d - 2).toNat (rngOf (b.d - 2).toNat)) := by
  unfold ringsP
  rw [rings_G, ups_eq, ← List.length_map (f := fun x : Int × Int => x.1) (as := upU _ _), keys_upU, step_upU]
  have hl : (lstU (upN cs b) (b.d - 2).toNat).length = (b.d - 2).toNat := by unfold lstU; rw [List.length_map, List.length_range]
  have := ring_same (l := lstU (upN cs b) (b.d - 2).toNat) (by omega) (by omega)
  rw [hl] at this
  exact this.symm
/-! ### units beneath a number, and their names -/
def benB (pl : Un → Option (Int × Int)) (n : Int) (u : Un) : Bool := match pl u with
  | none => false
  | some y => decide (y.1 = n)
theorem lookG_up : ∀ (g : Gr) (k : Int) (u : Un) (n : Int), lookG (upG g k u) n = if k = n then lookG g n ++ [u] else lookG g n := fun g k u n => by
  unfold upG
  by_cases c : (g.any fun x => decide (x.1 = k)) = true
  · rw [if_pos c]
    induction g with
    | nil => cases c
    | cons x g ih =>
      by_cases e : x.1 = n
      · have e1 : lookG (x :: g) n = x.2 := by unfold lookG; rw [List.find?_cons_of_pos (by simp [e])]; rfl
        rw [List.map_cons, e1]
        by_cases e2 : x.1 = k
        · rw [if_pos e2, if_pos (e2.symm.trans e)]
          unfold lookG; rw [List.find?_cons_of_pos (by simp [e])]; rfl
        · rw [if_neg e2, if_neg (fun z => e2 (e.trans z.symm))]
          unfold lookG; rw [List.find?_cons_of_pos (by simp [e])]; rfl
      · have e1 : lookG (x :: g) n = lookG g n := by unfold lookG; rw [List.find?_cons_of_neg (by simp [e])]
        have e3 : lookG ((x :: g).map fun x => if x.1 = k then (x.1, x.2 ++ [u]) else x) n = lookG (g.map fun x => if x.1 = k then (x.1, x.2 ++ [u]) else x) n := by
          rw [List.map_cons]
          unfold lookG
          rw [List.find?_cons_of_neg (by by_cases e2 : x.1 = k <;> simp [e2] <;> (first | exact fun z => e (e2.trans z) | exact e))]
        rw [e3, e1]
        by_cases c2 : (g.any fun x => decide (x.1 = k)) = true
        · exact ih c2
        · have hx : x.1 = k := by
            rw [List.any_cons] at c
            by_cases e2 : x.1 = k
            · exact e2
            · rw [decide_eq_false e2, Bool.false_or] at c
              exact absurd c c2
          have hid : (g.map fun x => if x.1 = k then (x.1, x.2 ++ [u]) else x) = g := by
            have h9 : ∀ y ∈ g, ¬ y.1 = k := fun y hy z => c2 (List.any_eq_true.mpr ⟨y, hy, decide_eq_true z⟩)
            exact (List.map_congr_left (g := id) fun y hy => if_neg (h9 y hy)).trans (List.map_id g)
          rw [hid, if_neg (fun z => e (hx.trans z))]
  · rw [if_neg c]
    unfold lookG
    rw [List.find?_append]
    by_cases e : k = n
    · have hno : (g.find? fun x => decide (x.1 = n)) = none := List.find?_eq_none.mpr fun x hx z => c (List.any_eq_true.mpr ⟨x, hx, by rw [e]; exact z⟩)
      rw [hno, if_pos e]
      simp [e]
    · rw [if_neg e]
      simp [e]
theorem look_grp (pl : Un → Option (Int × Int)) (n : Int) : ∀ l : List Un, lookG (grpN pl l) n = l.filter (benB pl n) := snoc_ind rfl fun l u ih => by
  rw [grp_more, List.filter_append]
  cases e : pl u with
  | none =>
    rw [List.filter_cons_of_neg (by unfold benB; rw [e]; exact Bool.false_ne_true)]
    simpa using ih
  | some y =>
    show lookG (upG (grpN pl l) y.1 u) n = _
    rw [lookG_up, ih]
    by_cases c : y.1 = n
    · rw [if_pos c, List.filter_cons_of_pos (by unfold benB; rw [e]; exact decide_eq_true c)]; rfl
    · rw [if_neg c, List.filter_cons_of_neg (by unfold benB; rw [e]; exact fun z => c (of_decide_eq_true z))]; simp
end Pf

set_option Elab.async false
set_option linter.all false
set_option maxRecDepth 100000
set_option maxHeartbeats 4000000
namespace Pf
open PySem PySem.Spec PyProof.Rows L2
/-- two ascending lists of the same members -/
theorem asc_eq {α : Type} {lt : α → α → Prop} (ir : ∀ a, ¬ lt a a) (as : ∀ a b, lt a b → ¬ lt b a) : ∀ {l m : List α}, l.Pairwise lt → m.Pairwise lt → (∀ x, x ∈ l ↔ x ∈ m) → l = m
  | [], [], _, _, _ => rfl
  | [], y :: m, _, _, h => absurd ((h y).mpr List.mem_cons_self) (by simp)
  | x :: l, [], _, _, h => absurd ((h x).mp List.mem_cons_self) (by simp)
  | x :: l, y :: m, h1, h2, h => by
    obtain ⟨a1, a2⟩ := List.pairwise_cons.mp h1
    obtain ⟨b1, b2⟩ := List.pairwise_cons.mp h2
    have e : x = y := by
      rcases List.mem_cons.mp ((h x).mp List.mem_cons_self) with e | m1
      · exact e
      · rcases List.mem_cons.mp ((h y).mpr List.mem_cons_self) with e | m2
        · exact e.symm
        · exact absurd (b1 x m1) (as _ _ (a1 y m2))
    subst e
    rw [asc_eq ir as a2 b2 fun z => ⟨fun hz => by
      rcases List.mem_cons.mp ((h z).mp (List.mem_cons_of_mem _ hz)) with e | m
      · rw [e] at hz; exact absurd (a1 x hz) (ir x)
      · exact m, fun hz => by
      rcases List.mem_cons.mp ((h z).mpr (List.mem_cons_of_mem _ hz)) with e | m
      · rw [e] at hz; exact absurd (b1 x hz) (ir x)
      · exact m⟩]
theorem lookP_add : ∀ (g : Gp) (y : Int × Int) (u : Un) (q : Int × Int), lookP (addP g y u) q = if y = q then lookP g q ++ [u] else lookP g q := fun g y u q => by
  unfold addP
  by_cases c : (g.any fun x => decide (x.1 = y)) = true
  · rw [if_pos c]
    induction g with
    | nil => cases c
    | cons x g ih =>
      by_cases e : x.1 = q
      · have e1 : lookP (x :: g) q = x.2 := by unfold lookP; rw [List.find?_cons_of_pos (by simp [e])]; rfl
        rw [List.map_cons, e1]
        by_cases e2 : x.1 = y
        · rw [if_pos e2, if_pos (e2.symm.trans e)]
          unfold lookP; rw [List.find?_cons_of_pos (by simp [e])]; rfl
        · rw [if_neg e2, if_neg (fun z => e2 (e.trans z.symm))]
          unfold lookP; rw [List.find?_cons_of_pos (by simp [e])]; rfl
      · have e1 : lookP (x :: g) q = lookP g q := by unfold lookP; rw [List.find?_cons_of_neg (by simp [e])]
        have e3 : lookP ((x :: g).map fun x => if x.1 = y then (x.1, x.2 ++ [u]) else x) q = lookP (g.map fun x => if x.1 = y then (x.1, x.2 ++ [u]) else x) q := by
          rw [List.map_cons]
          unfold lookP
          rw [List.find?_cons_of_neg (by
            by_cases e2 : x.1 = y
            · rw [if_pos e2]; simpa using e
            · rw [if_neg e2]; simpa using e)]
        rw [e3, e1]
        by_cases c2 : (g.any fun x => decide (x.1 = y)) = true
        · exact ih c2
        · have hx : x.1 = y := by
            rw [List.any_cons] at c
            by_cases e2 : x.1 = y
            · exact e2
            · rw [decide_eq_false e2, Bool.false_or] at c
              exact absurd c c2
          have hid : (g.map fun x => if x.1 = y then (x.1, x.2 ++ [u]) else x) = g := by
            have h9 : ∀ z ∈ g, ¬ z.1 = y := fun z hz w => c2 (List.any_eq_true.mpr ⟨z, hz, decide_eq_true w⟩)
            exact (List.map_congr_left (g := id) fun z hz => if_neg (h9 z hz)).trans (List.map_id g)
          rw [hid, if_neg (fun z => e (hx.trans z))]
  · rw [if_neg c]
    unfold lookP
    rw [List.find?_append]
    by_cases e : y = q
    · have hno : (g.find? fun x => decide (x.1 = q)) = none := List.find?_eq_none.mpr fun x hx z => c (List.any_eq_true.mpr ⟨x, hx, by rw [e]; exact z⟩)
      rw [hno, if_pos e]
      simp [e]
    · rw [if_neg e]
      simp [e]
theorem look_gs (pl : Un → Option (Int × Int)) (q : Int × Int) (hq : q.1 ≠ 1) : ∀ l : List Un, lookP (gsN pl l) q = l.filter fun u => decide (pl u = some q) := snoc_ind rfl fun l u ih => by
  rw [gs_more, List.filter_append]
  cases e : pl u with
  | none =>
    rw [List.filter_cons_of_neg (by rw [e]; simp)]
    simpa using ih
  | some y =>
    show lookP (if y.1 = 1 then gsN pl l else addP (gsN pl l) y u) q = _
    by_cases c1 : y.1 = 1
    · rw [if_pos c1, ih, List.filter_cons_of_neg (by rw [e]; intro z; have := Option.some.inj (of_decide_eq_true z); rw [this] at c1; exact hq c1)]
      simp
    · rw [if_neg c1, lookP_add, ih]
      by_cases c : y = q
      · rw [if_pos c, List.filter_cons_of_pos (by rw [e, c]; simp)]; rfl
      · rw [if_neg c, List.filter_cons_of_neg (by rw [e]; intro z; exact c (Option.some.inj (of_decide_eq_true z)))]; simp
theorem mem_gs (pl : Un → Option (Int × Int)) (q : Int × Int) : ∀ l : List Un, q ∈ (gsN pl l).map (·.1) ↔ q.1 ≠ 1 ∧ ∃ u ∈ l, pl u = some q := snoc_ind (by constructor <;> intro h; cases h; obtain ⟨_, u, hu, _⟩ := h; cases hu) fun l u ih => by
  rw [gs_more]
  have hext : (∃ v ∈ l ++ [u], pl v = some q) ↔ (∃ v ∈ l, pl v = some q) ∨ pl u = some q := by
    constructor
    · rintro ⟨v, hv, e⟩
      rcases List.mem_append.mp hv with m | m
      · exact .inl ⟨v, m, e⟩
      · rw [List.mem_singleton.mp m] at e; exact .inr e
    · rintro (⟨v, m, e⟩ | e)
      · exact ⟨v, by simp [m], e⟩
      · exact ⟨u, by simp, e⟩
  rw [hext]
  cases e : pl u with
  | none =>
    show q ∈ (gsN pl l).map (·.1) ↔ _
    rw [ih]
    simp
  | some y =>
    show q ∈ (if y.1 = 1 then gsN pl l else addP (gsN pl l) y u).map (·.1) ↔ _
    by_cases c1 : y.1 = 1
    · rw [if_pos c1, ih]
      constructor
      · exact fun h => ⟨h.1, .inl h.2⟩
      · rintro ⟨h, h2 | h2⟩
        · exact ⟨h, h2⟩
        · rw [← Option.some.inj h2] at h; exact absurd c1 h
    · rw [if_neg c1, addP_keys]
      split
      · rename_i ha
        obtain ⟨x, hx, ex⟩ := List.any_eq_true.mp ha
        have ex' : x.1 = y := of_decide_eq_true ex
        have hy : y ∈ (gsN pl l).map (·.1) := List.mem_map.mpr ⟨x, hx, ex'⟩
        rw [ih]
        constructor
        · exact fun h => ⟨h.1, .inl h.2⟩
        · rintro ⟨h, h2 | h2⟩
          · exact ⟨h, h2⟩
          · have e9 : y = q := Option.some.inj h2
            rw [e9] at hy
            exact ih.mp hy
      · rw [List.mem_append, ih, List.mem_singleton]
        constructor
        · rintro (h | h)
          · exact ⟨h.1, .inl h.2⟩
          · rw [h]; exact ⟨c1, .inr rfl⟩
        · rintro ⟨h, h2 | h2⟩
          · exact .inl ⟨h, h2⟩
          · exact .inr (Option.some.inj h2).symm
theorem fm_congr {α β : Type} {f g : α → Option β} : ∀ {l : List α}, (∀ x ∈ l, f x = g x) → l.filterMap f = l.filterMap g
  | [], _ => rfl
  | x :: l, h => by
    have h1 := h x List.mem_cons_self
    have h2 := fm_congr (l := l) fun y m => h y (List.mem_cons_of_mem _ m)
    cases e : g x with
    | none => rw [List.filterMap_cons_none (h1.trans e), List.filterMap_cons_none e, h2]
    | some y => rw [List.filterMap_cons_some (h1.trans e), List.filterMap_cons_some e, h2]
theorem leP_iff (a b : Int × Int) : leP a b = true ↔ a.1 < b.1 ∨ (a.1 = b.1 ∧ a.2 ≤ b.2) := by unfold leP; exact decide_eq_true_iff
theorem sort_keys {l : List (Int × Int)} (hn : l.Nodup) : (l.mergeSort leP).Pairwise fun a b => leP a b = true ∧ a ≠ b := by
  have h1 : (l.mergeSort leP).Pairwise fun a b => leP a b = true := List.pairwise_mergeSort (fun a b c h1 h2 => by rw [leP_iff] at *; omega) (fun a b => by
    have : leP a b = true ∨ leP b a = true := by rw [leP_iff, leP_iff]; omega
    rcases this with h | h <;> simp [h]) l
  have h2 : (l.mergeSort leP).Nodup := (List.mergeSort_perm l leP).nodup_iff.mpr hn
  exact h1.and h2
/-- the law's names -/
def lawD (pl : Un → Option (Int × Int)) (ben : List Un) (n nm : Int) : Option PyData := if 1 < (ben.filter fun u => decide ((pl u).map (·.2) = some nm)).length then some (dbD n nm (ben.filter fun u => decide ((pl u).map (·.2) = some nm))) else none
theorem doubles_eq (pl : Un → Option (Int × Int)) {ben : List Un} {n : Int} (hb : ∀ u ∈ ben, ∃ y, pl u = some y ∧ y.1 = n) {ns : List Int} (hs : ns.Pairwise (· < ·)) (hm : ∀ k : Int, k ∈ ns ↔ ∃ u ∈ ben, (pl u).map (·.2) = some k) :
    dbs (gsN pl ben) n = (if n ≠ 1 then ns else []).filterMap (lawD pl ben n) := by
  unfold dbs
  by_cases c : n = 1
  · have : (gsN pl ben).map (·.1) = [] := by
      apply List.eq_nil_iff_forall_not_mem.mpr
      intro q hq
      obtain ⟨h1, u, hu, e⟩ := (mem_gs pl q ben).mp hq
      obtain ⟨y, e2, e3⟩ := hb u hu
      rw [e2] at e
      rw [← Option.some.inj e, e3] at h1
      exact h1 c
    rw [this, if_neg (fun z => z c)]
    simp
  · rw [if_pos c]
    have hk : ((gsN pl ben).map (·.1)).mergeSort leP = ns.map fun k => (n, k) := by
      refine asc_eq (lt := fun a b => leP a b = true ∧ a ≠ b) (fun a h => h.2 rfl) (fun a b h1 h2 => ?_) (sort_keys (gs_nodup pl ben)) ?_ fun q => ?_
      · have g1 := h1.1
        have g2 := h2.1
        rw [leP_iff] at g1 g2
        exact h1.2 (Prod.ext (by omega) (by omega))
      · refine List.pairwise_map.mpr (hs.imp fun {a b} h => ⟨by rw [leP_iff]; exact .inr ⟨rfl, by show a ≤ b; omega⟩, fun z => ?_⟩)
        have := congrArg Prod.snd z
        simp only at this
        omega
      · rw [List.mem_mergeSort, mem_gs]
        constructor
        · rintro ⟨h1, u, hu, e⟩
          obtain ⟨y, e2, e3⟩ := hb u hu
          rw [e2] at e
          refine List.mem_map.mpr ⟨q.2, (hm q.2).mpr ⟨u, hu, by rw [e2, Option.some.inj e]; rfl⟩, ?_⟩
          rw [← e3, Option.some.inj e]
        · intro h
          obtain ⟨k, hk, rfl⟩ := List.mem_map.mp h
          obtain ⟨u, hu, e⟩ := (hm k).mp hk
          obtain ⟨y, e2, e3⟩ := hb u hu
          rw [e2] at e
          refine ⟨c, u, hu, ?_⟩
          rw [e2]
          exact congrArg some (Prod.ext e3 (Option.some.inj e))
    rw [hk, List.filterMap_map]
    refine fm_congr fun k hk' => ?_
    show dbF (gsN pl ben) n (n, k) = _
    have hf : lookP (gsN pl ben) (n, k) = ben.filter fun u => decide ((pl u).map (·.2) = some k) := by
      rw [look_gs pl (n, k) c]
      apply List.filter_congr
      intro u hu
      obtain ⟨y, e2, e3⟩ := hb u hu
      rw [e2]
      apply decide_eq_decide.mpr
      constructor
      · intro z; rw [Option.some.inj z]; rfl
      · intro z; exact congrArg some (Prod.ext e3 (Option.some.inj z))
    unfold dbF lawD
    rw [hf]
end Pf

set_option Elab.async false
set_option linter.all false
set_option maxRecDepth 100000
set_option maxHeartbeats 8000000
/-! ### the set of a list of ints -/
namespace L2
open PySem PySem.Spec PyProof.Rows
section
variable {P : Program} {w : World} {A : Around} {E : Value → Shared → Prop} {s : Shared}
/-- an empty set, new in the heap -/
abbrev mtSet (w : World) : Obj := { cls := .type "set", dict := none, data := .set #[] 0 (.fresh 0 0 (!w.params.followText "set-order")) }
theorem set_of_list {l : Addr} {xs : Array Value} (zs : List Int) {Q : Value → Shared → Prop} (nh : A.handled = none) (ol : s.heap.IsList l xs) (oz : IntsAre xs.toList zs) (few : zs.length + 1 < scanBound)
    (go : ∀ (hp : Heap) (tk k : Nat), SetR w hp s.heap.objs.size (fun j => decide (j ∈ zs)) k → k ≤ zs.length → (∀ b o, s.heap.get? b = some o → hp.get? b = some o) → Q (.ref s.heap.objs.size) { s with heap := hp, toks := tk }) :
    wpAny (model P w) A (call (.type "set") [.ref l]) Q E s := by
  have esz : xs.size = zs.length := (Array.length_toList (xs := xs)).symm.trans (IntsAre.length oz)
  obtain ⟨c0, tl0, mro0⟩ := F.called_set.mro
  have f1 := F.called_set.made
  have f2 := F.called_set.sub
  have f3 := F.called_set.notType
  have f4 := F.called_set.canCreate
  have f5 := F.typeCall_set_1 (.ref l)
  refine wpAny_call (codeAny_of_tree (show wpAny _ _ (callAny (.type "set") _) _ _ _ from ?_))
  refine wpAny_pure (And.intro (Code.quiet_builtin _ (by decide +kernel)) (codeAny_builtin F.entry_type_call ?_))
  rw [Around.under_plain (weight_type_call_type "set" [Value.ref l] []) rfl]
  repeat (any_goals (first | assumption | wp_step))
  -- the empty set is made
  refine codeAny_mono (code_set_led1 (.ref l) (E := E) (Q₁ := fun ob sa => ob = .ref s.heap.objs.size ∧ sa = { s with heap := s.heap.push (mtSet w) }) (And.intro rfl rfl)) fun ra sa ha => ?_
  match ra, ha with
  | .error _, ha => exact ha
  | .ok (.brk), ha => exact ha.elim
  | .ok (.cont), ha => exact ha.elim
  | .ok (.next), ha => exact ha.elim
  | .ok (.ret ob), ha =>
  obtain ⟨rfl, rfl⟩ := ha
  have eS : (s.heap.push (mtSet w)).get? s.heap.objs.size = some (mtSet w) := Heap.get?_push_size _ rfl
  have tS : Shared.TypeIs { s with heap := s.heap.push (mtSet w) } (.ref s.heap.objs.size) "set" := Exists.intro _ (And.intro eS rfl)
  have f6 := F.called_set.init.lookup
  have f7 := F.called_set.init.bind (.ref s.heap.objs.size)
  repeat (any_goals (first | assumption | wp_step))
  -- and filled
  refine codeAny_mono (codeAny_call_builtin (R := wants (fun rz sz => rz = .none ∧ ∃ hp tk k, sz = { s with heap := hp, toks := tk } ∧ SetR w hp s.heap.objs.size (fun j => decide (j ∈ zs)) k ∧ k ≤ zs.length ∧ (∀ b o, s.heap.get? b = some o → hp.get? b = some o)) E) F.called_set.init.plain F.entry_set_init (check_set_init_1 tS ?_)) fun rb sb hb => ?_
  · obtain ⟨⟨kc, kd, kx, ks⟩, ok1, ok2, nn, ok3⟩ := ol
    cases (show kc = _ from ok2)
    cases (show kx = _ from ok3)
    have ok4 : (s.heap.push (mtSet w)).get? l = some { cls := .type "list", dict := kd, data := .seq xs nn, slots := ks } := Heap.get?_push_of_some _ ok1
    have g1 := F.sub_list_set
    have g2 := F.sub_list_frozenset
    have g3 : (Value.type "list" == Value.type "dict") = false := by decide
    have ll : (s.heap.push (mtSet w)).IsList l xs := ⟨_, ok4, rfl, nn, rfl⟩
    have lt : l < s.heap.objs.size := Heap.lt_size ok1
    have szS : (s.heap.push (mtSet w)).objs.size = s.heap.objs.size + 1 := Heap.size_push _ _
    unfold Builtin.«set.__init__» noKeywords Builtin.Frozenset.updateFrom
    generalize epi : pyIter = pit
    wp_walk
    subst epi
    refine wpAny_pyIter_list ll (wpAny_bind (wpAny_runValue ?_))
    have nh3 : A.in1.in1.in1.handled = none := by simp [nh]
    have lI : l ≠ (s.heap.push (mtSet w)).objs.size := by rw [szS]; exact Nat.ne_of_lt (Nat.lt_succ_of_lt lt)
    have nF : s.heap.objs.size ∉ [(s.heap.push (mtSet w)).objs.size, l] := by
      intro z
      rcases List.mem_cons.mp z with z | z
      · rw [szS] at z
        exact absurd z (Nat.ne_of_lt (Nat.lt_succ_self _))
      · exact absurd (List.mem_singleton.mp z) (Nat.ne_of_gt lt)
    refine set_update_ints ((Walks.list nh3 _ l lI xs).toS) s.heap.objs.size nF zs esz few (fun i v e => ?_) (xs.size - 0) 0 _ (by omega) (Nat.zero_le _) (And.intro ⟨_, Heap.get?_push_size _ rfl, rfl, rfl⟩ (ll.push _)) ?_ ?_
    · have il : i < zs.length := by rw [← esz]; exact (Array.getElem?_eq_some_iff.mp e).1
      obtain ⟨t, et⟩ := IntsAre.int_at oz i v (by rw [Array.getElem?_toList]; exact e)
      exact ⟨zs[i], t, List.getElem?_eq_getElem il, by rw [et, List.getD_eq_getElem?_getD, List.getElem?_eq_getElem il] <;> rfl⟩
    · exact ⟨0, Nat.le_refl 0, setR_new_at (show ((s.heap.push (mtSet w)).push { cls := .type "list_iterator", data := .fields #[.ref l, .int 0 0] }).get? s.heap.objs.size = some (mtSet w) from Heap.get?_push_of_some _ eS)⟩
    · intro sz k mv hk hS
      obtain ⟨hz, gz, dz, tz, oz'⟩ := sz
      have k1 : gz = s.gens := mv.gens
      have k2 : dz = s.drawn := mv.drawn
      have k3 : oz' = s.os := mv.os
      subst k1 k2 k3
      refine wpAny_pure (show wpAny _ _ (ret Value.none) _ _ _ from wpAny_pure (And.intro rfl ⟨hz, tz, k, rfl, hS, by omega, fun b o e => ?_⟩))
      have bl : b < s.heap.objs.size := Heap.lt_size e
      refine mv.heap b o (fun z => ?_) (Heap.get?_push_of_some _ (Heap.get?_push_of_some _ e))
      rcases List.mem_cons.mp z with z | z
      · exact absurd z (Nat.ne_of_lt bl)
      · have z' := List.mem_singleton.mp z
        rw [szS] at z'
        exact absurd z' (Nat.ne_of_lt (Nat.lt_succ_of_lt bl))
  · match rb, hb with
    | .error _, hb => exact hb
    | .ok (.brk), hb => exact hb.elim
    | .ok (.cont), hb => exact hb.elim
    | .ok (.next), hb => exact hb.elim
    | .ok (.ret _), hb =>
      obtain ⟨rfl, hp, tk, k, rfl, hS, hk, kp⟩ := hb
      repeat (any_goals (first | assumption | wp_step))
      exact go hp tk k hS hk kp
end
section
variable {X : Cx}
/-- set(xs), a list of ints -/
def rSetIL (K : PySem.W.Frag) (w : World) : List V → Hp → VK → Prop := fun vs H Q => ∃ (p : Addr) (ns : List Int), vs = [V.ref p] ∧ SqL K H p (ns.map V.int) ∧ ns.length ≤ 1000 ∧ ∀ (a : Addr) (k : Nat), H a = none → k ≤ ns.length → Q (.ref a) (upd H a (SetO w a (fun j => decide (j ∈ ns)) k))
theorem cr_setIL (hc : X.calm = true) : CallR X (.type "set") (rSetIL X.K X.w) := by
  intro pins s σ H vs us Q I r h
  obtain ⟨p, ns, rfl, hs, hn, q⟩ := h
  rw [Vals.ref1 r]
  obtain ⟨its, rv, pl, hz⟩ := I.list hs
  refine set_of_list ns (I.ok.hd hc) pl.isList (by simpa using rv.ints) (by unfold scanBound; omega) fun hp tk k hS hk kp => ?_
  exact ⟨.ref _, upd H s.heap.objs.size (SetO X.w s.heap.objs.size (fun j => decide (j ∈ ns)) k), I.laid (t' := tk) kp (Nat.le_refl _) (setO_new hS), rfl, q _ k (I.hok.fresh (Nat.le_refl _)) hk⟩
end
end L2

set_option Elab.async false
set_option linter.all false
set_option maxRecDepth 100000
set_option maxHeartbeats 4000000
namespace Pf
open PySem PySem.Spec PyProof.Rows L2
/-! ### the law's faults -/
abbrev NLf : List Str := ["shape", "told", "units", "found", "unit", "number", "beneath", "names", "name", "row", "rings", "way", "here", "ring"]
theorem scLfa : FnScope NLf ["shape", "told", "units"] (defScope sLfa) := ⟨rfl, rfl, rfl, by decide +kernel, rfl, by decide +kernel, by decide +kernel⟩
def forBody : Stmt → List Stmt
  | .For _ _ b _ _ => b
  | _ => []
abbrev stF (j : Nat) : Stmt := (defBody sLfa).getD j (.Pass ⟨0, 0, 0, 0⟩)
abbrev stF1 (j : Nat) : Stmt := (forBody (stF 1)).getD j (.Pass ⟨0, 0, 0, 0⟩)
abbrev XF (P : Program) (w : World) (K : PySem.W.Frag) (mg : Str → Option Value) (base : Heap) (f : Addr) (cdv : Value) (A : Around) (outer : List Env) (s : Shared) (H0 : Hp) (E : XK) : Cx := (cxOf CX0 P w K mg base NLf "_law_faults" (defScope sLfa) f cdv A outer s H0 E).nox
theorem lookA_told {f : Un → PyData} : ∀ {l : List Un} {u : Un}, u ∈ l → lookA (l.map fun u => (u, f u)) u = some (f u)
  | [], u, h => by cases h
  | x :: l, u, h => by
    rw [List.map_cons]
    by_cases c : x = u
    · subst c
      exact lookA_pos (x := (x, f x)) rfl
    · rw [lookA_neg (x := (x, f x)) c]
      rcases List.mem_cons.mp h with e | m
      · exact absurd e.symm c
      · exact lookA_told m
/-- what the law was told of the units' places -/
def ToldAt (H : Hp) (D : Addr) (cs : List Ch) (b : Sh) : Prop := ∃ kvs, H D = some (.dT kvs) ∧ DD H kvs uK ((unitsL b).map fun u => (u, plD (placeN cs b u)))
theorem ToldAt.same {H H' : Hp} {D : Addr} {cs : List Ch} {b : Sh} (T : ToldAt H D cs b) (s : Same H H') : ToldAt H' D cs b := let ⟨kvs, e, d⟩ := T; ⟨kvs, s _ _ e, d.fr (tu_same s)⟩
theorem uK_inj' : ∀ a b : Un, uK a = uK b → a = b := fun _ _ h => uK_inj h
theorem ToldAt.get {H : Hp} {D t : Addr} {cs : List Ch} {b : Sh} {u : Un} (T : ToldAt H D cs b) (hu : u ∈ unitsL b) (et : H t = some (.tup (uV u))) : ∃ v, DGet H D (.ref t) (some v) ∧ Dp [] (Tu H) v (plD (placeN cs b u)) := by
  obtain ⟨kvs, e, d⟩ := T
  obtain ⟨v, hv, dv⟩ := (d.get uK_inj' u).2 _ (lookA_told (f := fun u => plD (placeN cs b u)) hu)
  exact ⟨v, by rw [← hv]; exact DGet.t (k := uK u) e et, dv⟩
theorem dir_unit {b : Sh} {n : Int} (h0 : 2 ≤ n) (h1 : n < b.d) : ((true, n) : Un) ∈ unitsL b := by
  unfold unitsL dUn
  refine List.mem_append_left _ (List.mem_map.mpr ⟨(n - 2).toNat, List.mem_range.mpr (by omega), ?_⟩)
  exact Prod.ext rfl (by show 2 + (((n - 2).toNat : Nat) : Int) = n; omega)
theorem uS_ok (u : Un) : PyData.strOk (uS u) = true := by
  obtain ⟨k, n⟩ := u
  cases k
  · show PyData.strOk "row" = true
    decide +kernel
  · show PyData.strOk "dir" = true
    decide +kernel
theorem lay_uns : ∀ l : List Un, PyData.canLayAll0 (l.map uD) = true
  | [] => by simp [PyData.canLayAll0]
  | u :: l => by simp [PyData.canLayAll0, PyData.canLay0, uD, lay_uns l, uS_ok]
theorem dep_uns : ∀ l : List Un, PyData.depthAll (l.map uD) ≤ 1
  | [] => by simp [PyData.depthAll]
  | u :: l => by
    have := dep_uns l
    simp only [List.map_cons, PyData.depthAll, uD, PyData.depth]
    omega
theorem eqvAll_nil : ∀ {ds : List PyData}, ds ≠ [] → PyData.eqvAll ds [] = false
  | [], h => absurd rfl h
  | d :: ds, _ => by simp [PyData.eqvAll]
def tNms : TE := fun σ H Q => ∃ (n : Int) (NL : Addr) (ns : List Int), σ[5]? = some (some (.int n)) ∧ σ[7]? = some (some (.ref NL)) ∧ H NL = some (.lst (ns.map V.int)) ∧ ∀ L' H', Same H H' → (L' = NL ∨ H L' = none) → H' L' = some (.lst ((if n ≠ 1 then ns else []).map V.int)) → Q (.ref L') H'
abbrev SF (sa TD LU RF : Addr) (y5 y6 y7 y8 y9 y10 y11 y12 : Option V) : L2.St := [some (.ref sa), some (.ref TD), some (.ref LU), some (.ref RF), none, y5, y6, y7, y8, y9, y10, y11, y12, none]
section
variable {P : Program} {w : World} {K : PySem.W.Frag} {mg : Str → Option Value} {base : Heap} {C : Addr} {f : Addr} {cdv : Value} {A : Around} {outer : List Env} {s : Shared} {H0 : Hp} {E : XK}
def nameN (cs : List Ch) (b : Sh) (u : Un) : Int := ((placeN cs b u).map (·.2)).getD 0
abbrev benL (cs : List Ch) (b : Sh) (n : Int) : List Un := (unitsL b).filter (benB (placeN cs b) n)
theorem ben_in {cs : List Ch} {b : Sh} {n : Int} {u : Un} (h : u ∈ benL cs b n) : u ∈ unitsL b ∧ ∃ y, placeN cs b u = some y ∧ y.1 = n := by
  obtain ⟨h1, h2⟩ := List.mem_filter.mp h
  refine ⟨h1, ?_⟩
  unfold benB at h2
  cases e : placeN cs b u with
  | none => rw [e] at h2; cases h2
  | some y => rw [e] at h2; exact ⟨y, rfl, of_decide_eq_true h2⟩
/-- names, and the doubles of a number -/
theorem lf_names (mse : mg "set" = none) (mso : mg "sorted" = none) (ml : mg "len" = none) (mt : mg "tuple" = none) (hr : Room 1 (A.deeper (envOfC "_law_faults" (defScope sLfa) s.heap.objs.size f cdv))) :
    ∃ t, PSs (XF P w K mg base f cdv A outer s H0 E) ((forBody (stF 1)).drop 2) t ∧ ∀ (D : Ends) (H H3 : Hp) (sa TD LU RF BN : Addr) (b : Sh) (cs : List Ch) (acc : List PyData) (n : Int) (y7 y8 y9 : Option V), Same H H3 → H RF = none → BN ≠ RF → acc.length ≤ 5000 →
      LsU H3 RF acc → ToldAt H TD cs b → LsU H3 BN ((benL cs b n).map uD) → (benL cs b n).length ≤ 60 →
      (∀ y7 y8 y9 H4, Same H H4 → LsU H4 RF (acc ++ dbs (gsN (placeN cs b) (benL cs b n)) n) → D.nx (SF sa TD LU RF (some (.int n)) (some (.ref BN)) y7 y8 y9 none none none) H4) → t D (SF sa TD LU RF (some (.int n)) (some (.ref BN)) y7 y8 y9 none none none) H3 := by
  have nd := scLfa.nd
  have hu := hu_of hr
  have nm9 : ∀ (σ : L2.St) (H : Hp) (Q : VK), tNms σ H Q → tIf (tTest (tOp rNe (tVar 5) (tC (.int 1)))) (tVar 7) (tLst tNil) σ H Q := by
    rintro σ H Q ⟨n, NL, ns, e5, e7, eN, q⟩
    refine ⟨_, e5, rfl, _, rfl, ?_⟩
    by_cases c : n = 1
    · rw [decide_eq_true (by rw [c])]
      refine iteF ⟨Nat.zero_le _, fun l hl => q l _ (same_upd hl) (.inr hl) ?_⟩
      rw [upd_same, if_neg (fun z => z c)]
      rfl
    · rw [decide_eq_false (fun z => c (V.int.inj z))]
      refine iteT ⟨_, e7, q NL H (Same.refl _) (.inl rfl) ?_⟩
      rw [if_pos c]
      exact eN
  refine ⟨_, pss_cons (ps_set (i := 7) nd rfl (.inl rfl) (pe_callB (cr_sortedSet rfl) (by rfl) mso (by decide +kernel) (pa_cons (pe_callTy (cr_setIL rfl) (by rfl) mse boot_set (pa_cons
        (pe_lc (own := [("unit", 4)]) (g := gName 4) (tt := tYes) (te := tOp (rIxT K) (tDGet (tVar 1) (tVar 4)) (tC (.int 1))) rfl nd (pi_list (pv 6)) (blkOk_by (N := NLf) (sc := defScope sLfa) (by decide +kernel))
          (fun _ _ _ _ _ => pg_name (i := 4) nd rfl (.inl rfl)) (fun _ _ _ _ _ => pts_nil)
          (fun _ _ _ _ _ => pe_ix ix_tup (pe_dget hu (pv 1) (pv 4) (fun _ _ => rfl)) pe_int (fun _ _ => rfl))) pa_nil)) pa_nil)))
    (pss_one (ps_for PassesOwn.never rfl (pi_list (pe_imp (t' := tNms) (pe_ifExp (pt_cmpR op_ne (pv 5) pe_int (nomark _)) (pv 7) (pe_lst pa_nil)) nm9)) (pg_name (i := 8) nd rfl (.inr rfl))
      (pss_cons (ps_setLc (i := 9) (own := [("unit", 4)]) (g := gName 4) (tt := tTest (tOp rEq (tOp (rIxT K) (tDGet (tVar 1) (tVar 4)) (tC (.int 1))) (tVar 8))) (te := tVar 4) (by rfl) nd rfl rfl (sw_true rfl rfl rfl (by decide +kernel)) (pi_list (pv 6)) (blkOk_by (N := NLf) (sc := defScope sLfa) (by decide +kernel))
          (fun _ _ _ _ _ => pg_name (i := 4) nd rfl (.inl rfl)) (fun _ _ _ _ _ => pts_one (pt_cmpR op_eq (pe_ix ix_tup (pe_dget hu (pv 1) (pv 4) (fun _ _ => rfl)) pe_int (fun _ _ => rfl)) (pv 8) (nomark _)))
          (fun _ _ _ _ _ => pv 4))
      (pss_one (ps_if (pt_cmpR op_gt (pe_callB call_len_seq (by rfl) ml boot_len (pa_cons (pv 9) pa_nil)) pe_int (nomark _))
        (pss_one (ps_expr (pe_bm PySem.F.plainAttrs_list PySem.F.slot_list_append PySem.F.type_list_append mt_append (pv 3) (pa_cons (pe_tup (pa_cons pe_str (pa_cons (pv 5) (pa_cons (pv 8) (pa_cons (pe_callTy call_tuple_of (by rfl) mt boot_tuple (pa_cons (pv 9) pa_nil)) pa_nil))))) pa_nil)))) pss_nil))))), fun D H H3 sa TD LU RF BN b cs acc n y7 y8 y9 s3 hRF nBR hacc LR TA LB hbl nx => ?_⟩
  obtain ⟨ub, eb, db⟩ := id LB
  have hubl := dps_len db
  rw [List.length_map] at hubl
  refine ⟨_, rfl, BN, rfl, ⟨ub, SqL.of eb⟩, fun L1 hL1 => ?_⟩
  refine lc_list (K := K) (a := BN) (xs := ub) (fun i H' => Same H3 H' ∧ H' L1 = some (.lst ((((benL cs b n).take i).map (nameN cs b)).map V.int))) ⟨same_upd hL1, upd_same⟩ (fun i H2 _ z => SqL.of (z.1 _ _ eb)) ?_ ?_
  · rintro i x H' hi ⟨s4, eL⟩
    obtain ⟨u, hu', hd⟩ := dpu_at db hi
    obtain ⟨t, rfl, et⟩ := dpu_un hd
    have hil := (List.getElem?_eq_some_iff.mp hu').1
    obtain ⟨hun, y, hy, hyn⟩ := ben_in (List.mem_of_getElem? hu')
    obtain ⟨v, hg, dv⟩ := (TA.same (s3.trans s4)).get hun (s4 _ _ et)
    rw [hy] at dv
    obtain ⟨q, rfl, eq⟩ := dpu_place dv
    refine ⟨rfl, tyes_go ⟨_, rfl, _, rfl, TD, _, rfl, hg, q, _, 1, _, rfl, rfl, SqT.of eq, atI_nat (j := 1) rfl, _, eL, ?_, fun c o e => by rw [upd_ne (ne_of_none e hL1)]; exact s4 _ _ e, ?_⟩⟩
    · rw [List.length_map, List.length_map, List.length_take, sizeLine_eq]; omega
    · rw [upd_same, List.take_succ, hu', List.map_append, List.map_append]
      have : nameN cs b u = y.2 := by unfold nameN; rw [hy]; rfl
      show some (HO.lst (_ ++ [V.int y.2])) = some (HO.lst (_ ++ [V.int (nameN cs b u)]))
      rw [this]
  · rintro H4 ⟨s4, eL⟩
    rw [hubl, List.take_length] at eL
    refine ⟨L1, (benL cs b n).map (nameN cs b), rfl, SqL.of eL, by rw [List.length_map]; omega, fun as ks has hks => ?_⟩
    rw [List.length_map] at hks
    have s5 := same_upd (o := SetO (XF P w K mg base f cdv A outer s H0 E).w as (fun j => decide (j ∈ (benL cs b n).map (nameN cs b))) ks) has
    refine ⟨as, _, ks, rfl, upd_same, by omega, fun ns p hsrt hmem hnl hp => ?_⟩
    have s6 := same_upd (o := .lst (ns.map V.int)) hp
    have npR : p ≠ RF := fun z => by obtain ⟨us, e, _⟩ := LR.same (s4.trans s5); rw [← z, hp] at e; cases e
    have s36 := ((s3.trans s4).trans s5).trans s6
    have s46 := (s4.trans s5).trans s6
    have eN := (upd_same : upd (upd H4 as (SetO (XF P w K mg base f cdv A outer s H0 E).w as (fun j => decide (j ∈ (benL cs b n).map (nameN cs b))) ks)) p (.lst (ns.map V.int)) p = some (.lst (ns.map V.int)))
    generalize upd (upd H4 as (SetO (XF P w K mg base f cdv A outer s H0 E).w as (fun j => decide (j ∈ (benL cs b n).map (nameN cs b))) ks)) p (.lst (ns.map V.int)) = H5 at s6 s36 s46 eN ⊢
    have hmem' : ∀ k : Int, k ∈ ns ↔ ∃ u ∈ benL cs b n, (placeN cs b u).map (·.2) = some k := fun k => by
      rw [hmem k, decide_eq_true_iff]
      constructor
      · intro h
        obtain ⟨u, hu', e⟩ := List.mem_map.mp h
        obtain ⟨_, y, hy, _⟩ := ben_in hu'
        refine ⟨u, hu', ?_⟩
        unfold nameN at e
        rw [hy] at e ⊢
        exact congrArg some e
      · rintro ⟨u, hu', e⟩
        refine List.mem_map.mpr ⟨u, hu', ?_⟩
        unfold nameN
        rw [e]
        rfl
    have hdb := doubles_eq (placeN cs b) (ben := benL cs b n) (n := n) (fun u hu' => (ben_in hu').2) hsrt hmem'
    rw [hdb] at nx
    refine ⟨n, p, ns, rfl, rfl, eN, fun LN H6 s67 hLNn eLN => ?_⟩
    have hnl2 : (if n ≠ 1 then ns else []).length ≤ 60 := by split; omega; exact Nat.zero_le _
    generalize (if n ≠ 1 then ns else []) = ms at eLN nx hnl2
    have LB6 := LB.same (s46.trans s67)
    have LR6 := LR.same (s46.trans s67)
    have s06 := s36.trans s67
    have nLR : LN ≠ RF := fun z => by
      rcases hLNn with e | e
      · exact npR (e ▸ z)
      · obtain ⟨us, e2, _⟩ := LR.same s46
        rw [← z, e] at e2
        cases e2
    refine ⟨LN, rfl, ⟨_, SqL.of eLN⟩, for_list (K := K) (a := LN) (xs := ms.map V.int) (fun i σ H' => ∃ y8 y9, σ = SF sa TD LU RF (some (.int n)) (some (.ref BN)) (some (.ref p)) y8 y9 none none none ∧ Same H H' ∧ Fr [RF] H6 H' ∧ LsU H' RF (acc ++ (ms.take i).filterMap (lawD (placeN cs b) (benL cs b n) n))) ⟨_, _, rfl, s06, .of (Same.refl _), by simpa using LR6⟩ (fun i σ H' _ z => by
      obtain ⟨_, _, _, _, f6, _⟩ := z
      exact SqL.of (f6.at eLN (by simp [nLR]))) ?_ ?_⟩
    · rintro j x σ H7 hj ⟨y8, y9, rfl, s7, f7, LR7⟩
      obtain ⟨nm, hnm, rfl⟩ : ∃ nm, ms[j]? = some nm ∧ x = V.int nm := by
        rw [List.getElem?_map] at hj
        cases e : ms[j]? with
        | none => rw [e] at hj; cases hj
        | some y => rw [e] at hj; exact ⟨y, rfl, (Option.some.inj hj).symm⟩
      have hjl := (List.getElem?_eq_some_iff.mp hnm).1
      rw [fmap_take hnm]
      have LB7 := LB6.fr f7 (by simp [nBR])
      obtain ⟨ub7, eb7, db7⟩ := id LB7
      have hub7 := dps_len db7
      rw [List.length_map] at hub7
      refine ⟨_, rfl, BN, rfl, ⟨ub7, SqL.of eb7⟩, fun L2 hL2 => lc_list (K := K) (a := BN) (xs := ub7) (fun i H' => Same H7 H' ∧ LsU H' L2 ((((benL cs b n).take i).filter fun u => decide ((placeN cs b u).map (·.2) = some nm)).map uD)) ⟨same_upd hL2, ⟨[], upd_same, .nil⟩⟩ (fun i H2 _ z => SqL.of (z.1 _ _ eb7)) ?_ ?_⟩
      · rintro i x H' hi ⟨s8, LL⟩
        obtain ⟨vs, eV, dV⟩ := id LL
        have hvl := dps_len dV
        rw [List.length_map] at hvl
        obtain ⟨u, hu', hd⟩ := dpu_at db7 hi
        obtain ⟨t, rfl, et⟩ := dpu_un hd
        have hil := (List.getElem?_eq_some_iff.mp hu').1
        obtain ⟨hun, y, hy, hyn⟩ := ben_in (List.mem_of_getElem? hu')
        obtain ⟨v, hg, dv⟩ := (TA.same (s7.trans s8)).get hun (s8 _ _ et)
        rw [hy] at dv
        obtain ⟨q, rfl, eq⟩ := dpu_place dv
        have T1 := filter_take (p := fun u => decide ((placeN cs b u).map (·.2) = some nm)) hu'
        have hfl : (((benL cs b n).take i).filter fun u => decide ((placeN cs b u).map (·.2) = some nm)).length ≤ i := Nat.le_trans (List.length_filter_le _ _) (by rw [List.length_take]; omega)
        refine ⟨rfl, _, rfl, _, rfl, TD, _, rfl, hg, q, _, 1, _, rfl, rfl, SqT.of eq, atI_nat (j := 1) rfl, _, rfl, rfl, _, rfl, ite2 (fun c => ?_) (fun c => ?_)⟩
        · have c' : decide ((placeN cs b u).map (·.2) = some nm) = true := by
            rw [hy]
            exact decide_eq_true (congrArg some (V.int.inj (of_decide_eq_true c)))
          refine ⟨_, rfl, vs, eV, by rw [sizeLine_eq]; omega, fun c o e => by rw [upd_ne (ne_of_none e hL2)]; exact s8 _ _ e, ?_⟩
          rw [T1, if_pos c', List.map_append]
          exact LsU.push eV dV (dpu_ofun (s8 _ _ et))
        · have c' : ¬ decide ((placeN cs b u).map (·.2) = some nm) = true := by
            rw [hy]
            exact fun z => c (decide_eq_true (congrArg V.int (Option.some.inj (of_decide_eq_true z))))
          refine ⟨s8, ?_⟩
          rw [T1, if_neg c', List.append_nil]
          exact LL
      · rintro H8 ⟨s8, LL⟩
        rw [hub7, List.take_length] at LL
        obtain ⟨vs, eV, dV⟩ := id LL
        have hvl := dps_len dV
        rw [List.length_map] at hvl
        have s78 := s7.trans s8
        have LR8 := LR7.same s8
        have f78 := f7.trans (Fr.of (cs := [RF]) s8)
        obtain ⟨us, eR, dR⟩ := id LR8
        have hul := dps_len dR
        have hfm : ((ms.take j).filterMap (lawD (placeN cs b) (benL cs b n) n)).length ≤ j := Nat.le_trans (List.length_filterMap_le _ _) (by rw [List.length_take]; omega)
        rw [List.length_append] at hul
        refine ⟨_, rfl, L2, vs, rfl, .inl (SqL.of eV), _, _, rfl, rfl, _, rfl, ?_⟩
        rw [hvl]
        by_cases c : 1 < ((benL cs b n).filter fun u => decide ((placeN cs b u).map (·.2) = some nm)).length
        · rw [decide_eq_true (by omega)]
          have hld : lawD (placeN cs b) (benL cs b n) n nm = some (dbD n nm ((benL cs b n).filter fun u => decide ((placeN cs b u).map (·.2) = some nm))) := by unfold lawD; rw [if_pos c]
          refine iteT ⟨_, rfl, .inl ⟨rfl, _, SqL.of eR⟩, _, rfl, _, rfl, _, rfl, L2, vs, rfl, .inl ⟨SqL.of eV, fun t1 ht1 => ⟨(by show 4 ≤ sizeLine; decide), fun q hq' => ?_⟩⟩⟩
          have z1 := same_upd (o := .tup vs) ht1
          have z2 := same_upd (o := .tup [V.str "double", .int n, .int nm, .ref t1]) hq'
          have g1 : upd H8 t1 (.tup vs) t1 = some (.tup vs) := upd_same
          have g1' := z2 _ _ g1
          have g2 : upd (upd H8 t1 (.tup vs)) q (.tup [V.str "double", .int n, .int nm, .ref t1]) q = some (.tup [V.str "double", .int n, .int nm, .ref t1]) := upd_same
          have z12 := z1.trans z2
          have eR9 := z12 _ _ eR
          have dV9 := dps_same (tu_same z12) _ _ dV
          have dR9 := dps_same (tu_same z12) _ _ dR
          have s79 := s78.trans z12
          have f79 := f78.trans (Fr.of (cs := [RF]) z12)
          generalize upd (upd H8 t1 (.tup vs)) q (.tup [V.str "double", .int n, .int nm, .ref t1]) = H9 at g1' g2 eR9 dV9 dR9 s79 f79 z2 z12 ⊢
          refine ⟨RF, us, .ref q, rfl, rfl, eR9, by rw [hul, sizeLine_eq]; omega, ?_⟩
          have fW : Fr [RF] H9 (upd H9 RF (.lst (us ++ [.ref q]))) := .put (by simp) fun o z => by rw [eR9] at z; cases z; rfl
          refine ⟨_, _, rfl, fun c o e => by rw [upd_ne (ne_of_none e hRF)]; exact s79 _ _ e, f79.trans fW, ?_⟩
          rw [hld]
          show LsU _ _ (_ ++ (_ ++ [dbD n nm ((benL cs b n).filter fun u => decide ((placeN cs b u).map (·.2) = some nm))]))
          rw [← List.append_assoc]
          exact LsU.push eR9 dR9 (.tup (SqT.of (tu_at g2)) (.cons (.str _) (.cons (.int _) (.cons (.int _) (.cons (.tup (SqT.of (tu_at g1')) dV9) .nil)))))
        · rw [decide_eq_false (by omega)]
          have hld : lawD (placeN cs b) (benL cs b n) n nm = none := by unfold lawD; rw [if_neg c]
          refine iteF ⟨_, _, rfl, s78, f78, ?_⟩
          rw [hld]
          show LsU _ _ (_ ++ (_ ++ []))
          rw [List.append_nil]
          exact LR8
    · rintro σ H7 ⟨y8, y9, rfl, s7, f7, LR7⟩
      rw [List.length_map, List.take_length] at LR7
      exact nx _ _ _ H7 s7 LR7
end
end Pf

set_option Elab.async false
set_option linter.all false
set_option maxRecDepth 100000
set_option maxHeartbeats 4000000
namespace Pf
open PySem PySem.Spec PyProof.Rows L2
section
variable {P : Program} {w : World} {K : PySem.W.Frag} {mg : Str → Option Value} {base : Heap} {C : Addr} {f : Addr} {cdv : Value} {A : Around} {outer : List Env} {s : Shared} {H0 : Hp} {E : XK} {rest : List Stmt} {u : TS}
def accL (cs : List Ch) (b : Sh) (i : Nat) : List PyData := (wrongL cs b).map wrD ++ (List.range i).flatMap fun j => fbL cs b ((j : Nat) : Int) (benL cs b ((j : Nat) : Int))
theorem ben_len (cs : List Ch) (b : Sh) (n : Int) : (benL cs b n).length ≤ (unitsL b).length := List.length_filter_le _ _
theorem accL_len (cs : List Ch) (b : Sh) : ∀ i : Nat, (accL cs b i).length ≤ 98 + 99 * i
  | 0 => by
    unfold accL
    have := units_len b
    have h2 : (wrongL cs b).length ≤ (unitsL b).length := List.length_filter_le _ _
    simp
    omega
  | i + 1 => by
    have h1 := accL_len cs b i
    have h2 := fb_len cs b ((i : Nat) : Int) (benL cs b ((i : Nat) : Int))
    have h3 := ben_len cs b ((i : Nat) : Int)
    have h4 := units_len b
    unfold accL at h1 ⊢
    rw [List.range_succ, List.flatMap_append]
    simp only [List.flatMap_cons, List.flatMap_nil, List.append_nil, List.length_append] at h1 ⊢
    omega
theorem lf_first (T : ShTxt K C) (mse : mg "set" = none) (mso : mg "sorted" = none) (ml : mg "len" = none) (mt : mg "tuple" = none) (mr : mg "range" = none) (hr : Room 1 (A.deeper (envOfC "_law_faults" (defScope sLfa) s.heap.objs.size f cdv))) (hU : PSs (XF P w K mg base f cdv A outer s H0 E) rest u) :
    ∃ t, PSs (XF P w K mg base f cdv A outer s H0 E) (stF 0 :: stF 1 :: rest) t ∧ ∀ (D : Ends) (H : Hp) (sa TD LU : Addr) (b : Sh) (cs : List Ch), ShAt C H sa b → ToldAt H TD cs b → LsU H LU ((unitsL b).map uD) → (unitsL b).length ≤ 60 →
      (∀ RF y5 y6 y7 y8 y9 H', Same H H' → H RF = none → LsU H' RF (accL cs b b.d.toNat) → u D (SF sa TD LU RF y5 y6 y7 y8 y9 none none none) H') → t D (start NLf [V.ref sa, V.ref TD, V.ref LU]) H := by
  have nd := scLfa.nd
  have hu := hu_of hr
  obtain ⟨t1, ht1, hq1⟩ := lf_names (P := P) (w := w) (K := K) (mg := mg) (base := base) (f := f) (cdv := cdv) (A := A) (outer := outer) (s := s) (H0 := H0) (E := E) mse mso ml mt hr
  refine ⟨_, pss_cons (ps_setLc (i := 3) (own := [("unit", 4)]) (g := gName 4) (tt := tAnd (tTest (tOp rNN (tDGet (tVar 1) (tVar 4)) (tC .non))) (tTest (tOp rGEq (tOp (rIxT K) (tDGet (tVar 1) (tVar 4)) (tC (.int 0))) (tFld K (tVar 0) "dirs")))) (te := tTup (tCons (tC (.str "wrong")) (tCons (tVar 4) tNil))) (by rfl) nd rfl rfl (sw_true rfl rfl rfl (by decide +kernel)) (pi_list (pv 2)) (blkOk_by (N := NLf) (sc := defScope sLfa) (by decide +kernel))
          (fun _ _ _ _ _ => pg_name (i := 4) nd rfl (.inl rfl)) (fun _ _ _ _ _ => pts_one (by exact (PW.pt (pw_and (pt_cmpR op_notN (pe_dget hu (pv 1) (pv 4) (fun _ _ => rfl)) pe_non (nomark _)) (pw_and1 (pt_cmpR op_ge (pe_ix ix_tup (pe_dget hu (pv 1) (pv 4) (fun _ _ => rfl)) pe_int (fun _ _ => rfl)) (pe_fld (pv 0) rfl) (nomark _)))))))
          (fun _ _ _ _ _ => pe_tup (pa_cons pe_str (pa_cons (pv 4) pa_nil))))
    (pss_cons (ps_for PassesOwn.never rfl (pi_range1 (by rfl) mr (pa_cons (pe_fld (pv 0) rfl) pa_nil)) (pg_name (i := 5) nd rfl (.inr rfl))
      (pss_cons (ps_setLc (i := 6) (own := [("unit", 4)]) (g := gName 4) (tt := tAnd (tTest (tOp rNN (tDGet (tVar 1) (tVar 4)) (tC .non))) (tTest (tOp rEq (tOp (rIxT K) (tDGet (tVar 1) (tVar 4)) (tC (.int 0))) (tVar 5)))) (te := tVar 4) (by rfl) nd rfl rfl (sw_true rfl rfl rfl (by decide +kernel)) (pi_list (pv 2)) (blkOk_by (N := NLf) (sc := defScope sLfa) (by decide +kernel))
          (fun _ _ _ _ _ => pg_name (i := 4) nd rfl (.inl rfl)) (fun _ _ _ _ _ => pts_one (by exact (PW.pt (pw_and (pt_cmpR op_notN (pe_dget hu (pv 1) (pv 4) (fun _ _ => rfl)) pe_non (nomark _)) (pw_and1 (pt_cmpR op_eq (pe_ix ix_tup (pe_dget hu (pv 1) (pv 4) (fun _ _ => rfl)) pe_int (fun _ _ => rfl)) (pv 5) (nomark _)))))))
          (fun _ _ _ _ _ => pv 4))
      (pss_cons (ps_if (PW.pt (pw_and (pt_cmpR op_gt (pv 5) pe_int (nomark _)) (pw_and (pt_cmpR op_isN (pe_dget hu (pv 1) (pe_tup (pa_cons pe_str (pa_cons (pv 5) pa_nil))) (fun _ _ => rfl)) pe_non (nomark _)) (pw_and1 (pt_cmpR (op_neD hr.units) (pv 6) (pe_lst pa_nil) (nomark _))))))
        (pss_one (ps_expr (pe_bm PySem.F.plainAttrs_list PySem.F.slot_list_append PySem.F.type_list_append mt_append (pv 3) (pa_cons (pe_tup (pa_cons pe_str (pa_cons (pv 5) (pa_cons (pe_callTy call_tuple_of (by rfl) mt boot_tuple (pa_cons (pv 6) pa_nil)) pa_nil)))) pa_nil)))) pss_nil)
      ht1)))
    hU), fun D H sa TD LU b cs S TA AL h60 nx => ?_⟩
  have hbd := b.hd
  obtain ⟨uu, eu, du⟩ := id AL
  have hul := dps_len du
  rw [List.length_map] at hul
  refine ⟨_, rfl, LU, rfl, ⟨uu, SqL.of eu⟩, fun RF hRF => lc_list (K := K) (a := LU) (xs := uu) (fun i H' => Same H H' ∧ LsU H' RF ((((unitsL b).take i).filter fun u => wrongB b (placeN cs b u)).map wrD)) ⟨same_upd hRF, ⟨[], upd_same, .nil⟩⟩ (fun i H2 _ z => SqL.of (z.1 _ _ eu)) ?_ ?_⟩
  · rintro i x H' hi ⟨s2, LL⟩
    obtain ⟨vs, eV, dV⟩ := id LL
    have hvl := dps_len dV
    rw [List.length_map] at hvl
    obtain ⟨u, hu', hd⟩ := dpu_at du hi
    obtain ⟨t, rfl, et⟩ := dpu_un hd
    have hil := (List.getElem?_eq_some_iff.mp hu').1
    obtain ⟨v, hg, dv⟩ := (TA.same s2).get (List.mem_of_getElem? hu') (s2 _ _ et)
    have T1 := filter_take (p := fun u => wrongB b (placeN cs b u)) hu'
    have hfl : (((unitsL b).take i).filter fun u => wrongB b (placeN cs b u)).length ≤ i := Nat.le_trans (List.length_filter_le _ _) (by rw [List.length_take]; omega)
    obtain ⟨dx, es⟩ := S.same s2
    refine ⟨rfl, _, rfl, _, rfl, TD, _, rfl, hg, rfl, _, rfl, ?_⟩
    rcases dpu_pl dv with ⟨hn, rfl⟩ | ⟨y, q, hs, rfl, eq⟩
    · refine iteF (iteF ⟨s2, ?_⟩)
      rw [T1, hn]
      show LsU H' RF ((_ ++ []).map wrD)
      rw [List.append_nil]
      exact LL
    · refine iteT ⟨_, rfl, _, rfl, TD, _, rfl, hg, q, _, 0, _, rfl, rfl, SqT.of eq, atI_nat (j := 0) rfl, _, rfl, sa, C, dx, _, _, rfl, es, T.cl, T.no _ (by decide +kernel), zip_get (i := 0) shn_nodup rfl rfl, _, _, rfl, rfl, _, rfl, ?_⟩
      rw [T1, hs]
      show if decide (b.d ≤ y.1) = true then _ else _
      by_cases c : b.d ≤ y.1
      · rw [decide_eq_true c]
        refine iteT ⟨_, rfl, (by show 2 ≤ sizeLine; decide), fun q2 hq2 => ?_⟩
        have s3 := same_upd (o := .tup [V.str "wrong", .ref t]) hq2
        refine ⟨vs, s3 _ _ eV, by rw [sizeLine_eq]; omega, fun c o e => by rw [upd_ne (ne_of_none e hRF)]; exact s3 _ _ (s2 _ _ e), ?_⟩
        have ew : wrongB b (some y) = true := decide_eq_true c
        rw [if_pos ew, List.map_append]
        exact LsU.push (s3 _ _ eV) (dps_same (tu_same s3) _ _ dV) (dpu_mk upd_same (.str _) (dpu_ofun (s3 _ _ (s2 _ _ et))))
      · rw [decide_eq_false c]
        have ew : ¬ wrongB b (some y) = true := fun z => c (of_decide_eq_true z)
        rw [if_neg ew, List.append_nil]
        exact iteF ⟨s2, LL⟩
  · rintro H1 ⟨s1, LR1⟩
    rw [hul, List.take_length] at LR1
    obtain ⟨dx, es⟩ := S.same s1
    refine ⟨_, rfl, sa, C, dx, _, _, rfl, es, T.cl, T.no _ (by decide +kernel), zip_get (i := 0) shn_nodup rfl rfl, b.d, rfl, by omega, by omega, for_range (lo := 0) (n := b.d.toNat) (fun i σ H' => ∃ y5 y6 y7 y8 y9, σ = SF sa TD LU RF y5 y6 y7 y8 y9 none none none ∧ Same H H' ∧ LsU H' RF (accL cs b i)) ⟨none, none, none, none, none, rfl, s1, by unfold accL wrongL; simpa using LR1⟩ ?_ ?_⟩
    · rintro i σ H2 hi ⟨y5, y6, y7, y8, y9, rfl, s2, LR2⟩
      have ez : (0 : Int) + ((i : Nat) : Int) = ((i : Nat) : Int) := by omega
      rw [ez]
      have hal := accL_len cs b i
      refine ⟨_, rfl, LU, rfl, ⟨uu, SqL.of (s2 _ _ eu)⟩, fun BN hBN => lc_list (K := K) (a := LU) (xs := uu) (fun j H' => Same H2 H' ∧ LsU H' BN ((((unitsL b).take j).filter (benB (placeN cs b) ((i : Nat) : Int))).map uD)) ⟨same_upd hBN, ⟨[], upd_same, .nil⟩⟩ (fun j H3 _ z => SqL.of (z.1 _ _ (s2 _ _ eu))) ?_ ?_⟩
      · rintro j x H' hj ⟨s3, LL⟩
        have s23 := s2.trans s3
        obtain ⟨vs, eV, dV⟩ := id LL
        have hvl := dps_len dV
        rw [List.length_map] at hvl
        obtain ⟨u, hu', hd⟩ := dpu_at du hj
        obtain ⟨t, rfl, et⟩ := dpu_un hd
        have hil := (List.getElem?_eq_some_iff.mp hu').1
        obtain ⟨v, hg, dv⟩ := (TA.same s23).get (List.mem_of_getElem? hu') (s23 _ _ et)
        have T1 := filter_take (p := benB (placeN cs b) ((i : Nat) : Int)) hu'
        have hfl : (((unitsL b).take j).filter (benB (placeN cs b) ((i : Nat) : Int))).length ≤ j := Nat.le_trans (List.length_filter_le _ _) (by rw [List.length_take]; omega)
        refine ⟨rfl, _, rfl, _, rfl, TD, _, rfl, hg, rfl, _, rfl, ?_⟩
        rcases dpu_pl dv with ⟨hn, rfl⟩ | ⟨y, q, hs, rfl, eq⟩
        · refine iteF (iteF ⟨s3, ?_⟩)
          have ew : ¬ benB (placeN cs b) ((i : Nat) : Int) u = true := by unfold benB; rw [hn]; exact Bool.false_ne_true
          rw [T1, if_neg ew, List.append_nil]
          exact LL
        · refine iteT ⟨_, rfl, _, rfl, TD, _, rfl, hg, q, _, 0, _, rfl, rfl, SqT.of eq, atI_nat (j := 0) rfl, _, rfl, rfl, _, rfl, ite2 (fun c => ?_) (fun c => ?_)⟩
          · have ew : benB (placeN cs b) ((i : Nat) : Int) u = true := by unfold benB; rw [hs]; exact decide_eq_true (V.int.inj (of_decide_eq_true c))
            refine ⟨_, rfl, vs, eV, by rw [sizeLine_eq]; omega, fun c o e => by rw [upd_ne (ne_of_none e hBN)]; exact s3 _ _ e, ?_⟩
            rw [T1, if_pos ew, List.map_append]
            exact LsU.push eV dV (dpu_ofun (s23 _ _ et))
          · have ew : ¬ benB (placeN cs b) ((i : Nat) : Int) u = true := by unfold benB; rw [hs]; exact fun z => c (decide_eq_true (congrArg V.int (of_decide_eq_true z)))
            refine ⟨s3, ?_⟩
            rw [T1, if_neg ew, List.append_nil]
            exact LL
      · rintro H3 ⟨s3, LB3⟩
        rw [hul, List.take_length] at LB3
        have s23 := s2.trans s3
        have LR3 := LR2.same s3
        have nBR : BN ≠ RF := fun z => by obtain ⟨us, e, _⟩ := LR2; rw [← z, hBN] at e; cases e
        have hb60 := ben_len cs b ((i : Nat) : Int)
        have hfr := frs_len cs b ((i : Nat) : Int) (benL cs b ((i : Nat) : Int))
        have hmore : accL cs b (i + 1) = (accL cs b i ++ frs cs b ((i : Nat) : Int) (benL cs b ((i : Nat) : Int))) ++ dbs (gsN (placeN cs b) (benL cs b ((i : Nat) : Int))) ((i : Nat) : Int) := by
          unfold accL
          rw [List.range_succ, List.flatMap_append]
          simp only [List.flatMap_cons, List.flatMap_nil, List.append_nil]
          unfold fbL
          simp only [List.append_assoc]
        have hacc : (accL cs b i ++ frs cs b ((i : Nat) : Int) (benL cs b ((i : Nat) : Int))).length ≤ 5000 := by rw [List.length_append]; omega
        obtain ⟨ub, eb, db⟩ := id LB3
        have hubl := dps_len db
        rw [List.length_map] at hubl
        refine ⟨_, rfl, _, _, rfl, rfl, _, rfl, ?_⟩
        by_cases c1 : 1 < ((i : Nat) : Int)
        · rw [decide_eq_true c1]
          refine iteT ?_
          have hid : isDirN cs b ((i : Nat) : Int) = (dirN cs b ((i : Nat) : Int)).isSome := by
            unfold isDirN
            rw [decide_eq_false (by omega), Bool.false_or]
          refine ⟨_, rfl, _, rfl, (by show 2 ≤ sizeLine; decide), fun kt hkt => ?_⟩
          have s4 := same_upd (o := .tup [V.str "dir", .int ((i : Nat) : Int)]) hkt
          have s24 := s23.trans s4
          have ekt : upd H3 kt (.tup [V.str "dir", .int ((i : Nat) : Int)]) kt = some (.tup (uV (true, ((i : Nat) : Int)))) := upd_same
          obtain ⟨v, hg, dv⟩ := (TA.same s24).get (dir_unit (n := ((i : Nat) : Int)) (by omega) (by omega)) ekt
          have LR4 := LR3.same s4
          have LB4 := LB3.same s4
          have eb4 := s4 _ _ eb
          generalize upd H3 kt (.tup [V.str "dir", .int ((i : Nat) : Int)]) = H4 at s4 s24 hg dv LR4 LB4 eb4 ⊢
          refine ⟨TD, _, rfl, hg, rfl, _, rfl, ?_⟩
          have hpd : placeN cs b (true, ((i : Nat) : Int)) = dirN cs b ((i : Nat) : Int) := rfl
          rw [hpd] at dv
          rcases dpu_pl dv with ⟨hn, rfl⟩ | ⟨y, q, hs, rfl, eq⟩
          · refine iteT ⟨_, rfl, Nat.zero_le _, fun l0 hl0 => ?_⟩
            have s5 := same_upd (o := .lst []) hl0
            have s25 := s24.trans s5
            have LR5 := LR4.same s5
            have LB5 := LB4.same s5
            have eb5 := s5 _ _ eb4
            have el0 : upd H4 l0 (.lst []) l0 = some (.lst []) := upd_same
            have db5 := dps_same (tu_same (s4.trans s5)) _ _ db
            generalize upd H4 l0 (.lst []) = H5 at s5 s25 LR5 LB5 eb5 el0 db5 ⊢
            refine ⟨.list ((benL cs b ((i : Nat) : Int)).map uD), .list [], .lst (SqL.of eb5) (dps_up _ _ db5), .lst (SqL.of el0) .nil, shaped_list (lay_uns _) (by have := dep_uns (benL cs b ((i : Nat) : Int)); omega), shaped_list (by simp [PyData.canLayAll0]) (by simp [PyData.depthAll]), _, rfl, ?_⟩
            by_cases c2 : benL cs b ((i : Nat) : Int) = []
            · have e : PyData.eqv (.list ((benL cs b ((i : Nat) : Int)).map uD)) (.list []) = true := by rw [c2]; simp [PyData.eqv, PyData.eqvAll]
              rw [e]
              have hf : frs cs b ((i : Nat) : Int) (benL cs b ((i : Nat) : Int)) = [] := by unfold frs; rw [if_neg]; intro z; have := z.1; rw [c2] at this; cases this
              refine iteF (hq1 _ H H5 sa TD LU RF BN b cs _ _ _ _ _ s25 hRF nBR hacc (by rw [hf, List.append_nil]; exact LR5) TA LB5 (by omega) fun y7 y8 y9 H6 s6 L6 => ⟨_, _, _, _, _, rfl, s6, by rw [hmore]; exact L6⟩)
            · have e : PyData.eqv (.list ((benL cs b ((i : Nat) : Int)).map uD)) (.list []) = false := by
                have := eqvAll_nil (ds := (benL cs b ((i : Nat) : Int)).map uD) (fun z => c2 (List.map_eq_nil_iff.mp z))
                simp only [PyData.eqv, this]
              rw [e]
              have hf : frs cs b ((i : Nat) : Int) (benL cs b ((i : Nat) : Int)) = [frD ((i : Nat) : Int) (benL cs b ((i : Nat) : Int))] := by
                unfold frs
                rw [if_pos]
                exact ⟨List.length_pos_iff.mpr c2, by rw [hid, hn]; rfl⟩
              obtain ⟨us, eR, dR⟩ := id LR5
              have hul5 := dps_len dR
              refine iteT ⟨_, rfl, .inl ⟨rfl, _, SqL.of eR⟩, _, rfl, _, rfl, BN, ub, rfl, .inl ⟨SqL.of eb5, fun t9 ht9 => ⟨(by show 3 ≤ sizeLine; decide), fun q hq' => ?_⟩⟩⟩
              have z1 := same_upd (o := .tup ub) ht9
              have z2 := same_upd (o := .tup [V.str "free", .int ((i : Nat) : Int), .ref t9]) hq'
              have g1 : upd H5 t9 (.tup ub) t9 = some (.tup ub) := upd_same
              have g1' := z2 _ _ g1
              have g2 : upd (upd H5 t9 (.tup ub)) q (.tup [V.str "free", .int ((i : Nat) : Int), .ref t9]) q = some (.tup [V.str "free", .int ((i : Nat) : Int), .ref t9]) := upd_same
              have z12 := z1.trans z2
              have eR9 := z12 _ _ eR
              have dB9 := dps_same (tu_same z12) _ _ db5
              have dR9 := dps_same (tu_same z12) _ _ dR
              have LB9 := LB5.same z12
              have s29 := s25.trans z12
              generalize upd (upd H5 t9 (.tup ub)) q (.tup [V.str "free", .int ((i : Nat) : Int), .ref t9]) = H9 at g1' g2 eR9 dB9 dR9 LB9 s29 z2 z12 ⊢
              refine ⟨RF, us, .ref q, rfl, rfl, eR9, by rw [hul5, sizeLine_eq]; omega, ?_⟩
              have fW : Fr [RF] H9 (upd H9 RF (.lst (us ++ [.ref q]))) := .put (by simp) fun o z => by rw [eR9] at z; cases z; rfl
              refine hq1 _ H _ sa TD LU RF BN b cs (accL cs b i ++ frs cs b ((i : Nat) : Int) (benL cs b ((i : Nat) : Int))) _ _ _ _ (fun c o e => by rw [upd_ne (ne_of_none e hRF)]; exact s29 _ _ e) hRF nBR hacc ?_ TA (LB9.fr fW (by simp [nBR])) (by omega) fun y7 y8 y9 H6 s6 L6 => ⟨_, _, _, _, _, rfl, s6, by rw [hmore]; exact L6⟩
              rw [hf]
              exact LsU.push eR9 dR9 (.tup (SqT.of (tu_at g2)) (.cons (.str _) (.cons (.int _) (.cons (.tup (SqT.of (tu_at g1')) dB9) .nil))))
          · have hf : frs cs b ((i : Nat) : Int) (benL cs b ((i : Nat) : Int)) = [] := by unfold frs; rw [if_neg]; intro z; have := z.2; rw [hid, hs] at this; cases this
            refine iteF (iteF (hq1 _ H H4 sa TD LU RF BN b cs _ _ _ _ _ s24 hRF nBR hacc (by rw [hf, List.append_nil]; exact LR4) TA LB4 (by omega) fun y7 y8 y9 H6 s6 L6 => ⟨_, _, _, _, _, rfl, s6, by rw [hmore]; exact L6⟩))
        · rw [decide_eq_false c1]
          have hf : frs cs b ((i : Nat) : Int) (benL cs b ((i : Nat) : Int)) = [] := by
            unfold frs
            rw [if_neg]
            intro z
            have := z.2
            unfold isDirN at this
            rw [decide_eq_true (by omega), Bool.true_or] at this
            cases this
          exact iteF (iteF (hq1 _ H H3 sa TD LU RF BN b cs _ _ _ _ _ s23 hRF nBR hacc (by rw [hf, List.append_nil]; exact LR3) TA LB3 (by omega) fun y7 y8 y9 H6 s6 L6 => ⟨_, _, _, _, _, rfl, s6, by rw [hmore]; exact L6⟩))
    · rintro σ H2 ⟨y5, y6, y7, y8, y9, rfl, s2, LR2⟩
      exact nx RF _ _ _ _ _ H2 s2 hRF LR2
end
end Pf

set_option Elab.async false
set_option linter.all false
set_option maxRecDepth 100000
set_option maxHeartbeats 4000000
namespace Pf
open PySem PySem.Spec PyProof.Rows L2
theorem pt_imp {X : Cx} {e : Expr} {t t' : TT} (h : PT X e t) (k : ∀ σ H Q, t' σ H Q → t σ H Q) : PT X e t' := ⟨fun pins s σ H Q I g => h.run pins s σ H Q I (k σ H Q g)⟩
theorem lay_rngs : ∀ l : List (List Int), PyData.canLayAll0 (l.map rngD) = true
  | [] => by simp [PyData.canLayAll0]
  | r :: l => by simp [PyData.canLayAll0, PyData.canLay0, rngD, lay_rngs l, lay_ints]
theorem dep_rngs : ∀ l : List (List Int), PyData.depthAll (l.map rngD) ≤ 1
  | [] => by simp [PyData.depthAll]
  | r :: l => by
    have := dep_rngs l
    simp only [List.map_cons, PyData.depthAll, rngD, PyData.depth, dep_ints]
    omega
theorem any_rngs (r : List Int) : ∀ l : List (List Int), ((l.map rngD).any fun z => PyData.eqv z (rngD r)) = decide (r ∈ l)
  | [] => by simp
  | x :: l => by
    rw [List.map_cons, List.any_cons, any_rngs r l]
    unfold rngD
    rw [eqv_ints]
    by_cases c : x = r
    · subst c; rw [decide_eq_true rfl, decide_eq_true List.mem_cons_self]; rfl
    · rw [decide_eq_false c, Bool.false_or]
      apply decide_eq_decide.mpr
      exact ⟨fun h => List.mem_cons_of_mem _ h, fun h => by
        rcases List.mem_cons.mp h with e | m
        · exact absurd e.symm c
        · exact m⟩
theorem law_more (step : Int → Option Int) (N : Nat) (l : List Int) (s : Int) : lawG step N (l ++ [s]) = lawA step N (lawG step N l) s := by
  unfold lawG
  rw [List.foldl_append]
  rfl
theorem lawA_len (step : Int → Option Int) (N : Nat) (rs : List (List Int)) (s : Int) : (lawA step N rs s).length ≤ rs.length + 1 := by
  unfold lawA
  simp only []
  split <;> simp
theorem law_len (step : Int → Option Int) (N : Nat) : ∀ l : List Int, (lawG step N l).length ≤ l.length := snoc_ind (Nat.le_refl _) fun l s ih => by
  rw [law_more, List.length_append]
  have := lawA_len step N (lawG step N l) s
  simp
  omega
theorem law_ne (step : Int → Option Int) (N : Nat) : ∀ l : List Int, ∀ r ∈ lawG step N l, r ≠ [] := snoc_ind (fun r hr => by cases hr) fun l s ih => by
  rw [law_more]
  intro r hr
  unfold lawA at hr
  simp only [] at hr
  split at hr
  · rename_i c
    rcases List.mem_append.mp hr with m | m
    · exact ih r m
    · rw [List.mem_singleton.mp m]
      intro z
      have := isI_len (wkG step N [] [] s).2.1
      rw [z] at this
      exact c.1 (List.eq_nil_of_length_eq_zero this.symm)
  · exact ih r hr
theorem look_ups (cs : List Ch) (b : Sh) (hd : 2 ≤ b.d) (h : Int) : look (upsL cs b) h = if 2 ≤ h ∧ h < b.d then (dirN cs b h).map (·.1) else none := by
  rw [ups_eq, look_upU]
  by_cases c : 2 ≤ h ∧ h < b.d
  · rw [if_pos c, if_pos (by omega)]
    unfold upN
    rw [show 2 + (((h - 2).toNat : Nat) : Int) = h by omega]
  · rw [if_neg c, if_neg (by omega)]
/-- a while whose test is told by a weaker word -/
theorem while_m2 {c : TT} {tb : TS} {D : Ends} {σ : L2.St} {H : Hp} (c' : TT) (hc : ∀ σ H Q, c' σ H Q → c σ H Q) (W : Nat → L2.St → Hp → Prop) (m0 : Nat) (h0 : W m0 σ H)
    (hs : ∀ m σ H, W m σ H → c' σ H fun b H1 => if b = true then tb { D with nx := fun σ' H' => ∃ m', m' < m ∧ W m' σ' H', ct := fun σ' H' => ∃ m', m' < m ∧ W m' σ' H', bk := D.nx } σ H1 else D.nx σ H1)
    (mono : ∀ σ H Q Q', (∀ b H1, Q b H1 → Q' b H1) → c' σ H Q → c' σ H Q') : tWhile c tb D σ H := by
  refine ⟨W, ⟨m0, h0⟩, fun m σ H w => ?_⟩
  refine hc σ H _ (mono σ H _ _ (fun b H1 q => ?_) (hs m σ H w))
  cases b with
  | true => exact ⟨_, fun σ' H' p => p, q⟩
  | false => exact q
/-- the while's test -/
def tWh (K : PySem.W.Frag) (C sa TD : Addr) (b : Sh) (cs : List Ch) : TT := fun σ H Q => ∃ (hh : Int) (ps : List Int) (PL : Addr), σ[0]? = some (some (.ref sa)) ∧ σ[1]? = some (some (.ref TD)) ∧ σ[12]? = some (some (.int hh)) ∧ σ[11]? = some (some (.ref PL)) ∧ H PL = some (.lst (ps.map V.int)) ∧ ShAt C H sa b ∧ ToldAt H TD cs b ∧
  ∀ H', Same H H' → Q (decide ((2 ≤ hh ∧ hh < b.d) ∧ (dirN cs b hh).isSome = true ∧ hh ∉ ps)) H'
/-- the if's test -/
def tRg (K : PySem.W.Frag) : TT := fun σ H Q => ∃ (hh n : Int) (ps : List Int) (PL RL : Addr) (rs : List (List Int)), σ[5]? = some (some (.int n)) ∧ σ[10]? = some (some (.ref RL)) ∧ σ[12]? = some (some (.int hh)) ∧ σ[11]? = some (some (.ref PL)) ∧ H PL = some (.lst (ps.map V.int)) ∧ LsU H RL (rs.map rngD) ∧
  ∀ H', Same H H' → Q (decide (ps ≠ [] ∧ hh = n ∧ isI ps ∉ rs)) H'
section
variable {P : Program} {w : World} {K : PySem.W.Frag} {mg : Str → Option Value} {base : Heap} {C : Addr} {f : Addr} {cdv : Value} {A : Around} {outer : List Env} {s : Shared} {H0 : Hp} {E : XK}
theorem lf_rest (T : ShTxt K C) (mso : mg "sorted" = none) (mt : mg "tuple" = none) (mr : mg "range" = none) (hr : Room 1 (A.deeper (envOfC "_law_faults" (defScope sLfa) s.heap.objs.size f cdv))) :
    ∃ t, PSs (XF P w K mg base f cdv A outer s H0 E) (stF 2 :: stF 3 :: stF 4 :: []) t ∧ ∀ (D : Ends) (H H1 : Hp) (sa TD LU RF : Addr) (b : Sh) (cs : List Ch) (acc : List PyData) (y5 y6 y7 y8 y9 : Option V), Same H H1 → H RF = none → acc.length ≤ 5000 → 3 ≤ b.d ∧ b.d ≤ 6 →
      ShAt C H sa b → ToldAt H TD cs b → LsU H1 RF acc → (∀ R H', Same H H' → H R = none → LsU H' R (acc ++ (isL (lawG (look (upsL cs b)) (b.d - 2).toNat (rngOf (b.d - 2).toNat))).map rnD) → D.rt (.ref R) H') → t D (SF sa TD LU RF y5 y6 y7 y8 y9 none none none) H1 := by
  have nd := scLfa.nd
  have hu := hu_of hr
  have h65 : (A.deeper (envOfC "_law_faults" (defScope sLfa) s.heap.objs.size f cdv)).units + 65 < cLine := by have := hr.un; omega
  have wh9 : ∀ (sa TD : Addr) (b : Sh) (cs : List Ch) (σ : L2.St) (H : Hp) (Q : Bool → Hp → Prop), tWh K C sa TD b cs σ H Q → tAnd (tTest (tChain (rI0 fun i j => .bl (decide (i ≤ j))) (rI0 fun i j => .bl (decide (i < j))) (tC (.int 2)) (tVar 12) (tFld K (tVar 0) "dirs")))
      (tAnd (tTest (tOp rNN (tDGet (tVar 1) (tTup (tCons (tC (.str "dir")) (tCons (tVar 12) tNil)))) (tC .non))) (tTest (tOp (rIn K true) (tVar 12) (tVar 11)))) σ H Q := by
    rintro sa TD b cs σ H Q ⟨hh, ps, PL, e0, e1, e12, e11, eP, S, TA, q⟩
    obtain ⟨dx, es⟩ := id S
    refine ⟨_, e12, _, _, rfl, rfl, _, rfl, ite2 (fun c => ?_) (fun c => ?_)⟩
    · have c1 : 2 ≤ hh := of_decide_eq_true c
      refine ⟨_, e0, sa, C, dx, _, _, rfl, es, T.cl, T.no _ (by decide +kernel), zip_get (i := 0) shn_nodup rfl rfl, _, _, rfl, rfl, _, rfl, ?_⟩
      by_cases c2 : hh < b.d
      · rw [decide_eq_true c2]
        refine iteT ⟨_, e1, _, e12, (by show 2 ≤ sizeLine; decide), fun kt hkt => ?_⟩
        have s1 := same_upd (o := .tup [V.str "dir", .int hh]) hkt
        have ekt : upd H kt (.tup [V.str "dir", .int hh]) kt = some (.tup (uV (true, hh))) := upd_same
        obtain ⟨v, hg, dv⟩ := (TA.same s1).get (dir_unit c1 c2) ekt
        have eP1 := s1 _ _ eP
        generalize upd H kt (.tup [V.str "dir", .int hh]) = H2 at s1 hg dv eP1 ⊢
        have hpd : placeN cs b (true, hh) = dirN cs b hh := rfl
        rw [hpd] at dv
        refine ⟨TD, _, rfl, hg, rfl, _, rfl, ?_⟩
        rcases dpu_pl dv with ⟨hn, rfl⟩ | ⟨y, p, hs, rfl, eq⟩
        · refine iteF ?_
          have := q H2 s1
          rw [decide_eq_false (fun z => by have := z.2.1; rw [hn] at this; cases this)] at this
          exact this
        · refine iteT ⟨_, e12, _, e11, PL, _, rfl, .inl (SqL.of eP1), rfl, flat_ints ps, decide (hh ∉ ps), ?_, ?_⟩
          · show V.bl (!inV _ _) = _
            rw [inV_ints]
            congr 1
            by_cases c9 : hh ∈ ps <;> simp [c9]
          · have := q H2 s1
            rw [show decide ((2 ≤ hh ∧ hh < b.d) ∧ (dirN cs b hh).isSome = true ∧ hh ∉ ps) = decide (hh ∉ ps) from decide_eq_decide.mpr ⟨fun z => z.2.2, fun z => ⟨⟨c1, c2⟩, by rw [hs]; rfl, z⟩⟩] at this
            exact this
      · rw [decide_eq_false c2]
        refine iteF ?_
        have := q H (Same.refl _)
        rw [decide_eq_false (fun z => c2 z.1.2)] at this
        exact this
    · have c1 : ¬ 2 ≤ hh := fun z => c (decide_eq_true z)
      refine ⟨_, rfl, iteF ?_⟩
      have := q H (Same.refl _)
      rw [decide_eq_false (fun z => c1 z.1.1)] at this
      exact this
  have rg9 : ∀ (σ : L2.St) (H : Hp) (Q : Bool → Hp → Prop), tRg K σ H Q → tAnd (tTest (tOp (rNeD K) (tVar 11) (tLst tNil))) (tAnd (tTest (tOp rEq (tVar 12) (tVar 5)))
      (tTest (tOp (rNotInD K) (tCB (fun xs H Q => ∃ p ys, xs = [.ref p] ∧ ((SqL K H p ys ∧ ∀ l, H l = none → Q (.ref l) (upd H l (.tup ys))) ∨ (SqT K H p ys ∧ Q (.ref p) H))) (tCons (tCB (rSortedI K) (tCons (tVar 11) tNil)) tNil)) (tVar 10)))) σ H Q := by
    rintro σ H Q ⟨hh, n, ps, PL, RL, rs, e5, e10, e12, e11, eP, LR, q⟩
    refine ⟨_, e11, Nat.zero_le _, fun l0 hl0 => ?_⟩
    have s1 := same_upd (o := .lst []) hl0
    have el0 : upd H l0 (.lst []) l0 = some (.lst ([] : List V)) := upd_same
    have eP1 := s1 _ _ eP
    have LR1 := LR.same s1
    generalize upd H l0 (.lst []) = H1 at s1 el0 eP1 LR1 ⊢
    refine ⟨.list (ps.map PyData.int), .list [], .lst (SqL.of eP1) (dps_ints ps), .lst (SqL.of el0) .nil, shaped_list (lay_ints ps) (by rw [dep_ints]; decide), shaped_list (by simp [PyData.canLayAll0]) (by simp [PyData.depthAll]), _, rfl, ?_⟩
    by_cases c1 : ps = []
    · have e : PyData.eqv (.list (ps.map PyData.int)) (.list []) = true := by rw [c1]; simp [PyData.eqv, PyData.eqvAll]
      rw [e]
      refine iteF ?_
      have := q H1 s1
      rw [decide_eq_false (fun z => z.1 c1)] at this
      exact this
    · have e : PyData.eqv (.list (ps.map PyData.int)) (.list []) = false := by
        have := eqvAll_nil (ds := ps.map PyData.int) (fun z => c1 (List.map_eq_nil_iff.mp z))
        simp only [PyData.eqv, this]
      rw [e]
      refine iteT ⟨_, e12, _, e5, rfl, _, rfl, ite2 (fun c2 => ?_) (fun c2 => ?_)⟩
      · have c2' : hh = n := V.int.inj (of_decide_eq_true c2)
        refine ⟨_, e11, PL, ps, rfl, SqL.of eP1, fun ns' p2 hpm hpw hp2 => ?_⟩
        have ens := isI_uniq hpm hpw
        have t2 := same_upd (o := .lst (ns'.map V.int)) hp2
        refine ⟨p2, _, rfl, .inl ⟨SqL.of upd_same, fun l hll => ?_⟩⟩
        have t3 := same_upd (o := .tup (ns'.map V.int)) hll
        have el : upd (upd H1 p2 (.lst (ns'.map V.int))) l (.tup (ns'.map V.int)) l = some (.tup (ns'.map V.int)) := upd_same
        have t23 := t2.trans t3
        obtain ⟨us, eR, dR⟩ := LR1.same t23
        generalize upd (upd H1 p2 (.lst (ns'.map V.int))) l (.tup (ns'.map V.int)) = H3 at t23 el eR dR ⊢
        refine ⟨_, e10, rngD (isI ps), rs.map rngD, ?_, .lst (SqL.of eR) (dps_up _ _ dR), shaped_ints _, shaped_list (lay_rngs rs) (by have := dep_rngs rs; omega), _, rfl, ?_⟩
        · rw [← ens]
          exact .tup (SqT.of el) (dps_ints _)
        · rw [any_rngs]
          have := q H3 (s1.trans t23)
          rw [show decide (ps ≠ [] ∧ hh = n ∧ isI ps ∉ rs) = !decide (isI ps ∈ rs) from by
            by_cases c9 : isI ps ∈ rs
            · rw [decide_eq_true c9, decide_eq_false (fun z => z.2.2 c9)]; rfl
            · rw [decide_eq_false c9, decide_eq_true ⟨c1, c2', c9⟩]; rfl] at this
          exact this
      · have := q H1 s1
        rw [decide_eq_false (fun z => c2 (decide_eq_true (congrArg V.int z.2.1)))] at this
        exact this
  refine ⟨_, pss_cons (ps_set (i := 10) nd rfl (.inl rfl) (pe_lst pa_nil))
    (pss_cons (ps_for PassesOwn.never rfl (pi_range2 (by rfl) mr (pa_cons pe_int (pa_cons (pe_fld (pv 0) rfl) pa_nil))) (pg_name (i := 5) nd rfl (.inr rfl))
      (pss_cons (ps_par rfl nd (i := 11) (j := 12) rfl rfl (by decide) rfl rfl (pa_cons (pe_lst pa_nil) (pa_cons (pv 5) pa_nil)) (by rfl))
      (pss_cons (ps_while PassesOwn.never (PW.pt (pw_and (pt_chain op_le op_lt pe_int (pv 12) (pe_fld (pv 0) rfl)) (pw_and (pt_cmpR op_notN (pe_dget hu (pv 1) (pe_tup (pa_cons pe_str (pa_cons (pv 12) pa_nil))) (fun _ _ => rfl)) pe_non (nomark _)) (pw_and1 (pt_cmpR op_notIn_seq (pv 12) (pv 11) (by rfl))))))
        (pss_cons (ps_expr (pe_bm PySem.F.plainAttrs_list PySem.F.slot_list_append PySem.F.type_list_append mt_append (pv 11) (pa_cons (pv 12) pa_nil)))
        (pss_one (ps_set (i := 12) nd rfl (.inl rfl) (pe_ix ix_tup (pe_dget hu (pv 1) (pe_tup (pa_cons pe_str (pa_cons (pv 12) pa_nil))) (fun _ _ => rfl)) pe_int (fun _ _ => rfl))))))
      (pss_one (ps_if (PW.pt (pw_and (pt_cmpR (op_neD hr.units) (pv 11) (pe_lst pa_nil) (nomark _)) (pw_and (pt_cmpR op_eq (pv 12) (pv 5) (nomark _)) (pw_and1 (pt_cmpR (op_notInD h65) (pe_callTy call_tuple_of (by rfl) mt boot_tuple (pa_cons (pe_callB cr_sortedI (by rfl) mso (by decide +kernel) (pa_cons (pv 11) pa_nil)) pa_nil)) (pv 10) (by rfl))))))
        (pss_one (ps_expr (pe_bm PySem.F.plainAttrs_list PySem.F.slot_list_append PySem.F.type_list_append mt_append (pv 10) (pa_cons (pe_callTy call_tuple_of (by rfl) mt boot_tuple (pa_cons (pe_callB cr_sortedI (by rfl) mso (by decide +kernel) (pa_cons (pv 11) pa_nil)) pa_nil)) pa_nil)))) pss_nil)))))
    (pss_one (ps_ret (pe_op op_cat (pv 3) (pe_lc (own := [("ring", 13)]) (g := gName 13) (tt := tYes) (te := tTup (tCons (tC (.str "ring")) (tCons (tVar 13) tNil))) rfl nd (pi_list (pe_callB (cr_sortedDp hr.units) (by rfl) mso (by decide +kernel) (pa_cons (pv 10) pa_nil))) (blkOk_by (N := NLf) (sc := defScope sLfa) (by decide +kernel))
          (fun _ _ _ _ _ => pg_name (i := 13) nd rfl (.inl rfl)) (fun _ _ _ _ _ => pts_nil) (fun _ _ _ _ _ => pe_tup (pa_cons pe_str (pa_cons (pv 13) pa_nil)))))))), fun D H H1 sa TD LU RF b cs acc y5 y6 y7 y8 y9 s1 hRF hacc hd S TA LR nx => ?_⟩
  refine ⟨Nat.zero_le _, fun RL hRL => ?_⟩
  have s2 := same_upd (o := .lst []) hRL
  have s12 := s1.trans s2
  have hRL0 : H RL = none := s1.free hRL
  have eRL : upd H1 RL (.lst []) RL = some (.lst ([] : List V)) := upd_same
  have nFR : RF ≠ RL := fun z => by obtain ⟨us, e, _⟩ := LR; rw [z, hRL] at e; cases e
  have LR2 := LR.same s2
  generalize upd H1 RL (.lst []) = H2 at s2 s12 eRL LR2 ⊢
  have hlk := look_ups cs b (by omega)
  have hkl : (rngOf (b.d - 2).toNat).length = (b.d - 2).toNat := by unfold rngOf; rw [List.length_map, List.length_range]
  obtain ⟨dx, es⟩ := S.same s12
  refine ⟨_, rfl, sa, C, dx, _, _, rfl, es, T.cl, T.no _ (by decide +kernel), zip_get (i := 0) shn_nodup rfl rfl, 2, b.d, rfl, by omega, for_range (lo := 2) (n := (b.d - 2).toNat) (fun i σ H' => ∃ y5 y11 y12, σ = SF sa TD LU RF y5 y6 y7 y8 y9 (some (.ref RL)) y11 y12 ∧ Same H H' ∧ Fr [RL] H2 H' ∧ LsU H' RL ((lawG (look (upsL cs b)) (b.d - 2).toNat ((rngOf (b.d - 2).toNat).take i)).map rngD)) ⟨_, none, none, rfl, s12, .of (Same.refl _), ⟨[], eRL, .nil⟩⟩ ?_ ?_⟩
  · rintro i σ H3 hi ⟨y5', y11, y12, rfl, s3, f3, L3⟩
    have hat : (rngOf (b.d - 2).toNat)[i]? = some (2 + ((i : Nat) : Int)) := by unfold rngOf; rw [List.getElem?_map, List.getElem?_range hi]; rfl
    have hT : (rngOf (b.d - 2).toNat).take (i + 1) = (rngOf (b.d - 2).toNat).take i ++ [2 + ((i : Nat) : Int)] := by rw [List.take_succ, hat]; rfl
    have hrl := law_len (look (upsL cs b)) (b.d - 2).toNat ((rngOf (b.d - 2).toNat).take i)
    rw [List.length_take] at hrl
    rw [hT, law_more]
    generalize lawG (look (upsL cs b)) (b.d - 2).toNat ((rngOf (b.d - 2).toNat).take i) = rs at L3 hrl ⊢
    unfold lawA
    simp only []
    generalize hF : wkG (look (upsL cs b)) (b.d - 2).toNat [] [] (2 + ((i : Nat) : Int)) = F
    refine ⟨Nat.zero_le _, fun PL hPL => ⟨_, rfl, _, _, rfl, ?_⟩⟩
    have t3 := same_upd (o := .lst []) hPL
    have hPL0 : H PL = none := s3.free hPL
    have ePL : upd H3 PL (.lst []) PL = some (.lst ([] : List V)) := upd_same
    have nPR : PL ≠ RL := fun z => by obtain ⟨us, e, _⟩ := L3; rw [← z, hPL] at e; cases e
    have hPL2 : H2 PL = none := by
      cases e : H2 PL with
      | none => rfl
      | some o => rw [f3.at e (by simp [nPR])] at hPL; cases hPL
    have s4 := s3.trans t3
    have L4 := L3.same t3
    have f4 := f3.trans (Fr.of (cs := [RL]) t3)
    generalize upd H3 PL (.lst []) = H4 at s4 L4 f4 ePL ⊢
    refine while_m2 (tWh K C sa TD b cs) (wh9 sa TD b cs) (fun mm σ H' => ∃ (ps : List Int) (hh : Int) (n : Nat), σ = SF sa TD LU RF (some (.int (2 + ((i : Nat) : Int)))) y6 y7 y8 y9 (some (.ref RL)) (some (.ref PL)) (some (.int hh)) ∧ Same H H' ∧ Fr [RL] H2 H' ∧ LsU H' RL (rs.map rngD) ∧ H' PL = some (.lst (ps.map V.int)) ∧ ps.Nodup ∧ (∀ x ∈ ps, x ∈ rngOf (b.d - 2).toNat) ∧ wkG (look (upsL cs b)) n ps ps hh = F ∧ (b.d - 2).toNat ≤ n + ps.length ∧ mm = (b.d - 2).toNat - ps.length) (b.d - 2).toNat
      ⟨[], _, (b.d - 2).toNat, rfl, s4, f4, L4, ePL, .nil, (fun x hx => by cases hx), hF, Nat.le_add_right _ _, rfl⟩ ?_ ?_
    · rintro mm σ H5 ⟨ps, hh, n, rfl, s5, f5, L5, eP5, hn5, hk5, hF5, hN5, rfl⟩
      have hpl : ps.length ≤ (b.d - 2).toNat := by have := nd_len hn5 hk5; rw [hkl] at this; exact this
      refine ⟨hh, ps, PL, rfl, rfl, rfl, rfl, eP5, S.same s5, TA.same s5, fun H6 s56 => ?_⟩
      have s6 := s5.trans s56
      have f6 := f5.trans (Fr.of (cs := [RL]) s56)
      have L6 := L5.same s56
      have eP6 := s56 _ _ eP5
      by_cases c : (2 ≤ hh ∧ hh < b.d) ∧ (dirN cs b hh).isSome = true ∧ hh ∉ ps
      · rw [decide_eq_true c]
        obtain ⟨⟨c1, c2⟩, c3, c4⟩ := c
        obtain ⟨y, hy⟩ := Option.isSome_iff_exists.mp c3
        have hstep : look (upsL cs b) hh = some y.1 := by rw [hlk, if_pos ⟨c1, c2⟩, hy]; rfl
        have hkm : hh ∈ rngOf (b.d - 2).toNat := List.mem_map.mpr ⟨(hh - 2).toNat, List.mem_range.mpr (by omega), by omega⟩
        have hn' : (ps ++ [hh]).Nodup := List.nodup_append.mpr ⟨hn5, by simp, fun a ha c hc e => c4 (by rw [← List.mem_singleton.mp hc, ← e]; exact ha)⟩
        have hk' : ∀ x ∈ ps ++ [hh], x ∈ rngOf (b.d - 2).toNat := fun x hx => by
          rcases List.mem_append.mp hx with q | q
          · exact hk5 x q
          · rw [List.mem_singleton.mp q]; exact hkm
        have hml' : ps.length + 1 ≤ (b.d - 2).toNat := by
          have := nd_len hn' hk'
          rw [List.length_append, hkl] at this
          exact this
        obtain ⟨n', rfl⟩ : ∃ n', n = n' + 1 := ⟨n - 1, by omega⟩
        rw [wkG_go hstep c4] at hF5
        refine iteT ⟨_, rfl, .inl ⟨rfl, _, SqL.of eP6⟩, _, rfl, PL, _, .int hh, rfl, rfl, eP6, by rw [List.length_map, sizeLine_eq]; omega, ?_⟩
        have fW : Fr [PL] H6 (upd H6 PL (.lst (ps.map V.int ++ [.int hh]))) := .put (by simp) fun o z => by rw [eP6] at z; cases z; rfl
        have s7 : Same H (upd H6 PL (.lst (ps.map V.int ++ [.int hh]))) := fun c o e => by rw [upd_ne (ne_of_none e hPL0)]; exact s6 _ _ e
        have f7 : Fr [RL] H2 (upd H6 PL (.lst (ps.map V.int ++ [.int hh]))) := fun c o e z => by rw [upd_ne (ne_of_none e hPL2)]; exact f6 c o e z
        have L7 := L6.fr fW (by simp [nPR.symm])
        have eP7 : upd H6 PL (.lst (ps.map V.int ++ [.int hh])) PL = some (.lst ((ps ++ [hh]).map V.int)) := by rw [upd_same, List.map_append]; rfl
        generalize upd H6 PL (.lst (ps.map V.int ++ [.int hh])) = H7 at s7 f7 L7 eP7 ⊢
        refine ⟨_, rfl, _, rfl, (by show 2 ≤ sizeLine; decide), fun kt hkt => ?_⟩
        have t8 := same_upd (o := .tup [V.str "dir", .int hh]) hkt
        have ekt : upd H7 kt (.tup [V.str "dir", .int hh]) kt = some (.tup (uV (true, hh))) := upd_same
        have s8 := s7.trans t8
        obtain ⟨v, hg, dv⟩ := (TA.same s8).get (dir_unit c1 c2) ekt
        have L8 := L7.same t8
        have f8 := f7.trans (Fr.of (cs := [RL]) t8)
        have eP8 := t8 _ _ eP7
        generalize upd H7 kt (.tup [V.str "dir", .int hh]) = H8 at s8 hg dv L8 f8 eP8 ⊢
        have hpd : placeN cs b (true, hh) = dirN cs b hh := rfl
        rw [hpd, hy] at dv
        obtain ⟨q, rfl, eq⟩ := dpu_place dv
        refine ⟨TD, _, rfl, hg, q, _, 0, _, rfl, rfl, SqT.of eq, atI_nat (j := 0) rfl, ?_⟩
        exact ⟨(b.d - 2).toNat - (ps ++ [hh]).length, by rw [List.length_append, List.length_singleton]; omega, ps ++ [hh], y.1, n', rfl, s8, f8, L8, eP8, hn', hk', hF5, by rw [List.length_append, List.length_singleton]; omega, rfl⟩
      · rw [decide_eq_false c]
        have hst : look (upsL cs b) hh = none ∨ hh ∈ ps := by
          by_cases c4 : hh ∈ ps
          · exact .inr c4
          · refine .inl ?_
            rw [hlk]
            by_cases c1 : 2 ≤ hh ∧ hh < b.d
            · rw [if_pos c1]
              cases e : dirN cs b hh with
              | none => rfl
              | some y => exact absurd ⟨c1, by rw [e]; rfl, c4⟩ c
            · rw [if_neg c1]
        rw [wkG_stop hst] at hF5
        subst hF5
        refine iteF (rg9 _ _ _ ⟨hh, 2 + ((i : Nat) : Int), ps, PL, RL, rs, rfl, rfl, rfl, rfl, eP6, L6, fun H7 s67 => ?_⟩)
        have s7 := s6.trans s67
        have f7 := f6.trans (Fr.of (cs := [RL]) s67)
        have L7 := L6.same s67
        have eP7 := s67 _ _ eP6
        by_cases c5 : ps ≠ [] ∧ hh = 2 + ((i : Nat) : Int) ∧ isI ps ∉ rs
        · rw [decide_eq_true c5]
          obtain ⟨us, eR, dR⟩ := id L7
          have hul := dps_len dR
          rw [List.length_map] at hul
          refine iteT ⟨_, rfl, .inl ⟨rfl, _, SqL.of eR⟩, _, rfl, PL, ps, rfl, SqL.of eP7, fun ns' p2 hpm hpw hp2 => ?_⟩
          have ens := isI_uniq hpm hpw
          have t8 := same_upd (o := .lst (ns'.map V.int)) hp2
          refine ⟨p2, _, rfl, .inl ⟨SqL.of upd_same, fun l hll => ?_⟩⟩
          have t9 := same_upd (o := .tup (ns'.map V.int)) hll
          have el : upd (upd H7 p2 (.lst (ns'.map V.int))) l (.tup (ns'.map V.int)) l = some (.tup (ns'.map V.int)) := upd_same
          have t89 := t8.trans t9
          have eR9 := t89 _ _ eR
          have dR9 := dps_same (tu_same t89) _ _ dR
          have s9 := s7.trans t89
          have f9 := f7.trans (Fr.of (cs := [RL]) t89)
          generalize upd (upd H7 p2 (.lst (ns'.map V.int))) l (.tup (ns'.map V.int)) = H9 at el eR9 dR9 s9 f9 ⊢
          refine ⟨RL, us, .ref l, rfl, rfl, eR9, by rw [hul, sizeLine_eq]; omega, ?_⟩
          have fW : Fr [RL] H9 (upd H9 RL (.lst (us ++ [.ref l]))) := .put (by simp) fun o z => by rw [eR9] at z; cases z; rfl
          refine ⟨_, _, _, rfl, fun c o e => by rw [upd_ne (ne_of_none e hRL0)]; exact s9 _ _ e, f9.trans fW, ?_⟩
          show LsU _ RL ((if ps ≠ [] ∧ hh = 2 + ((i : Nat) : Int) ∧ isI ps ∉ rs then rs ++ [isI ps] else rs).map rngD)
          rw [if_pos c5, List.map_append]
          refine LsU.push eR9 dR9 ?_
          rw [← ens]
          exact .tup (SqT.of (tu_at el)) (dps_ints _)
        · rw [decide_eq_false c5]
          refine iteF ⟨_, _, _, rfl, s7, f7, ?_⟩
          show LsU _ RL ((if ps ≠ [] ∧ hh = 2 + ((i : Nat) : Int) ∧ isI ps ∉ rs then rs ++ [isI ps] else rs).map rngD)
          rw [if_neg c5]
          exact L7
    · rintro σ H Q1 Q2 hq ⟨hh, ps, PL, e0, e1, e12, e11, eP, S, TA, q⟩
      exact ⟨hh, ps, PL, e0, e1, e12, e11, eP, S, TA, fun H' s' => hq _ _ (q H' s')⟩
  · rintro σ H3 ⟨y5', y11, y12, rfl, s3, f3, L3⟩
    rw [List.take_of_length_le (Nat.le_of_eq hkl)] at L3
    have hne := law_ne (look (upsL cs b)) (b.d - 2).toNat (rngOf (b.d - 2).toNat)
    have hrl := law_len (look (upsL cs b)) (b.d - 2).toNat (rngOf (b.d - 2).toNat)
    rw [hkl] at hrl
    generalize lawG (look (upsL cs b)) (b.d - 2).toNat (rngOf (b.d - 2).toNat) = rs at L3 hne hrl nx ⊢
    have LF3 := LR2.fr f3 (by simp [nFR])
    obtain ⟨us, eR, dR⟩ := id L3
    obtain ⟨bs, b1, b2, hb⟩ := zip_dps rngD dR
    refine ⟨_, rfl, _, rfl, RL, bs, rfl, by rw [b1]; exact SqL.of eR, fun x hx => dp_up _ _ (hb x hx), by rw [b2]; exact PySem.W.AllAlike.of rng_alike, ?_, fun x hx => ?_, fun p hp => ?_⟩
    · rw [b2]
      refine .inl fun d hd => ?_
      obtain ⟨r, hr', rfl⟩ := List.mem_map.mp hd
      cases r with
      | nil => exact absurd rfl (hne [] hr')
      | cons x r => exact ⟨_, _, rfl⟩
    · have hm2 : x.2 ∈ bs.map (·.2) := List.mem_map.mpr ⟨x, hx, rfl⟩
      rw [b2] at hm2
      obtain ⟨r, _, er⟩ := List.mem_map.mp hm2
      rw [← er]
      exact dep_rng r
    have s5 := same_upd (o := .lst ((bs.mergeSort (PySem.W.dataLe false fun b : V × PyData => b.2)).map (·.1))) hp
    have L5 : LsU (upd H3 p (.lst ((bs.mergeSort (PySem.W.dataLe false fun b : V × PyData => b.2)).map (·.1)))) p ((isL rs).map rngD) := by
      refine ⟨_, upd_same, ?_⟩
      have h9 := dps_same (tu_same s5) _ _ (sort_all hb)
      rw [b2, rng_sort] at h9
      exact h9
    have LF5 := LF3.same s5
    have s35 := s3.trans s5
    have hil : (isL rs).length ≤ 40 := by
      unfold isL
      rw [(isG_perm leL _).length_eq]
      omega
    generalize upd H3 p (.lst ((bs.mergeSort (PySem.W.dataLe false fun b : V × PyData => b.2)).map (·.1))) = H5 at L5 LF5 s35 ⊢
    obtain ⟨ug, eg, dg⟩ := id L5
    have hgl := dps_len dg
    rw [List.length_map] at hgl
    refine ⟨p, rfl, ⟨ug, SqL.of eg⟩, fun RG hRG => lc_list (K := K) (a := p) (xs := ug) (fun i H' => Same H5 H' ∧ LsU H' RG (((isL rs).take i).map rnD)) ⟨same_upd hRG, ⟨[], upd_same, .nil⟩⟩ (fun i H2 _ z => SqL.of (z.1 _ _ eg)) ?_ ?_⟩
    · rintro i x H' hi ⟨s7, us, eR, dR⟩
      obtain ⟨u, hu', hd'⟩ := dpu_at dg hi
      have hul := dps_len dR
      rw [List.length_map, List.length_take] at hul
      refine ⟨rfl, tyes_go ⟨_, rfl, (by show 2 ≤ sizeLine; decide), fun q hq => ?_⟩⟩
      have s8 := same_upd (o := .tup [V.str "ring", x]) hq
      refine ⟨us, s8 _ _ eR, by rw [sizeLine_eq]; omega, fun c o e => by rw [upd_ne (ne_of_none e hRG)]; exact s8 _ _ (s7 _ _ e), ?_⟩
      rw [List.take_succ, hu', List.map_append]
      exact LsU.push (s8 _ _ eR) (dps_same (tu_same s8) _ _ dR) (dpu_mk upd_same (.str _) (dp_same (tu_same (s7.trans s8)) _ _ hd'))
    rintro H7 ⟨s7, LR7⟩
    rw [hgl, List.take_length] at LR7
    obtain ⟨u1, e1, d1⟩ := LF5.same s7
    obtain ⟨u2, e2', d2⟩ := LR7
    have l1 := dps_len d1
    have l2 := dps_len d2
    rw [List.length_map] at l2
    refine ⟨RF, RG, _, _, rfl, rfl, e1, e2', by rw [sizeLine_eq]; omega, fun q hq => ?_⟩
    have s8 := same_upd (o := .lst (u1 ++ u2)) hq
    refine nx q _ ((s35.trans s7).trans s8) ((s35.trans s7).free hq) ⟨_, upd_same, ?_⟩
    exact dps_app (dps_same (tu_same s8) _ _ d1) (dps_same (tu_same s8) _ _ d2)
end
end Pf

set_option Elab.async false
set_option linter.all false
set_option maxRecDepth 100000
set_option maxHeartbeats 4000000
namespace Pf
open PySem PySem.Spec PyProof.Rows L2
theorem lay_all : ∀ {l : List PyData}, (∀ d ∈ l, d.canLay0 = true) → PyData.canLayAll0 l = true
  | [], _ => by simp [PyData.canLayAll0]
  | d :: l, h => by simp [PyData.canLayAll0, h d List.mem_cons_self, lay_all fun e m => h e (List.mem_cons_of_mem _ m)]
theorem dep_all {n : Nat} : ∀ {l : List PyData}, (∀ d ∈ l, d.depth ≤ n) → PyData.depthAll l ≤ n
  | [], _ => by simp [PyData.depthAll]
  | d :: l, h => by
    have h1 := h d List.mem_cons_self
    have h2 := dep_all (n := n) fun e m => h e (List.mem_cons_of_mem _ m)
    simp only [PyData.depthAll]
    omega
def OkD (d : PyData) : Prop := d.canLay0 = true ∧ d.depth ≤ 8
theorem ok_uns (l : List Un) : OkD (unsD l) := ⟨by simp [unsD, PyData.canLay0, lay_uns], by have := dep_uns l; simp only [unsD, PyData.depth]; omega⟩
theorem ok_un (u : Un) : OkD (uD u) := ⟨by simp [uD, PyData.canLay0, PyData.canLayAll0, uS_ok], by simp [uD, PyData.depth, PyData.depthAll]⟩
theorem ok_plc (o : Option (Int × Int)) : OkD (plD o) := by
  cases o with
  | none => exact ⟨by simp [plD, PyData.canLay0], by simp [plD, PyData.depth]⟩
  | some x => exact ⟨by simp [plD, PyData.canLay0, PyData.canLayAll0], by simp [plD, PyData.depth, PyData.depthAll]⟩
theorem str_ok1 : PyData.strOk "wrong" = true ∧ PyData.strOk "free" = true ∧ PyData.strOk "double" = true ∧ PyData.strOk "ring" = true := by decide +kernel
theorem ok_wr (u : Un) : OkD (wrD u) := ⟨by simp [wrD, PyData.canLay0, PyData.canLayAll0, str_ok1, (ok_un u).1], by simp [wrD, uD, PyData.depth, PyData.depthAll]⟩
theorem ok_fr (n : Int) (l : List Un) : OkD (frD n l) := ⟨by simp [frD, PyData.canLay0, PyData.canLayAll0, str_ok1, (ok_uns l).1], by have := dep_uns l; simp only [frD, unsD, PyData.depth, PyData.depthAll]; omega⟩
theorem ok_dbl (n m : Int) (l : List Un) : OkD (dbD n m l) := ⟨by simp [dbD, PyData.canLay0, PyData.canLayAll0, str_ok1, (ok_uns l).1], by have := dep_uns l; simp only [dbD, unsD, PyData.depth, PyData.depthAll]; omega⟩
theorem ok_rn (r : List Int) : OkD (rnD r) := ⟨by simp [rnD, rngD, PyData.canLay0, PyData.canLayAll0, str_ok1, lay_ints], by simp only [rnD, rngD, PyData.depth, PyData.depthAll, dep_ints]; omega⟩
theorem ok_faults (cs : List Ch) (b : Sh) : ∀ d ∈ faultsL cs b, OkD d := fun d hd => by
  unfold faultsL at hd
  rcases List.mem_append.mp hd with h | h
  · rcases List.mem_append.mp h with h | h
    · obtain ⟨u, _, rfl⟩ := List.mem_map.mp h
      exact ok_wr u
    · obtain ⟨i, _, h⟩ := List.mem_flatMap.mp h
      unfold fbL at h
      rcases List.mem_append.mp h with h | h
      · unfold frs at h
        split at h
        · rw [List.mem_singleton.mp h]; exact ok_fr _ _
        · cases h
      · unfold dbs at h
        obtain ⟨k, _, e⟩ := List.mem_filterMap.mp h
        unfold dbF at e
        split at e
        · rw [← Option.some.inj e]; exact ok_dbl _ _ _
        · cases e
  · obtain ⟨r, _, rfl⟩ := List.mem_map.mp h
    exact ok_rn r
theorem shl_of {l : List PyData} (h : ∀ d ∈ l, OkD d) : SeqAt.shaped (.list l) = true := shaped_list (lay_all fun d m => (h d m).1) (by have := dep_all (n := 8) fun d m => (h d m).2; omega)
theorem sht_of {l : List PyData} (h : ∀ d ∈ l, OkD d) : SeqAt.shaped (.tuple l) = true := shaped_tup (lay_all fun d m => (h d m).1) (by have := dep_all (n := 8) fun d m => (h d m).2; omega)
theorem eqv_list {l : List PyData} (h : ∀ d ∈ l, OkD d) : PyData.eqv (.list l) (.list l) = true := SeqAt.eqv_refl _ (by simp only [PyData.canLay0]; exact lay_all fun d m => (h d m).1)
theorem eqv_tup {l : List PyData} (h : ∀ d ∈ l, OkD d) : PyData.eqv (.tuple l) (.tuple l) = true := SeqAt.eqv_refl _ (by simp only [PyData.canLay0]; exact lay_all fun d m => (h d m).1)
theorem eqv_nil_l (l : List PyData) : PyData.eqv (.list l) (.list []) = decide (l = []) := by
  by_cases c : l = []
  · rw [decide_eq_true c, c]; simp [PyData.eqv, PyData.eqvAll]
  · rw [decide_eq_false c]; simp only [PyData.eqv, eqvAll_nil c]
/-! ### a home whose cells are empty has no faults -/
theorem faults_none {cs : List Ch} {b : Sh} (h : ∀ u ∈ unitsL b, placeN cs b u = none) (hd : 3 ≤ b.d ∧ b.d ≤ 6) : faultsL cs b = [] := by
  have h1 : wrongL cs b = [] := by
    unfold wrongL
    refine List.filter_eq_nil_iff.mpr fun u hu => ?_
    rw [h u hu]
    exact Bool.false_ne_true
  have h2 : ∀ n, benL cs b n = [] := fun n => List.filter_eq_nil_iff.mpr fun u hu => by
    unfold benB
    rw [h u hu]
    exact Bool.false_ne_true
  have h3 : upsL cs b = [] := by
    rw [ups_eq]
    unfold upU
    refine List.filterMap_eq_nil_iff.mpr fun i hi => ?_
    have hi' := List.mem_range.mp hi
    have hu := h (true, 2 + ((i : Nat) : Int)) (dir_unit (by omega) (by omega))
    have hp : dirN cs b (2 + ((i : Nat) : Int)) = none := hu
    unfold upN
    rw [hp]
    rfl
  unfold faultsL
  rw [h1, h3]
  have h4 : ∀ i : Nat, fbL cs b ((i : Nat) : Int) (lookG (grpN (placeN cs b) (unitsL b)) ((i : Nat) : Int)) = [] := fun i => by
    have h5 : (unitsL b).filter (benB (placeN cs b) ((i : Nat) : Int)) = [] := h2 _
    rw [look_grp, h5]
    unfold fbL frs
    rw [if_neg (fun z => by cases z.1), List.nil_append]
    unfold dbs
    have e0 : gsN (placeN cs b) [] = [] := rfl
    rw [e0]
    simp
  simp only [h4]
  simp
  rfl
section
variable {P : Program} {w : World} {K : PySem.W.Frag} {mg : Str → Option Value} {base : Heap} {C : Addr}
def spLfa (C : Addr) : Sp := fun vs H Q _ => ∃ (sa TD LU : Addr) (b : Sh) (cs : List Ch), vs = [.ref sa, .ref TD, .ref LU] ∧ ShAt C H sa b ∧ ShS b ∧ ToldAt H TD cs b ∧ LsU H LU ((unitsL b).map uD) ∧ ∀ R H', Same H H' → H R = none → LsU H' R (faultsL cs b) → Q (.ref R) H'
theorem ok_lfa {f : Addr} {fd : FuncData} (F : Fun K "_law_faults" "_law_faults" sLfa f fd) (T : ShTxt K C) (mse : mg "set" = none) (mso : mg "sorted" = none) (ml : mg "len" = none) (mt : mg "tuple" = none) (mr : mg "range" = none) : FnOk P w K mg base CX0 2 f fd ["shape", "told", "units"] (spLfa C) := by
  refine F.ok scLfa (fun vs H Q E h => ?_) (fun cdv A outer s H vs Q E hr h => ?_)
  · obtain ⟨sa, TD, LU, b, cs, rfl, _⟩ := h
    rfl
  · obtain ⟨sa, TD, LU, b, cs, rfl, S, sm, TA, AL, k⟩ := h
    obtain ⟨t2, h2, q2⟩ := lf_rest (P := P) (w := w) (base := base) (f := f) (cdv := cdv) (A := A) (outer := outer) (s := s) (H0 := H) (E := E) T mso mt mr hr
    obtain ⟨t1, h1, q1⟩ := lf_first (P := P) (w := w) (base := base) (f := f) (cdv := cdv) (A := A) (outer := outer) (s := s) (H0 := H) (E := E) T mse mso ml mt mr hr h2
    have hd := b.hd
    have hul : (unitsL b).length ≤ 60 := by
      unfold unitsL
      rw [List.length_append, dUn_len, rUn_len]
      have := sm.2.1
      have := sm.2.2.1
      omega
    refine ⟨t1, h1, q1 _ H sa TD LU b cs S TA AL hul fun RF y5 y6 y7 y8 y9 H1 s1 hRF LR => q2 _ H H1 sa TD LU RF b cs _ y5 y6 y7 y8 y9 s1 hRF ?_ ⟨sm.1, sm.2.1⟩ S TA LR fun R H2 s2 hR L2 => k R H2 s2 hR ?_⟩
    · have := accL_len cs b b.d.toNat
      have := sm.2.1
      omega
    · rw [← rings_eq cs b ⟨sm.1, sm.2.1⟩] at L2
      have e : faultsL cs b = accL cs b b.d.toNat ++ (ringsP (upsL cs b)).map rnD := by
        unfold faultsL accL
        simp only [look_grp]
      rw [e]
      exact L2
end
end Pf

set_option Elab.async false
set_option linter.all false
set_option maxRecDepth 100000
set_option maxHeartbeats 4000000
namespace Pf
open PySem PySem.Spec PyProof.Rows L2
abbrev NL : List Str := ["script", "draw", "shape", "home", "units", "told", "unit", "due"]
theorem scLaw : FnScope NL ["script"] (defScope sLaw) := ⟨rfl, rfl, rfl, by decide +kernel, rfl, by decide +kernel, by decide +kernel⟩
abbrev stL (j : Nat) : Stmt := (defBody sLaw).getD j (.Pass ⟨0, 0, 0, 0⟩)
abbrev XL (P : Program) (w : World) (K : PySem.W.Frag) (mg : Str → Option Value) (base : Heap) (f : Addr) (cdv : Value) (A : Around) (outer : List Env) (s : Shared) (H0 : Hp) (E : XK) : Cx := (cxOf CX0 P w K mg base NL "law" (defScope sLaw) f cdv A outer s H0 E).nox
theorem units_nodup (b : Sh) : (unitsL b).Nodup := by
  have hinj : ∀ (k : Bool) (c : Int) (n : Nat), ((List.range n).map fun i => ((k, c + ((i : Nat) : Int)) : Un)).Nodup := fun k c n => by
    refine List.Pairwise.map (fun i : Nat => ((k, c + ((i : Nat) : Int)) : Un)) (fun a d hne e => hne ?_) List.nodup_range
    have := congrArg Prod.snd e
    simp only at this
    omega
  unfold unitsL dUn rUn
  rw [List.nodup_append]
  refine ⟨hinj true 2 _, ?_, fun a ha c hc e => ?_⟩
  · have := hinj false 0 b.r.toNat
    simpa using this
  · obtain ⟨i, _, rfl⟩ := List.mem_map.mp ha
    obtain ⟨j, _, rfl⟩ := List.mem_map.mp hc
    have := congrArg Prod.fst e
    cases this
theorem keys_nodup (b : Sh) : ((unitsL b).map uK).Nodup := List.Pairwise.map uK (fun a d hne e => hne (uK_inj e)) (units_nodup b)
/-- while the law's pairs are told -/
structure TrI (H : Hp) (D : Addr) (tr : List (Addr × Addr × List Key × V)) (l : List Un) (pl : Un → Option (Int × Int)) : Prop where
  e : H D = some (.lst (tr.map fun t => V.ref t.1))
  t : ∀ t ∈ tr, H t.1 = some (.tup [.ref t.2.1, t.2.2.2]) ∧ H t.2.1 = some (.tup (t.2.2.1.map kV))
  k : tr.map (fun t => t.2.2.1) = l.map uK
  v : DpAll [] (Tu H) (tr.map fun t => t.2.2.2) (l.map fun u => plD (pl u))
theorem uns_ok (l : List Un) : ∀ d ∈ l.map uD, OkD d := fun d hd => by
  obtain ⟨u, _, rfl⟩ := List.mem_map.mp hd
  exact ok_un u
theorem pls_ok (pl : Un → Option (Int × Int)) (l : List Un) : ∀ d ∈ l.map (fun u => plD (pl u)), OkD d := fun d hd => by
  obtain ⟨u, _, rfl⟩ := List.mem_map.mp hd
  exact ok_plc _
section
variable {P : Program} {w : World} {K : PySem.W.Frag} {mg : Str → Option Value} {base : Heap} {C : Addr} {f : Addr} {cdv : Value} {A : Around} {outer : List Env} {s : Shared} {H0 : Hp} {E : XK} {rest : List Stmt} {u : TS}
abbrev SLs (sc a sa h LU : Addr) (y5 y7 : Option V) : L2.St := [some (.ref sc), some (.ref a), some (.ref sa), some (.ref h), some (.ref LU), y5, none, y7]
theorem law_03 {fS fH fU fP : Addr} {dS dH dU dP : FuncData}
    (DS : Df P w K mg base CX0 4 "_law_shape" ["draw"] (spLsh K C) fS dS) (DH : Df P w K mg base CX0 4 "_law_home" ["draw", "shape"] (spLh K C) fH dH) (DU : Df P w K mg base CX0 1 "_law_units" ["shape"] (spAu C) fU dU) (DP : Df P w K mg base CX0 3 "_law_place" ["shape", "home", "unit"] (spLpl K C) fP dP)
    (md : mg "dict" = none) (hr : Room 7 (A.deeper (envOfC "law" (defScope sLaw) s.heap.objs.size f cdv))) (hu : PSs (XL P w K mg base f cdv A outer s H0 E) rest u) :
    ∃ t, PSs (XL P w K mg base f cdv A outer s H0 E) (stL 0 :: stL 1 :: stL 2 :: stL 3 :: rest) t ∧ ∀ D σ H, (∃ (sc : Addr) (ss : List Int), σ = start NL [V.ref sc] ∧ SqL K H sc (ss.map V.int) ∧ ss.length ≤ 63) →
      (∀ H' sc a sa h LU TD b cs, ShAt C H' sa b → ShS b → HoAt K H' h cs b.pl → LsU H' LU ((unitsL b).map uD) → ToldAt H' TD cs b → u D (SLs sc a sa h LU (some (.ref TD)) none) H') → t D σ H := by
  have nd := scLaw.nd
  have h1 : Room 1 _ := hr.mono (by decide)
  have h3 : Room 3 _ := hr.mono (by decide)
  have h4 : Room 4 _ := hr.mono (by decide)
  refine ⟨_, pss_cons (ps_set (i := 1) nd rfl (.inl rfl) (pe_lst (pa_cons (pv 0) (pa_cons pe_int pa_nil))))
    (pss_cons (ps_set (i := 2) nd rfl (.inr rfl) (pe_call DS.G h4 rfl DS.g DS.kp DS.b .nil pass0 (pa_cons (pv 1) pa_nil)))
    (pss_cons (ps_asg (pe_tup (pa_cons (pe_call DH.G h4 rfl DH.g DH.kp DH.b .nil pass0 (pa_cons (pv 1) (pa_cons (pv 2) pa_nil))) (pa_cons (pe_call DU.G h1 rfl DU.g DU.kp DU.b .nil pass0 (pa_cons (pv 2) pa_nil)) pa_nil)))
        (pg_tup rfl (pgs_cons (pg_name (i := 3) nd rfl (.inr rfl)) (pgs_cons (pg_name (i := 4) nd rfl (.inl rfl)) pgs_nil))))
    (pss_cons (ps_set (i := 5) nd rfl (.inr rfl) (pe_callTy (call_dictPT rfl hr.units) (by rfl) md (by decide +kernel) (pa_cons
        (pe_lc (own := [("unit", 6)]) (g := gName 6) (tt := tYes) (te := tTup (tCons (tVar 6) (tCons (tCall (spLpl K C) [] E0 (tCons (tVar 2) (tCons (tVar 3) (tCons (tVar 6) tNil)))) tNil))) rfl nd (pi_list (pv 4)) (blkOk_by (N := NL) (sc := defScope sLaw) (by decide +kernel))
          (fun _ _ _ _ _ => pg_name (i := 6) nd rfl (.inl rfl)) (fun _ _ _ _ _ => pts_nil)
          (fun _ _ _ _ _ => pe_tup (pa_cons (pv 6) (pa_cons (pe_call DP.G h3 rfl DP.g DP.kp DP.b .nil pass0 (pa_cons (pv 2) (pa_cons (pv 3) (pa_cons (pv 6) pa_nil)))) pa_nil)))) pa_nil)))
    hu))), fun D σ H hI nx => ?_⟩
  obtain ⟨sc, ss, rfl, hS, hlen⟩ := hI
  refine ⟨_, rfl, (by show 2 ≤ sizeLine; decide), fun a ha => ?_⟩
  have s1 := same_upd (o := .lst [.ref sc, .int 0]) ha
  have D1 : DrawAt K (upd H a (.lst [.ref sc, .int 0])) a sc ss := by
    refine ⟨⟨0, upd_same⟩, Same.seq (fun b o e => ?_) hS, hlen⟩
    rw [off_out (by simp [ne_of_none e ha])]
    exact s1 _ _ e
  generalize upd H a (.lst [.ref sc, .int 0]) = G at D1 ⊢
  refine ⟨_, rfl, a, sc, ss, rfl, D1, fun sa b H1 S1 sm z1 D2 nsa => ?_⟩
  refine ⟨_, rfl, _, rfl, a, sc, sa, ss, b, rfl, D2, S1, sm.2.2.2.2, nsa, fun h cs H2 z2 D3 Ho nha => ?_⟩
  have S2 := S1.fr (D2.frb z2) (by simp [nsa])
  refine ⟨_, rfl, sa, b, rfl, S2, fun LU H3 s3 hLU AL => ⟨(by show 2 ≤ sizeLine; decide), fun tp htp => ?_⟩⟩
  have s4 := same_upd (o := .tup [.ref h, .ref LU]) htp
  have etp : upd H3 tp (.tup [.ref h, .ref LU]) tp = some (.tup [.ref h, .ref LU]) := upd_same
  have S4 := S2.same (s3.trans s4)
  have Ho4 := Ho.same (s3.trans s4)
  have AL4 := AL.same s4
  generalize upd H3 tp (.tup [.ref h, .ref LU]) = H4 at etp S4 Ho4 AL4 ⊢
  refine ⟨tp, _, rfl, SqT.of etp, rfl, _, _, rfl, _, _, rfl, rfl, ?_⟩
  clear D1 D2 D3 Ho S1 S2
  obtain ⟨uu, eu, du⟩ := id AL4
  have hul := dps_len du
  rw [List.length_map] at hul
  have hu98 := units_len b
  refine ⟨_, rfl, LU, rfl, ⟨uu, SqL.of eu⟩, fun L hL => lc_list (K := K) (a := LU) (xs := uu) (fun i H' => Same H4 H' ∧ ∃ tr, TrI H' L tr ((unitsL b).take i) (placeN cs b)) ⟨same_upd hL, [], ⟨upd_same, (fun t ht => by cases ht), rfl, .nil⟩⟩ (fun i H2 _ z => SqL.of (z.1 _ _ eu)) ?_ ?_⟩
  · rintro i x H' hi ⟨s5, tr, I⟩
    obtain ⟨u, hu', hd⟩ := dpu_at du hi
    obtain ⟨t, rfl, et⟩ := dpu_un hd
    have hU := in_units (List.mem_of_getElem? hu')
    have hkl := congrArg List.length I.k
    rw [List.length_map, List.length_map, List.length_take] at hkl
    refine ⟨rfl, tyes_go ⟨_, rfl, _, rfl, _, rfl, _, rfl, sa, h, t, b, cs, u, rfl, S4.same s5, Ho4.same s5, s5 _ _ et, hU, fun H6 v s6 dv => ⟨(by show 2 ≤ sizeLine; decide), fun p hp => ?_⟩⟩⟩
    have s7 := same_upd (o := .tup [V.ref t, v]) hp
    have s67 := s6.trans s7
    have eL := s67 _ _ I.e
    refine ⟨_, eL, by rw [List.length_map, sizeLine_eq]; omega, fun c o e => by rw [upd_ne (ne_of_none e hL)]; exact s67 _ _ (s5 _ _ e), tr ++ [(p, t, uK u, v)], ?_⟩
    have f : Fr [L] (upd H6 p (.tup [V.ref t, v])) (upd (upd H6 p (.tup [V.ref t, v])) L (.lst (tr.map (fun t => V.ref t.1) ++ [.ref p]))) := .put (by simp) fun o z => by rw [eL] at z; cases z; rfl
    refine ⟨?_, fun t' ht' => ?_, ?_, ?_⟩
    · rw [upd_same, List.map_append]; rfl
    · rcases List.mem_append.mp ht' with m | m
      · have := I.t t' m
        exact ⟨f.tup (s67 _ _ this.1), f.tup (s67 _ _ this.2)⟩
      · rw [List.mem_singleton.mp m]
        exact ⟨f.tup upd_same, by rw [uK_V]; exact f.tup (s67 _ _ (s5 _ _ et))⟩
    · rw [List.map_append, I.k, List.take_succ, hu', List.map_append]; rfl
    · rw [List.map_append, List.take_succ, hu', List.map_append]
      have tb := tu_fr f
      exact dps_app (dps_same ((tu_same s67).trans tb) _ _ I.v) (.cons (dp_same ((tu_same s7).trans tb) _ _ dv) .nil)
  · rintro H5 ⟨s5, tr, I⟩
    rw [hul, List.take_length] at I
    refine ⟨L, tr, rfl, SqL.of I.e, I.t, by rw [I.k]; exact keys_nodup b, fun TD hTD => ?_⟩
    have s6 := same_upd (o := .dT (tr.map fun t => (t.2.2.1, t.2.2.2))) hTD
    have s56 := s5.trans s6
    refine nx _ sc a sa h LU TD b cs (S4.same s56) sm (Ho4.same s56) (AL4.same s56) ⟨_, upd_same, ?_, ?_⟩
    · rw [List.map_map, List.map_map]
      exact I.k
    · rw [List.map_map, List.map_map]
      exact dps_same (tu_same s6) _ _ I.v
end
end Pf

set_option Elab.async false
set_option linter.all false
set_option maxRecDepth 100000
set_option maxHeartbeats 4000000
namespace Pf
open PySem PySem.Spec PyProof.Rows L2
theorem ne_bl (a c : Bool) : (!decide (V.bl a = V.bl c)) = (a != c) := by cases a <;> cases c <;> rfl
section
variable {P : Program} {w : World} {K : PySem.W.Frag} {mg : Str → Option Value} {base : Heap} {C : Addr} {f : Addr} {cdv : Value} {A : Around} {outer : List Env} {s : Shared} {H0 : Hp} {E : XK}
theorem law_47 {fA fP fL fF fI fE : Addr} {dA dP dL dF dI dE : FuncData} (T : ShTxt K C)
    (DA : Df P w K mg base CX0 1 "all_units" ["shape"] (spAu C) fA dA) (DP : Df P w K mg base CX0 3 "place_of" ["shape", "home", "unit"] (spPoU K C) fP dP) (DL : Df P w K mg base CX0 2 "_law_faults" ["shape", "told", "units"] (spLfa C) fL dL)
    (DF : Df P w K mg base CX0 6 "faults" ["shape", "home"] (spFa K C) fF dF) (DI : Df P w K mg base CX0 7 "is_right" ["shape", "home"] (spIr K C) fI dI) (ME : Me P w K mg base 1 C "empty_home" ["self"] (spEh K C) fE dE)
    (mt : mg "tuple" = none) (hr : Room 7 (A.deeper (envOfC "law" (defScope sLaw) s.heap.objs.size f cdv))) :
    ∃ t, PSs (XL P w K mg base f cdv A outer s H0 E) [stL 4, stL 5, stL 6, stL 7] t ∧ ∀ D H sc a sa h LU TD b cs, ShAt C H sa b → ShS b → HoAt K H h cs b.pl → LsU H LU ((unitsL b).map uD) → ToldAt H TD cs b → (∀ H', D.rt (.bl true) H') → t D (SLs sc a sa h LU (some (.ref TD)) none) H := by
  have nd := scLaw.nd
  have hu := hu_of hr
  have h1 : Room 1 _ := hr.mono (by decide)
  have h2 : Room 2 _ := hr.mono (by decide)
  have h3 : Room 3 _ := hr.mono (by decide)
  have h6 : Room 6 _ := hr.mono (by decide)
  refine ⟨_, pss_cons (ps_if (PW.pt (pw_or (pt_cmpR (op_neD hr.units) (pe_call DA.G h1 rfl DA.g DA.kp DA.b .nil pass0 (pa_cons (pv 2) pa_nil)) (pv 4) (nomark _))
        (pw_or1 (pt_cmpR (op_neD hr.units)
          (pe_lc (own := [("unit", 6)]) (g := gName 6) (tt := tYes) (te := tCall (spPoU K C) [] E0 (tCons (tVar 2) (tCons (tVar 3) (tCons (tVar 6) tNil)))) rfl nd (pi_list (pv 4)) (blkOk_by (N := NL) (sc := defScope sLaw) (by decide +kernel))
            (fun _ _ _ _ _ => pg_name (i := 6) nd rfl (.inl rfl)) (fun _ _ _ _ _ => pts_nil)
            (fun _ _ _ _ _ => pe_call DP.G h3 rfl DP.g DP.kp DP.b .nil pass0 (pa_cons (pv 2) (pa_cons (pv 3) (pa_cons (pv 6) pa_nil)))))
          (pe_lc (own := [("unit", 6)]) (g := gName 6) (tt := tYes) (te := tDGet (tVar 5) (tVar 6)) rfl nd (pi_list (pv 4)) (blkOk_by (N := NL) (sc := defScope sLaw) (by decide +kernel))
            (fun _ _ _ _ _ => pg_name (i := 6) nd rfl (.inl rfl)) (fun _ _ _ _ _ => pts_nil)
            (fun _ _ _ _ _ => pe_dget hu (pv 5) (pv 6) (fun _ _ => rfl))) (nomark _))))) (pss_one (ps_ret pe_bl)) pss_nil)
    (pss_cons (ps_set (i := 7) nd rfl (.inl rfl) (pe_call DL.G h2 rfl DL.g DL.kp DL.b .nil pass0 (pa_cons (pv 2) (pa_cons (pv 5) (pa_cons (pv 4) pa_nil)))))
    (pss_cons (ps_if (PW.pt (pw_or (pt_cmpR (op_neD hr.units) (pe_call DF.G h6 rfl DF.g DF.kp DF.b .nil pass0 (pa_cons (pv 2) (pa_cons (pv 3) pa_nil))) (pe_callTy call_tuple_of (by rfl) mt boot_tuple (pa_cons (pv 7) pa_nil)) (nomark _))
        (pw_or1 (pt_cmpR op_ne (pe_call DI.G hr rfl DI.g DI.kp DI.b .nil pass0 (pa_cons (pv 2) (pa_cons (pv 3) pa_nil))) (pe_cmpR (op_eqD hr.units) (pv 7) (pe_lst pa_nil) (nomark _)) (nomark _))))) (pss_one (ps_ret pe_bl)) pss_nil)
    (pss_one (ps_ret (pe_and (pe_call DI.G hr rfl DI.g DI.kp DI.b .nil pass0 (pa_cons (pv 2) (pa_cons (pe_meth0 (pv 2) T.cl ME.m ME.G h1 ME.b .nil pass0) pa_nil)))
      (pe_one (pe_cmpR (op_eqD hr.units) (pe_call DF.G h6 rfl DF.g DF.kp DF.b .nil pass0 (pa_cons (pv 2) (pa_cons (pe_meth0 (pv 2) T.cl ME.m ME.G h1 ME.b .nil pass0) pa_nil))) (pe_tup pa_nil) (nomark _)))))))), fun D H sc a sa h LU TD b cs S sm Ho AL TA k => ?_⟩
  refine ⟨_, rfl, sa, b, rfl, S, fun LA H1 s1 hLA A1 => ?_⟩
  have AL1 := AL.same s1
  obtain ⟨ua, ea, da⟩ := id A1
  obtain ⟨uu, eu, du⟩ := id AL1
  have hul := dps_len du
  rw [List.length_map] at hul
  have hu98 := units_len b
  refine ⟨_, rfl, .list ((unitsL b).map uD), .list ((unitsL b).map uD), .lst (SqL.of ea) (dps_up _ _ da), .lst (SqL.of eu) (dps_up _ _ du), shl_of (uns_ok _), shl_of (uns_ok _), _, rfl, ?_⟩
  rw [eqv_list (uns_ok _)]
  refine iteF ?_
  refine ⟨_, rfl, LU, rfl, ⟨uu, SqL.of eu⟩, fun L1 hL1 => lc_list (K := K) (a := LU) (xs := uu) (fun i H' => Same H1 H' ∧ LsU H' L1 (((unitsL b).take i).map fun u => plD (placeN cs b u))) ⟨same_upd hL1, ⟨[], upd_same, .nil⟩⟩ (fun i H2 _ z => SqL.of (z.1 _ _ eu)) ?_ ?_⟩
  · rintro i x H' hi ⟨s2, us, eD, dD⟩
    obtain ⟨u, hu', hd⟩ := dpu_at du hi
    obtain ⟨t, rfl, et⟩ := dpu_un hd
    have hl := dps_len dD
    rw [List.length_map, List.length_take] at hl
    have s12 := s1.trans s2
    refine ⟨rfl, tyes_go ⟨_, rfl, _, rfl, _, rfl, sa, h, t, b, cs, u, rfl, S.same s12, Ho.same s12, s2 _ _ et, fun H3 v s3 dv => ⟨us, s3 _ _ eD, by rw [sizeLine_eq]; omega, fun c o e => by rw [upd_ne (ne_of_none e hL1)]; exact s3 _ _ (s2 _ _ e), ?_⟩⟩⟩
    rw [List.take_succ, hu', List.map_append]
    exact LsU.push (s3 _ _ eD) (dps_same (tu_same s3) _ _ dD) dv
  rintro H2 ⟨s2, LP2⟩
  rw [hul, List.take_length] at LP2
  have s12 := s1.trans s2
  have eu2 := s2 _ _ eu
  have TA2 := TA.same s12
  refine ⟨_, rfl, LU, rfl, ⟨uu, SqL.of eu2⟩, fun L2 hL2 => lc_list (K := K) (a := LU) (xs := uu) (fun i H' => Same H2 H' ∧ LsU H' L2 (((unitsL b).take i).map fun u => plD (placeN cs b u))) ⟨same_upd hL2, ⟨[], upd_same, .nil⟩⟩ (fun i H2 _ z => SqL.of (z.1 _ _ eu2)) ?_ ?_⟩
  · rintro i x H' hi ⟨s3, us, eD, dD⟩
    obtain ⟨u, hu', hd⟩ := dpu_at du hi
    obtain ⟨t, rfl, et⟩ := dpu_un hd
    have hl := dps_len dD
    rw [List.length_map, List.length_take] at hl
    obtain ⟨v, hg, dv⟩ := (TA2.same s3).get (List.mem_of_getElem? hu') (s3 _ _ (s2 _ _ et))
    refine ⟨rfl, tyes_go ⟨_, rfl, _, rfl, TD, _, rfl, hg, us, eD, by rw [sizeLine_eq]; omega, fun c o e => by rw [upd_ne (ne_of_none e hL2)]; exact s3 _ _ e, ?_⟩⟩
    rw [List.take_succ, hu', List.map_append]
    exact LsU.push eD dD dv
  rintro H3 ⟨s3, LP3⟩
  rw [hul, List.take_length] at LP3
  obtain ⟨v1, g1, d1⟩ := LP2.same s3
  obtain ⟨v2, g2, d2⟩ := LP3
  have s13 := s12.trans s3
  refine ⟨.list ((unitsL b).map fun u => plD (placeN cs b u)), .list ((unitsL b).map fun u => plD (placeN cs b u)), .lst (SqL.of g1) (dps_up _ _ d1), .lst (SqL.of g2) (dps_up _ _ d2), shl_of (pls_ok _ _), shl_of (pls_ok _ _), _, rfl, ?_⟩
  rw [eqv_list (pls_ok _ _)]
  refine iteF ?_
  refine ⟨_, rfl, _, rfl, _, rfl, sa, TD, LU, b, cs, rfl, S.same s13, sm, TA.same s13, AL.same s13, fun R H4 s4 hR LR => ?_⟩
  have s14 := s13.trans s4
  refine ⟨_, rfl, _, rfl, sa, h, b, cs, rfl, S.same s14, Ho.same s14, fun t us H5 s5 et dt => ?_⟩
  obtain ⟨rs, eR, dR⟩ := LR.same s5
  refine ⟨_, rfl, R, rs, rfl, .inl ⟨SqL.of eR, fun q hq => ?_⟩⟩
  have s6 := same_upd (o := .tup rs) hq
  have eq6 : upd H5 q (.tup rs) q = some (.tup rs) := upd_same
  have et6 := s6 _ _ et
  have dt6 := dps_same (tu_same s6) _ _ dt
  have dR6 := dps_same (tu_same s6) _ _ dR
  have eR6 := s6 _ _ eR
  have s16 := (s14.trans s5).trans s6
  generalize upd H5 q (.tup rs) = H6 at eq6 et6 dt6 dR6 eR6 s16 ⊢
  refine ⟨.tuple (faultsL cs b), .tuple (faultsL cs b), .tup (SqT.of et6) (dps_up _ _ dt6), .tup (SqT.of eq6) (dps_up _ _ dR6), sht_of (ok_faults cs b), sht_of (ok_faults cs b), _, rfl, ?_⟩
  rw [eqv_tup (ok_faults cs b)]
  refine iteF ?_
  refine ⟨_, rfl, _, rfl, sa, h, b, cs, rfl, S.same s16, Ho.same s16, fun H7 s7 => ?_⟩
  refine ⟨_, rfl, Nat.zero_le _, fun l0 hl0 => ?_⟩
  have s8 := same_upd (o := .lst []) hl0
  have el0 : upd H7 l0 (.lst []) l0 = some (.lst ([] : List V)) := upd_same
  have eR8 := (s7.trans s8) _ _ eR6
  have dR8 := dps_same (tu_same (s7.trans s8)) _ _ dR6
  have s18 := s16.trans (s7.trans s8)
  generalize upd H7 l0 (.lst []) = H8 at el0 eR8 dR8 s18 ⊢
  refine ⟨.list (faultsL cs b), .list [], .lst (SqL.of eR8) (dps_up _ _ dR8), .lst (SqL.of el0) .nil, shl_of (ok_faults cs b), shl_of (fun d hd => by cases hd), ?_⟩
  rw [eqv_nil_l]
  refine ⟨rfl, _, rfl, ?_⟩
  rw [ne_bl, bne_self_eq_false]
  refine iteF ?_
  -- an empty home
  have Se := S.same s18
  obtain ⟨dx, es⟩ := id Se
  have hbd := b.bd
  have emp : ∀ cs', (∀ p : Int, 0 ≤ p → p < b.pl → p ≠ b.fu → rowAt cs' p = List.replicate 8 0) → faultsL cs' b = [] := fun cs' hz => by
    refine faults_none (fun u hu' => ?_) ⟨sm.1, sm.2.1⟩
    have hU := in_units hu'
    obtain ⟨q1, q2, q3, q4⟩ := cellP_in hU
    rw [place_eq hU]
    have hne : cellP b u ≠ b.fu := by
      unfold cellP
      have g1 := b.hd
      have g2 := b.hr
      rcases hU with ⟨hk, g3, g4⟩ | ⟨hk, g3, g4⟩
      · rw [if_pos hk]
        have : 1 + u.2 / 8 ≤ b.fr := by unfold Sh.fr; omega
        omega
      · rw [if_neg (by rw [hk]; exact Bool.false_ne_true)]
        unfold Sh.fu
        omega
    have hrow := hz _ q1 q2 hne
    have hc : cellN cs' (cellP b u) (u.2 % 8).toNat = 0 := by
      unfold cellN
      rw [hrow, List.getD_eq_getElem?_getD]
      cases e : (List.replicate 8 (0 : Int))[(u.2 % 8).toNat]? with
      | none => rfl
      | some x =>
        have := List.mem_of_getElem? e
        rw [List.eq_of_mem_replicate this]
        rfl
    rw [hc, if_pos (by decide)]
  refine ⟨_, rfl, _, rfl, sa, dx, _, rfl, es, zip_no (by decide +kernel), sa, b, rfl, Se, sm.2.2.2.2, fun H9 h9 cs9 s9 hn9 A9 hz9 => ?_⟩
  have Se9 := Se.same s9
  refine ⟨sa, h9, b, cs9, rfl, Se9, A9, fun H10 s10 => ?_⟩
  rw [decide_eq_true (emp cs9 hz9)]
  refine ⟨true, rfl, iteT ?_⟩
  have Se10 := Se9.same s10
  obtain ⟨dx10, es10⟩ := id Se10
  refine ⟨_, rfl, _, rfl, sa, dx10, _, rfl, es10, zip_no (by decide +kernel), sa, b, rfl, Se10, sm.2.2.2.2, fun H11 h11 cs11 s11 hn11 A11 hz11 => ?_⟩
  refine ⟨sa, h11, b, cs11, rfl, Se10.same s11, A11, fun t2 us2 H12 s12' et2 dt2 => ?_⟩
  rw [emp cs11 hz11] at dt2
  refine ⟨Nat.zero_le _, fun e0 he0 => ?_⟩
  have s13' := same_upd (o := .tup []) he0
  refine ⟨.tuple [], .tuple [], .tup (SqT.of (s13' _ _ et2)) (dps_up _ _ (dps_same (tu_same s13') _ _ dt2)), .tup (SqT.of upd_same) .nil, sht_of (fun d hd => by cases hd), sht_of (fun d hd => by cases hd), ?_⟩
  rw [eqv_tup (fun d hd => by cases hd)]
  exact k _
def spLaw (K : PySem.W.Frag) : Sp := fun vs H Q _ => ∃ (a : Addr) (ns : List Int), vs = [.ref a] ∧ SqL K H a (ns.map V.int) ∧ ns.length ≤ 63 ∧ ∀ H', Q (.bl true) H'
theorem ok_law {fS fH fU fPl fA fP fL fF fI fE : Addr} {fd dS dH dU dPl dA dP dL dF dI dE : FuncData} (F : Fun K "law" "law" sLaw f fd) (T : ShTxt K C)
    (DS : Df P w K mg base CX0 4 "_law_shape" ["draw"] (spLsh K C) fS dS) (DH : Df P w K mg base CX0 4 "_law_home" ["draw", "shape"] (spLh K C) fH dH) (DU : Df P w K mg base CX0 1 "_law_units" ["shape"] (spAu C) fU dU) (DPl : Df P w K mg base CX0 3 "_law_place" ["shape", "home", "unit"] (spLpl K C) fPl dPl)
    (DA : Df P w K mg base CX0 1 "all_units" ["shape"] (spAu C) fA dA) (DP : Df P w K mg base CX0 3 "place_of" ["shape", "home", "unit"] (spPoU K C) fP dP) (DL : Df P w K mg base CX0 2 "_law_faults" ["shape", "told", "units"] (spLfa C) fL dL)
    (DF : Df P w K mg base CX0 6 "faults" ["shape", "home"] (spFa K C) fF dF) (DI : Df P w K mg base CX0 7 "is_right" ["shape", "home"] (spIr K C) fI dI) (ME : Me P w K mg base 1 C "empty_home" ["self"] (spEh K C) fE dE)
    (md : mg "dict" = none) (mt : mg "tuple" = none) : FnOk P w K mg base CX0 8 f fd ["script"] (spLaw K) := by
  refine F.ok scLaw (fun vs H Q E h => ?_) (fun cdv A outer s H vs Q E hr h => ?_)
  · obtain ⟨a, ns, rfl, _⟩ := h
    rfl
  · obtain ⟨a, ns, rfl, hS, hlen, k⟩ := h
    obtain ⟨t4, h4, q4⟩ := law_47 (f := f) (cdv := cdv) (A := A) (outer := outer) (s := s) (H0 := H) (E := E) T DA DP DL DF DI ME mt hr
    obtain ⟨t0, h0, q0⟩ := law_03 (f := f) (cdv := cdv) (A := A) (outer := outer) (s := s) (H0 := H) (E := E) DS DH DU DPl md hr h4
    exact ⟨t0, PSs.nox h0, q0 _ _ _ ⟨a, ns, rfl, hS, hlen⟩ fun H1 sc a sa h LU TD b cs S1 sm Ho1 AL1 TA1 => q4 _ H1 sc a sa h LU TD b cs S1 sm Ho1 AL1 TA1 fun H5 => k H5⟩
end
end Pf

set_option Elab.async false
set_option linter.all false
set_option maxRecDepth 100000
set_option maxHeartbeats 8000000
namespace Pf
open PySem PySem.Spec PyProof.Rows L2
/-! ### what the top has written -/
theorem all_mk {l : PySem.W.OpenLaw} {w : World} {K : PySem.W.Frag} {h : Heap} {mg : Str → Option Value} {fa : Addr} (X : K.In h) (G : h.Ns mainGlobals mg) (hfa : mg "law" = some (.ref fa))
    {CS T0 aR f0 r0 r1 r2 r3 r4 f1 f2 f3 f4 f5 f6 f7 f8 f9 f10 f11 f12 f13 f14 f15 f16 f17 f18 f19 f20 f21 f22 f23 f24 f25 f26 f27 f28 f29 f30 f31 : Addr}
    {od0 an0 od1 an1 od2 an2 od3 an3 od4 an4 od5 an5 od6 an6 od7 an7 od8 an8 od9 an9 od10 an10 od11 an11 od12 an12 od13 an13 od14 an14 od15 an15 od16 an16 od17 an17 od18 an18 od19 an19 od20 an20 od21 an21 od22 an22 od23 an23 od24 an24 od25 an25 od26 an26 od27 an27 od28 an28 od29 an29 od30 an30 od31 an31 : Option Addr}
    {sl0 sl1 sl2 sl3 sl4 sl5 sl6 sl7 sl8 sl9 sl10 sl11 sl12 sl13 sl14 sl15 sl16 sl17 sl18 sl19 sl20 sl21 sl22 sl23 sl24 sl25 sl26 sl27 sl28 sl29 sl30 sl31 : Array (Option Value)}
    {oc0 kV0 dc0 pm0 cd0 ct0 oc1 kV1 dc1 pm1 cd1 ct1 oc2 kV2 dc2 pm2 cd2 ct2 oc3 kV3 dc3 pm3 cd3 ct3 oc4 kV4 dc4 pm4 cd4 ct4 oc5 kV5 dc5 pm5 cd5 ct5 oc6 kV6 dc6 pm6 cd6 ct6 oc7 kV7 dc7 pm7 cd7 ct7 oc8 kV8 dc8 pm8 cd8 ct8 oc9 kV9 dc9 pm9 cd9 ct9 oc10 kV10 dc10 pm10 cd10 ct10 oc11 kV11 dc11 pm11 cd11 ct11 oc12 kV12 dc12 pm12 cd12 ct12 oc13 kV13 dc13 pm13 cd13 ct13 oc14 kV14 dc14 pm14 cd14 ct14 oc15 kV15 dc15 pm15 cd15 ct15 oc16 kV16 dc16 pm16 cd16 ct16 oc17 kV17 dc17 pm17 cd17 ct17 oc18 kV18 dc18 pm18 cd18 ct18 oc19 kV19 dc19 pm19 cd19 ct19 oc20 kV20 dc20 pm20 cd20 ct20 oc21 kV21 dc21 pm21 cd21 ct21 oc22 kV22 dc22 pm22 cd22 ct22 oc23 kV23 dc23 pm23 cd23 ct23 oc24 kV24 dc24 pm24 cd24 ct24 oc25 kV25 dc25 pm25 cd25 ct25 oc26 kV26 dc26 pm26 cd26 ct26 oc27 kV27 dc27 pm27 cd27 ct27 oc28 kV28 dc28 pm28 cd28 ct28 oc29 kV29 dc29 pm29 cd29 ct29 oc30 kV30 dc30 pm30 cd30 ct30 oc31 kV31 dc31 pm31 cd31 ct31 : Value}
    {ddT ddR ddr0 ddr1 ddr2 ddr3 ddr4 : Option Addr} {nT nR nr0 nr1 nr2 nr3 nr4 : Nat} {slT slR slr0 slr1 slr2 slr3 slr4 : Array (Option Value)} {tk0 tk1 tk2 tk3 tk4 tk5 tk6 tk7 u0 v0 w0 u1 v1 w1 u2 v2 w2 u3 v3 w3 u4 v4 w4 : Tok}
    (aS : PySem.W.nsIn K mainGlobals "Shape" = some (some (.ref CS)))
    (a0 : PySem.W.nsIn K mainGlobals "is_whole" = some (some (.ref f0)))
    (l0 : K.lookup f0 = some ⟨oc0, od0, .func (PySem.W.fnOf "is_whole" "is_whole" (defArgs sWhole) (defBody sWhole) (defScope sWhole) (.ref T0) kV0 dc0 pm0 an0 cd0 ct0), sl0⟩)
    (lT : K.lookup T0 = some ⟨.type "tuple", ddT, .seq #[.none, .none] nT, slT⟩)
    (c0 : PySem.W.codeIn K cd0 "is_whole" = true)
    (k0 : PySem.W.keepIn K (.ref f0) = true)
    (aRg : PySem.W.nsIn K mainGlobals "RANGES" = some (some (.ref aR)))
    (lRg : K.lookup aR = some ⟨.type "tuple", ddR, .seq #[.ref r0, .ref r1, .ref r2, .ref r3, .ref r4] nR, slR⟩)
    (lr0 : K.lookup r0 = some ⟨.type "tuple", ddr0, .seq #[.str "dirs" u0, .int 2 v0, .int 40 w0] nr0, slr0⟩)
    (lr1 : K.lookup r1 = some ⟨.type "tuple", ddr1, .seq #[.str "rows" u1, .int 1 v1, .int 60 w1] nr1, slr1⟩)
    (lr2 : K.lookup r2 = some ⟨.type "tuple", ddr2, .seq #[.str "files" u2, .int 1 v2, .int 40 w2] nr2, slr2⟩)
    (lr3 : K.lookup r3 = some ⟨.type "tuple", ddr3, .seq #[.str "blocks" u3, .int 1 v3, .int 200 w3] nr3, slr3⟩)
    (lr4 : K.lookup r4 = some ⟨.type "tuple", ddr4, .seq #[.str "users" u4, .int 1 v4, .int 4 w4] nr4, slr4⟩)
    (a1 : PySem.W.nsIn K mainGlobals "plates_for" = some (some (.ref f1)))
    (l1 : K.lookup f1 = some ⟨oc1, od1, .func (PySem.W.fnOf "plates_for" "plates_for" (defArgs sPl) (defBody sPl) (defScope sPl) .none kV1 dc1 pm1 an1 cd1 ct1), sl1⟩)
    (c1 : PySem.W.codeIn K cd1 "plates_for" = true)
    (k1 : PySem.W.keepIn K (.ref f1) = true)
    (a2 : PySem.W.nsIn K mainGlobals "cell_at" = some (some (.ref f2)))
    (l2 : K.lookup f2 = some ⟨oc2, od2, .func (PySem.W.fnOf "cell_at" "cell_at" (defArgs sCa) (defBody sCa) (defScope sCa) .none kV2 dc2 pm2 an2 cd2 ct2), sl2⟩)
    (c2 : PySem.W.codeIn K cd2 "cell_at" = true)
    (k2 : PySem.W.keepIn K (.ref f2) = true)
    (a3 : PySem.W.nsIn K mainGlobals "dir_at" = some (some (.ref f3)))
    (l3 : K.lookup f3 = some ⟨oc3, od3, .func (PySem.W.fnOf "dir_at" "dir_at" (defArgs sDa) (defBody sDa) (defScope sDa) .none kV3 dc3 pm3 an3 cd3 ct3), sl3⟩)
    (c3 : PySem.W.codeIn K cd3 "dir_at" = true)
    (k3 : PySem.W.keepIn K (.ref f3) = true)
    (a4 : PySem.W.nsIn K mainGlobals "row_at" = some (some (.ref f4)))
    (l4 : K.lookup f4 = some ⟨oc4, od4, .func (PySem.W.fnOf "row_at" "row_at" (defArgs sRa) (defBody sRa) (defScope sRa) .none kV4 dc4 pm4 an4 cd4 ct4), sl4⟩)
    (c4 : PySem.W.codeIn K cd4 "row_at" = true)
    (k4 : PySem.W.keepIn K (.ref f4) = true)
    (a5 : PySem.W.nsIn K mainGlobals "is_dir" = some (some (.ref f5)))
    (l5 : K.lookup f5 = some ⟨oc5, od5, .func (PySem.W.fnOf "is_dir" "is_dir" (defArgs sIsD) (defBody sIsD) (defScope sIsD) .none kV5 dc5 pm5 an5 cd5 ct5), sl5⟩)
    (c5 : PySem.W.codeIn K cd5 "is_dir" = true)
    (k5 : PySem.W.keepIn K (.ref f5) = true)
    (a6 : PySem.W.nsIn K mainGlobals "dirs_of" = some (some (.ref f6)))
    (l6 : K.lookup f6 = some ⟨oc6, od6, .func (PySem.W.fnOf "dirs_of" "dirs_of" (defArgs sDso) (defBody sDso) (defScope sDso) .none kV6 dc6 pm6 an6 cd6 ct6), sl6⟩)
    (c6 : PySem.W.codeIn K cd6 "dirs_of" = true)
    (k6 : PySem.W.keepIn K (.ref f6) = true)
    (a7 : PySem.W.nsIn K mainGlobals "all_units" = some (some (.ref f7)))
    (l7 : K.lookup f7 = some ⟨oc7, od7, .func (PySem.W.fnOf "all_units" "all_units" (defArgs sAu) (defBody sAu) (defScope sAu) .none kV7 dc7 pm7 an7 cd7 ct7), sl7⟩)
    (c7 : PySem.W.codeIn K cd7 "all_units" = true)
    (k7 : PySem.W.keepIn K (.ref f7) = true)
    (a8 : PySem.W.nsIn K mainGlobals "place_of" = some (some (.ref f8)))
    (l8 : K.lookup f8 = some ⟨oc8, od8, .func (PySem.W.fnOf "place_of" "place_of" (defArgs sPo) (defBody sPo) (defScope sPo) .none kV8 dc8 pm8 an8 cd8 ct8), sl8⟩)
    (c8 : PySem.W.codeIn K cd8 "place_of" = true)
    (k8 : PySem.W.keepIn K (.ref f8) = true)
    (a9 : PySem.W.nsIn K mainGlobals "units_by_up" = some (some (.ref f9)))
    (l9 : K.lookup f9 = some ⟨oc9, od9, .func (PySem.W.fnOf "units_by_up" "units_by_up" (defArgs sUbu) (defBody sUbu) (defScope sUbu) .none kV9 dc9 pm9 an9 cd9 ct9), sl9⟩)
    (c9 : PySem.W.codeIn K cd9 "units_by_up" = true)
    (k9 : PySem.W.keepIn K (.ref f9) = true)
    (a10 : PySem.W.nsIn K mainGlobals "wrong_units" = some (some (.ref f10)))
    (l10 : K.lookup f10 = some ⟨oc10, od10, .func (PySem.W.fnOf "wrong_units" "wrong_units" (defArgs sWu) (defBody sWu) (defScope sWu) .none kV10 dc10 pm10 an10 cd10 ct10), sl10⟩)
    (c10 : PySem.W.codeIn K cd10 "wrong_units" = true)
    (k10 : PySem.W.keepIn K (.ref f10) = true)
    (a11 : PySem.W.nsIn K mainGlobals "groups_of" = some (some (.ref f11)))
    (l11 : K.lookup f11 = some ⟨oc11, od11, .func (PySem.W.fnOf "groups_of" "groups_of" (defArgs sGo) (defBody sGo) (defScope sGo) .none kV11 dc11 pm11 an11 cd11 ct11), sl11⟩)
    (c11 : PySem.W.codeIn K cd11 "groups_of" = true)
    (k11 : PySem.W.keepIn K (.ref f11) = true)
    (a12 : PySem.W.nsIn K mainGlobals "rings_of" = some (some (.ref f12)))
    (l12 : K.lookup f12 = some ⟨oc12, od12, .func (PySem.W.fnOf "rings_of" "rings_of" (defArgs sRio) (defBody sRio) (defScope sRio) .none kV12 dc12 pm12 an12 cd12 ct12), sl12⟩)
    (c12 : PySem.W.codeIn K cd12 "rings_of" = true)
    (k12 : PySem.W.keepIn K (.ref f12) = true)
    (a13 : PySem.W.nsIn K mainGlobals "faults_beneath" = some (some (.ref f13)))
    (l13 : K.lookup f13 = some ⟨oc13, od13, .func (PySem.W.fnOf "faults_beneath" "faults_beneath" (defArgs sFbe) (defBody sFbe) (defScope sFbe) .none kV13 dc13 pm13 an13 cd13 ct13), sl13⟩)
    (c13 : PySem.W.codeIn K cd13 "faults_beneath" = true)
    (k13 : PySem.W.keepIn K (.ref f13) = true)
    (a14 : PySem.W.nsIn K mainGlobals "faults" = some (some (.ref f14)))
    (l14 : K.lookup f14 = some ⟨oc14, od14, .func (PySem.W.fnOf "faults" "faults" (defArgs sFau) (defBody sFau) (defScope sFau) .none kV14 dc14 pm14 an14 cd14 ct14), sl14⟩)
    (c14 : PySem.W.codeIn K cd14 "faults" = true)
    (k14 : PySem.W.keepIn K (.ref f14) = true)
    (a15 : PySem.W.nsIn K mainGlobals "is_right" = some (some (.ref f15)))
    (l15 : K.lookup f15 = some ⟨oc15, od15, .func (PySem.W.fnOf "is_right" "is_right" (defArgs sIr) (defBody sIr) (defScope sIr) .none kV15 dc15 pm15 an15 cd15 ct15), sl15⟩)
    (c15 : PySem.W.codeIn K cd15 "is_right" = true)
    (k15 : PySem.W.keepIn K (.ref f15) = true)
    (a16 : PySem.W.nsIn K mainGlobals "_law_number" = some (some (.ref f16)))
    (l16 : K.lookup f16 = some ⟨oc16, od16, .func (PySem.W.fnOf "_law_number" "_law_number" (defArgs sNum) (defBody sNum) (defScope sNum) .none kV16 dc16 pm16 an16 cd16 ct16), sl16⟩)
    (c16 : PySem.W.codeIn K cd16 "_law_number" = true)
    (k16 : PySem.W.keepIn K (.ref f16) = true)
    (a17 : PySem.W.nsIn K mainGlobals "_law_take" = some (some (.ref f17)))
    (l17 : K.lookup f17 = some ⟨oc17, od17, .func (PySem.W.fnOf "_law_take" "_law_take" (defArgs sTake) (defBody sTake) (defScope sTake) .none kV17 dc17 pm17 an17 cd17 ct17), sl17⟩)
    (c17 : PySem.W.codeIn K cd17 "_law_take" = true)
    (k17 : PySem.W.keepIn K (.ref f17) = true)
    (a18 : PySem.W.nsIn K mainGlobals "_law_pick" = some (some (.ref f18)))
    (l18 : K.lookup f18 = some ⟨oc18, od18, .func (PySem.W.fnOf "_law_pick" "_law_pick" (defArgs sPick) (defBody sPick) (defScope sPick) .none kV18 dc18 pm18 an18 cd18 ct18), sl18⟩)
    (c18 : PySem.W.codeIn K cd18 "_law_pick" = true)
    (k18 : PySem.W.keepIn K (.ref f18) = true)
    (a19 : PySem.W.nsIn K mainGlobals "_law_shape" = some (some (.ref f19)))
    (l19 : K.lookup f19 = some ⟨oc19, od19, .func (PySem.W.fnOf "_law_shape" "_law_shape" (defArgs sLsh) (defBody sLsh) (defScope sLsh) .none kV19 dc19 pm19 an19 cd19 ct19), sl19⟩)
    (c19 : PySem.W.codeIn K cd19 "_law_shape" = true)
    (k19 : PySem.W.keepIn K (.ref f19) = true)
    (a20 : PySem.W.nsIn K mainGlobals "_law_units" = some (some (.ref f20)))
    (l20 : K.lookup f20 = some ⟨oc20, od20, .func (PySem.W.fnOf "_law_units" "_law_units" (defArgs sLun) (defBody sLun) (defScope sLun) .none kV20 dc20 pm20 an20 cd20 ct20), sl20⟩)
    (c20 : PySem.W.codeIn K cd20 "_law_units" = true)
    (k20 : PySem.W.keepIn K (.ref f20) = true)
    (a21 : PySem.W.nsIn K mainGlobals "_law_cell" = some (some (.ref f21)))
    (l21 : K.lookup f21 = some ⟨oc21, od21, .func (PySem.W.fnOf "_law_cell" "_law_cell" (defArgs sLce) (defBody sLce) (defScope sLce) .none kV21 dc21 pm21 an21 cd21 ct21), sl21⟩)
    (c21 : PySem.W.codeIn K cd21 "_law_cell" = true)
    (k21 : PySem.W.keepIn K (.ref f21) = true)
    (a22 : PySem.W.nsIn K mainGlobals "_law_with" = some (some (.ref f22)))
    (l22 : K.lookup f22 = some ⟨oc22, od22, .func (PySem.W.fnOf "_law_with" "_law_with" (defArgs sLwi) (defBody sLwi) (defScope sLwi) .none kV22 dc22 pm22 an22 cd22 ct22), sl22⟩)
    (c22 : PySem.W.codeIn K cd22 "_law_with" = true)
    (k22 : PySem.W.keepIn K (.ref f22) = true)
    (a23 : PySem.W.nsIn K mainGlobals "_law_place" = some (some (.ref f23)))
    (l23 : K.lookup f23 = some ⟨oc23, od23, .func (PySem.W.fnOf "_law_place" "_law_place" (defArgs sLpla) (defBody sLpla) (defScope sLpla) .none kV23 dc23 pm23 an23 cd23 ct23), sl23⟩)
    (c23 : PySem.W.codeIn K cd23 "_law_place" = true)
    (k23 : PySem.W.keepIn K (.ref f23) = true)
    (a24 : PySem.W.nsIn K mainGlobals "_law_number_of" = some (some (.ref f24)))
    (l24 : K.lookup f24 = some ⟨oc24, od24, .func (PySem.W.fnOf "_law_number_of" "_law_number_of" (defArgs sLno) (defBody sLno) (defScope sLno) .none kV24 dc24 pm24 an24 cd24 ct24), sl24⟩)
    (c24 : PySem.W.codeIn K cd24 "_law_number_of" = true)
    (k24 : PySem.W.keepIn K (.ref f24) = true)
    (a25 : PySem.W.nsIn K mainGlobals "_law_home" = some (some (.ref f25)))
    (l25 : K.lookup f25 = some ⟨oc25, od25, .func (PySem.W.fnOf "_law_home" "_law_home" (defArgs sLh) (defBody sLh) (defScope sLh) .none kV25 dc25 pm25 an25 cd25 ct25), sl25⟩)
    (c25 : PySem.W.codeIn K cd25 "_law_home" = true)
    (k25 : PySem.W.keepIn K (.ref f25) = true)
    (a26 : PySem.W.nsIn K mainGlobals "_law_faults" = some (some (.ref f26)))
    (l26 : K.lookup f26 = some ⟨oc26, od26, .func (PySem.W.fnOf "_law_faults" "_law_faults" (defArgs sLfa) (defBody sLfa) (defScope sLfa) .none kV26 dc26 pm26 an26 cd26 ct26), sl26⟩)
    (c26 : PySem.W.codeIn K cd26 "_law_faults" = true)
    (k26 : PySem.W.keepIn K (.ref f26) = true)
    (a27 : PySem.W.nsIn K mainGlobals "law" = some (some (.ref f27)))
    (l27 : K.lookup f27 = some ⟨oc27, od27, .func (PySem.W.fnOf "law" "law" (defArgs sLaw) (defBody sLaw) (defScope sLaw) .none kV27 dc27 pm27 an27 cd27 ct27), sl27⟩)
    (c27 : PySem.W.codeIn K cd27 "law" = true)
    (k27 : PySem.W.keepIn K (.ref f27) = true)
    (a28 : PySem.W.findIn K (.ref CS) "__init__" = some (some (.ref f28)))
    (i28 : PySem.W.isFn K (.ref f28) = true)
    (l28 : K.lookup f28 = some ⟨oc28, od28, .func (PySem.W.fnOf "__init__" "Shape.__init__" (defArgs sShI) (defBody sShI) (defScope sShI) .none kV28 dc28 pm28 an28 cd28 ct28), sl28⟩)
    (c28 : PySem.W.codeIn K cd28 "Shape.__init__" = true)
    (k28 : PySem.W.keepIn K (.ref f28) = true)
    (a29 : PySem.W.findIn K (.ref CS) "dir_cell" = some (some (.ref f29)))
    (i29 : PySem.W.isFn K (.ref f29) = true)
    (l29 : K.lookup f29 = some ⟨oc29, od29, .func (PySem.W.fnOf "dir_cell" "Shape.dir_cell" (defArgs sDc) (defBody sDc) (defScope sDc) .none kV29 dc29 pm29 an29 cd29 ct29), sl29⟩)
    (c29 : PySem.W.codeIn K cd29 "Shape.dir_cell" = true)
    (k29 : PySem.W.keepIn K (.ref f29) = true)
    (a30 : PySem.W.findIn K (.ref CS) "row_cell" = some (some (.ref f30)))
    (i30 : PySem.W.isFn K (.ref f30) = true)
    (l30 : K.lookup f30 = some ⟨oc30, od30, .func (PySem.W.fnOf "row_cell" "Shape.row_cell" (defArgs sRc) (defBody sRc) (defScope sRc) .none kV30 dc30 pm30 an30 cd30 ct30), sl30⟩)
    (c30 : PySem.W.codeIn K cd30 "Shape.row_cell" = true)
    (k30 : PySem.W.keepIn K (.ref f30) = true)
    (a31 : PySem.W.findIn K (.ref CS) "empty_home" = some (some (.ref f31)))
    (i31 : PySem.W.isFn K (.ref f31) = true)
    (l31 : K.lookup f31 = some ⟨oc31, od31, .func (PySem.W.fnOf "empty_home" "Shape.empty_home" (defArgs sEh) (defBody sEh) (defScope sEh) .none kV31 dc31 pm31 an31 cd31 ct31), sl31⟩)
    (c31 : PySem.W.codeIn K cd31 "Shape.empty_home" = true)
    (k31 : PySem.W.keepIn K (.ref f31) = true)
    (pgCS : PySem.W.plainGet K CS Str.empty = true)
    (hdCS : PySem.W.hasDictIn K CS = true)
    (poCS : PySem.W.plainOver K CS = true)
    (saCS : PySem.W.findIn K (.ref CS) "__setattr__" = some (some (.builtin "object.__setattr__")))
    (mkCS : PySem.W.makesIn K CS = true)
    (kcCS : PySem.W.keepIn K (.ref CS) = true)
    (m_dirs : PySem.W.findIn K (.ref CS) "dirs" = some none)
    (m_rows : PySem.W.findIn K (.ref CS) "rows" = some none)
    (m_files : PySem.W.findIn K (.ref CS) "files" = some none)
    (m_blocks : PySem.W.findIn K (.ref CS) "blocks" = some none)
    (m_users : PySem.W.findIn K (.ref CS) "users" = some none)
    (m_first_row : PySem.W.findIn K (.ref CS) "first_row" = some none)
    (m_first_user : PySem.W.findIn K (.ref CS) "first_user" = some none)
    (m_first_file : PySem.W.findIn K (.ref CS) "first_file" = some none)
    (m_first_block : PySem.W.findIn K (.ref CS) "first_block" = some none)
    (m_plates : PySem.W.findIn K (.ref CS) "plates" = some none)
    (v_WIDTH : PySem.W.nsIn K mainGlobals "WIDTH" = some (some (.int 8 tk0)))
    (v_NAMES : PySem.W.nsIn K mainGlobals "NAMES" = some (some (.int 475254 tk1)))
    (v_ROOT : PySem.W.nsIn K mainGlobals "ROOT" = some (some (.int 0 tk2)))
    (v_FOUND : PySem.W.nsIn K mainGlobals "FOUND" = some (some (.int 1 tk3)))
    (v_FIRST_DIR_shape : PySem.W.nsIn K mainGlobals "FIRST_DIR_shape" = some (some (.int 1 tk4)))
    (v_FIRST_DIR_readings : PySem.W.nsIn K mainGlobals "FIRST_DIR_readings" = some (some (.int 2 tk5)))
    (v_DIR : PySem.W.nsIn K mainGlobals "DIR" = some (some (.str "dir" tk6)))
    (v_ROW : PySem.W.nsIn K mainGlobals "ROW" = some (some (.str "row" tk7)))
    (z_isinstance : PySem.W.nsIn K mainGlobals "isinstance" = some none)
    (z_int : PySem.W.nsIn K mainGlobals "int" = some none)
    (z_bool : PySem.W.nsIn K mainGlobals "bool" = some none)
    (z_tuple : PySem.W.nsIn K mainGlobals "tuple" = some none)
    (z_len : PySem.W.nsIn K mainGlobals "len" = some none)
    (z_range : PySem.W.nsIn K mainGlobals "range" = some none)
    (z_list : PySem.W.nsIn K mainGlobals "list" = some none)
    (z_abs : PySem.W.nsIn K mainGlobals "abs" = some none)
    (z_zip : PySem.W.nsIn K mainGlobals "zip" = some none)
    (z_sorted : PySem.W.nsIn K mainGlobals "sorted" = some none)
    (z_dict : PySem.W.nsIn K mainGlobals "dict" = some none)
    (z_set : PySem.W.nsIn K mainGlobals "set" = some none)
    : ∃ fd : FuncData, (∀ (s : Shared) (v : Value), BindsTo s fd ⟨[v], []⟩ [("script", v)]) ∧ ∀ base : Heap, K.In base → base.Ns mainGlobals mg → FnOk l.prog w K mg base CX0 8 fa fd ["script"] (spLaw K) := by
  have e := hfa.symm.trans (PySem.W.mg_of X G a27)
  cases e
  have b_isinstance : mg "isinstance" = none := PySem.W.mg_none_of X G z_isinstance
  have b_int : mg "int" = none := PySem.W.mg_none_of X G z_int
  have b_bool : mg "bool" = none := PySem.W.mg_none_of X G z_bool
  have b_tuple : mg "tuple" = none := PySem.W.mg_none_of X G z_tuple
  have b_len : mg "len" = none := PySem.W.mg_none_of X G z_len
  have b_range : mg "range" = none := PySem.W.mg_none_of X G z_range
  have b_list : mg "list" = none := PySem.W.mg_none_of X G z_list
  have b_abs : mg "abs" = none := PySem.W.mg_none_of X G z_abs
  have b_zip : mg "zip" = none := PySem.W.mg_none_of X G z_zip
  have b_sorted : mg "sorted" = none := PySem.W.mg_none_of X G z_sorted
  have b_dict : mg "dict" = none := PySem.W.mg_none_of X G z_dict
  have b_set : mg "set" = none := PySem.W.mg_none_of X G z_set
  have m_WIDTH := PySem.W.mg_of X G v_WIDTH
  have m_NAMES := PySem.W.mg_of X G v_NAMES
  have m_ROOT := PySem.W.mg_of X G v_ROOT
  have m_FOUND := PySem.W.mg_of X G v_FOUND
  have m_FIRST_DIR_shape := PySem.W.mg_of X G v_FIRST_DIR_shape
  have m_FIRST_DIR_readings := PySem.W.mg_of X G v_FIRST_DIR_readings
  have m_DIR := PySem.W.mg_of X G v_DIR
  have m_ROW := PySem.W.mg_of X G v_ROW
  have R : RTxt K mg aR r0 r1 r2 r3 r4 := ⟨PySem.W.mg_of X G aRg, fun H => .inr ⟨_, _, _, lRg, rfl, rfl, (by show 5 ≤ sizeLine; decide), .cons rfl (.cons rfl (.cons rfl (.cons rfl (.cons rfl (.nil)))))⟩, fun H => .inr ⟨_, _, _, lr0, rfl, rfl, (by show 3 ≤ sizeLine; decide), .cons ⟨_, rfl⟩ (.cons ⟨_, rfl⟩ (.cons ⟨_, rfl⟩ (.nil)))⟩, fun H => .inr ⟨_, _, _, lr1, rfl, rfl, (by show 3 ≤ sizeLine; decide), .cons ⟨_, rfl⟩ (.cons ⟨_, rfl⟩ (.cons ⟨_, rfl⟩ (.nil)))⟩, fun H => .inr ⟨_, _, _, lr2, rfl, rfl, (by show 3 ≤ sizeLine; decide), .cons ⟨_, rfl⟩ (.cons ⟨_, rfl⟩ (.cons ⟨_, rfl⟩ (.nil)))⟩, fun H => .inr ⟨_, _, _, lr3, rfl, rfl, (by show 3 ≤ sizeLine; decide), .cons ⟨_, rfl⟩ (.cons ⟨_, rfl⟩ (.cons ⟨_, rfl⟩ (.nil)))⟩, fun H => .inr ⟨_, _, _, lr4, rfl, rfl, (by show 3 ≤ sizeLine; decide), .cons ⟨_, rfl⟩ (.cons ⟨_, rfl⟩ (.cons ⟨_, rfl⟩ (.nil)))⟩⟩
  have TS : ShTxt K CS := ⟨⟨pgCS, hdCS, poCS, saCS⟩, fun x hx => by
    simp only [ShN, List.mem_cons, List.not_mem_nil, or_false] at hx
    rcases hx with rfl | rfl | rfl | rfl | rfl | rfl | rfl | rfl | rfl | rfl
    · exact m_dirs
    · exact m_rows
    · exact m_files
    · exact m_blocks
    · exact m_users
    · exact m_first_row
    · exact m_first_user
    · exact m_first_file
    · exact m_first_block
    · exact m_plates⟩
  have F1 := fun_mk (st := sPl) l1 c1 k1
  have b1 := F1.binds (ps := ["cells"]) fun _ _ _ _ _ _ us hl => match us, hl with | [_], _ => rfl
  have F2 := fun_mk (st := sCa) l2 c2 k2
  have b2 := F2.binds (ps := ["home", "place"]) fun _ _ _ _ _ _ us hl => match us, hl with | [_, _], _ => rfl
  have F3 := fun_mk (st := sDa) l3 c3 k3
  have b3 := F3.binds (ps := ["home", "shape", "number"]) fun _ _ _ _ _ _ us hl => match us, hl with | [_, _, _], _ => rfl
  have F4 := fun_mk (st := sRa) l4 c4 k4
  have b4 := F4.binds (ps := ["home", "shape", "number"]) fun _ _ _ _ _ _ us hl => match us, hl with | [_, _, _], _ => rfl
  have F5 := fun_mk (st := sIsD) l5 c5 k5
  have b5 := F5.binds (ps := ["home", "shape", "number"]) fun _ _ _ _ _ _ us hl => match us, hl with | [_, _, _], _ => rfl
  have F6 := fun_mk (st := sDso) l6 c6 k6
  have b6 := F6.binds (ps := ["home", "shape"]) fun _ _ _ _ _ _ us hl => match us, hl with | [_, _], _ => rfl
  have F7 := fun_mk (st := sAu) l7 c7 k7
  have b7 := F7.binds (ps := ["shape"]) fun _ _ _ _ _ _ us hl => match us, hl with | [_], _ => rfl
  have F8 := fun_mk (st := sPo) l8 c8 k8
  have b8 := F8.binds (ps := ["shape", "home", "unit"]) fun _ _ _ _ _ _ us hl => match us, hl with | [_, _, _], _ => rfl
  have F9 := fun_mk (st := sUbu) l9 c9 k9
  have b9 := F9.binds (ps := ["shape", "home"]) fun _ _ _ _ _ _ us hl => match us, hl with | [_, _], _ => rfl
  have F10 := fun_mk (st := sWu) l10 c10 k10
  have b10 := F10.binds (ps := ["shape", "home"]) fun _ _ _ _ _ _ us hl => match us, hl with | [_, _], _ => rfl
  have F11 := fun_mk (st := sGo) l11 c11 k11
  have b11 := F11.binds (ps := ["shape", "home", "units"]) fun _ _ _ _ _ _ us hl => match us, hl with | [_, _, _], _ => rfl
  have F12 := fun_mk (st := sRio) l12 c12 k12
  have b12 := F12.binds (ps := ["shape", "home"]) fun _ _ _ _ _ _ us hl => match us, hl with | [_, _], _ => rfl
  have F13 := fun_mk (st := sFbe) l13 c13 k13
  have b13 := F13.binds (ps := ["shape", "home", "up", "units"]) fun _ _ _ _ _ _ us hl => match us, hl with | [_, _, _, _], _ => rfl
  have F14 := fun_mk (st := sFau) l14 c14 k14
  have b14 := F14.binds (ps := ["shape", "home"]) fun _ _ _ _ _ _ us hl => match us, hl with | [_, _], _ => rfl
  have F15 := fun_mk (st := sIr) l15 c15 k15
  have b15 := F15.binds (ps := ["shape", "home"]) fun _ _ _ _ _ _ us hl => match us, hl with | [_, _], _ => rfl
  have F16 := fun_mk (st := sNum) l16 c16 k16
  have b16 := F16.binds (ps := ["script", "index"]) fun _ _ _ _ _ _ us hl => match us, hl with | [_, _], _ => rfl
  have F17 := fun_mk (st := sTake) l17 c17 k17
  have b17 := F17.binds (ps := ["draw", "many"]) fun _ _ _ _ _ _ us hl => match us, hl with | [_, _], _ => rfl
  have F18 := fun_mk (st := sPick) l18 c18 k18
  have b18 := F18.binds (ps := ["draw", "items"]) fun _ _ _ _ _ _ us hl => match us, hl with | [_, _], _ => rfl
  have F19 := fun_mk (st := sLsh) l19 c19 k19
  have b19 := F19.binds (ps := ["draw"]) fun _ _ _ _ _ _ us hl => match us, hl with | [_], _ => rfl
  have F20 := fun_mk (st := sLun) l20 c20 k20
  have b20 := F20.binds (ps := ["shape"]) fun _ _ _ _ _ _ us hl => match us, hl with | [_], _ => rfl
  have F21 := fun_mk (st := sLce) l21 c21 k21
  have b21 := F21.binds (ps := ["shape", "unit"]) fun _ _ _ _ _ _ us hl => match us, hl with | [_, _], _ => rfl
  have F22 := fun_mk (st := sLwi) l22 c22 k22
  have b22 := F22.binds (ps := ["home", "cell", "number"]) fun _ _ _ _ _ _ us hl => match us, hl with | [_, _, _], _ => rfl
  have F23 := fun_mk (st := sLpla) l23 c23 k23
  have b23 := F23.binds (ps := ["shape", "home", "unit"]) fun _ _ _ _ _ _ us hl => match us, hl with | [_, _, _], _ => rfl
  have F24 := fun_mk (st := sLno) l24 c24 k24
  have b24 := F24.binds (ps := ["shape", "unit", "up", "name", "file"]) fun _ _ _ _ _ _ us hl => match us, hl with | [_, _, _, _, _], _ => rfl
  have F25 := fun_mk (st := sLh) l25 c25 k25
  have b25 := F25.binds (ps := ["draw", "shape"]) fun _ _ _ _ _ _ us hl => match us, hl with | [_, _], _ => rfl
  have F26 := fun_mk (st := sLfa) l26 c26 k26
  have b26 := F26.binds (ps := ["shape", "told", "units"]) fun _ _ _ _ _ _ us hl => match us, hl with | [_, _, _], _ => rfl
  have F27 := fun_mk (st := sLaw) l27 c27 k27
  have b27 := F27.binds (ps := ["script"]) fun _ _ _ _ _ _ us hl => match us, hl with | [_], _ => rfl
  have F28 := fun_mk (st := sShI) l28 c28 k28
  have b28 := F28.binds (ps := ["self", "dirs", "rows", "files", "blocks", "users"]) fun _ _ _ _ _ _ us hl => match us, hl with | [_, _, _, _, _, _], _ => rfl
  have F29 := fun_mk (st := sDc) l29 c29 k29
  have b29 := F29.binds (ps := ["self", "number"]) fun _ _ _ _ _ _ us hl => match us, hl with | [_, _], _ => rfl
  have F30 := fun_mk (st := sRc) l30 c30 k30
  have b30 := F30.binds (ps := ["self", "number"]) fun _ _ _ _ _ _ us hl => match us, hl with | [_, _], _ => rfl
  have F31 := fun_mk (st := sEh) l31 c31 k31
  have b31 := F31.binds (ps := ["self"]) fun _ _ _ _ _ _ us hl => match us, hl with | [_], _ => rfl
  have F0 : FunD K "is_whole" "is_whole" (defArgs sWhole) (defBody sWhole) (defScope sWhole) [.non, .non] [] f0 _ := ⟨⟨oc0, od0, .ref T0, kV0, dc0, pm0, an0, cd0, ct0, sl0, rfl, l0, c0, .inr ⟨by simp, T0, _, [.none, .none], nT, rfl, lT, rfl, .cons rfl (.cons rfl .nil)⟩, .inl rfl⟩, k0⟩
  obtain ⟨ds3, v3, bw3⟩ := F0.binds1 (ps := ["thing", "low", "high"]) 3 2 (by simp) rfl (fun _ _ _ _ _ _ _ us its h1 h2 => match us, its, h1, h2 with | [_, _, _], [_, _], _, _ => ⟨_, rfl, rfl⟩)
  cases v3
  refine ⟨PySem.W.fnOf "law" "law" (defArgs sLaw) (defBody sLaw) (defScope sLaw) .none kV27 dc27 pm27 an27 cd27 ct27, fun s v => .of_eq rfl, fun base _ _ => ?_⟩
  have GW := ok_whole (P := l.prog) (w := w) (mg := mg) (base := base) F0 b_isinstance b_int b_bool
  have GPl := ok_pl (P := l.prog) (w := w) (K := K) (mg := mg) (base := base) F1 m_WIDTH
  have GSI := ok_shI (dsW := []) (P := l.prog) (w := w) (K := K) (mg := mg) (base := base) F28 TS R b_zip GW k0 (PySem.W.mg_of X G a0) bw3 ⟨GPl, k1, (PySem.W.mg_of X G a1), b1⟩ m_FIRST_DIR_shape
  have GDc := ok_dcell (C := CS) (P := l.prog) (w := w) (K := K) (mg := mg) (base := base) F29 m_WIDTH m_FIRST_DIR_shape
  have GRc := ok_rcell (P := l.prog) (w := w) (K := K) (mg := mg) (base := base) F30 TS m_WIDTH
  have GEh := ok_eh (P := l.prog) (w := w) (K := K) (mg := mg) (base := base) F31 TS m_WIDTH b_range
  have GCa := ok_ca (C := CS) (P := l.prog) (w := w) (K := K) (mg := mg) (base := base) F2
  have GDa := ok_dirAt (P := l.prog) (w := w) (K := K) (mg := mg) (base := base) F3 TS ⟨GCa, k2, (PySem.W.mg_of X G a2), b2⟩ ⟨GDc, ⟨a29, i29, k29⟩, b29⟩ m_FIRST_DIR_readings m_NAMES
  have GRa := ok_rowAt (P := l.prog) (w := w) (K := K) (mg := mg) (base := base) F4 TS ⟨GCa, k2, (PySem.W.mg_of X G a2), b2⟩ ⟨GRc, ⟨a30, i30, k30⟩, b30⟩ m_NAMES
  have GId := ok_isD (P := l.prog) (w := w) (K := K) (mg := mg) (base := base) F5 ⟨GDa, k3, (PySem.W.mg_of X G a3), b3⟩ m_ROOT m_FOUND
  have GDo := ok_dso (P := l.prog) (w := w) (K := K) (mg := mg) (base := base) F6 TS ⟨da_weak GDa, k3, (PySem.W.mg_of X G a3), b3⟩ m_FIRST_DIR_readings b_range
  have GAu := ok_au (P := l.prog) (w := w) (K := K) (mg := mg) (base := base) F7 TS m_DIR m_ROW m_FIRST_DIR_readings b_range
  have GPo := po_weak (ok_po (P := l.prog) (w := w) (K := K) (mg := mg) (base := base) F8 ⟨GDa, k3, (PySem.W.mg_of X G a3), b3⟩ ⟨GRa, k4, (PySem.W.mg_of X G a4), b4⟩ m_DIR)
  have GUb := ok_ubu (P := l.prog) (w := w) (K := K) (mg := mg) (base := base) F9 ⟨GAu, k7, (PySem.W.mg_of X G a7), b7⟩ ⟨GPo, k8, (PySem.W.mg_of X G a8), b8⟩
  have GWu := ok_wu (P := l.prog) (w := w) (K := K) (mg := mg) (base := base) F10 TS ⟨GAu, k7, (PySem.W.mg_of X G a7), b7⟩ ⟨GPo, k8, (PySem.W.mg_of X G a8), b8⟩
  have GGo := ok_go (P := l.prog) (w := w) (K := K) (mg := mg) (base := base) F11 ⟨GPo, k8, (PySem.W.mg_of X G a8), b8⟩ m_FOUND
  have GRi := ok_rio (P := l.prog) (w := w) (K := K) (mg := mg) (base := base) F12 ⟨GDo, k6, (PySem.W.mg_of X G a6), b6⟩ b_sorted b_tuple
  have GFb := ok_fbe (P := l.prog) (w := w) (K := K) (mg := mg) (base := base) F13 ⟨GId, k5, (PySem.W.mg_of X G a5), b5⟩ ⟨GGo, k11, (PySem.W.mg_of X G a11), b11⟩ b_len b_sorted b_tuple
  have GFa := ok_fau (P := l.prog) (w := w) (K := K) (mg := mg) (base := base) F14 TS ⟨GWu, k10, (PySem.W.mg_of X G a10), b10⟩ ⟨GUb, k9, (PySem.W.mg_of X G a9), b9⟩ ⟨GFb, k13, (PySem.W.mg_of X G a13), b13⟩ ⟨GRi, k12, (PySem.W.mg_of X G a12), b12⟩ b_range b_tuple
  have GIr := ok_ir (P := l.prog) (w := w) (K := K) (mg := mg) (base := base) F15 ⟨GFa, k14, (PySem.W.mg_of X G a14), b14⟩ b_len
  have GNu := ok_num (P := l.prog) (w := w) (K := K) (mg := mg) (base := base) F16 b_int b_len b_abs
  have GT := ok_take (base := base) F17 GNu k16 (PySem.W.mg_of X G a16) b16 b_int
  have GP := ok_pick (base := base) F18 GT k17 (PySem.W.mg_of X G a17) b17 b_len
  have GLs := ok_lsh (P := l.prog) (w := w) (K := K) (mg := mg) (base := base) F19 ⟨mkCS, a28, i28, kcCS⟩ GSI (PySem.W.mg_of X G aS) b28 ⟨GP, k18, (PySem.W.mg_of X G a18), b18⟩
  have GLu := ok_lun (P := l.prog) (w := w) (K := K) (mg := mg) (base := base) F20 TS b_range
  have GLc := ok_lce (P := l.prog) (w := w) (K := K) (mg := mg) (base := base) F21 TS ⟨GDc, ⟨a29, i29, k29⟩, b29⟩ ⟨GRc, ⟨a30, i30, k30⟩, b30⟩
  have GLw := ok_lwi (P := l.prog) (w := w) (K := K) (mg := mg) (base := base) F22 b_list b_dict b_tuple
  have GLp := ok_lpla (P := l.prog) (w := w) (K := K) (mg := mg) (base := base) F23 TS ⟨GLc, k21, (PySem.W.mg_of X G a21), b21⟩ m_NAMES b_int
  have GLn := ok_lno (P := l.prog) (w := w) (K := K) (mg := mg) (base := base) F24 TS m_NAMES
  have GLh := ok_lh (P := l.prog) (w := w) (K := K) (mg := mg) (base := base) F25 TS ⟨GT, k17, (PySem.W.mg_of X G a17), b17⟩ ⟨GP, k18, (PySem.W.mg_of X G a18), b18⟩ ⟨GEh, ⟨a31, i31, k31⟩, b31⟩ ⟨GLu, k20, (PySem.W.mg_of X G a20), b20⟩ ⟨GLn, k24, (PySem.W.mg_of X G a24), b24⟩ ⟨GLc, k21, (PySem.W.mg_of X G a21), b21⟩ ⟨GLw, k22, (PySem.W.mg_of X G a22), b22⟩
  have GLf := ok_lfa (P := l.prog) (w := w) (K := K) (mg := mg) (base := base) F26 TS b_set b_sorted b_len b_tuple b_range
  exact ok_law F27 TS ⟨GLs, k19, (PySem.W.mg_of X G a19), b19⟩ ⟨GLh, k25, (PySem.W.mg_of X G a25), b25⟩ ⟨GLu, k20, (PySem.W.mg_of X G a20), b20⟩ ⟨GLp, k23, (PySem.W.mg_of X G a23), b23⟩ ⟨GAu, k7, (PySem.W.mg_of X G a7), b7⟩ ⟨GPo, k8, (PySem.W.mg_of X G a8), b8⟩ ⟨GLf, k26, (PySem.W.mg_of X G a26), b26⟩ ⟨GFa, k14, (PySem.W.mg_of X G a14), b14⟩ ⟨GIr, k15, (PySem.W.mg_of X G a15), b15⟩ ⟨GEh, ⟨a31, i31, k31⟩, b31⟩ b_dict b_tuple
theorem walk {l : PySem.W.OpenLaw} {q : Program} {loose : List Str} {XP : (Str → Option Value) → Heap → Prop} {YP : World → Heap → Prop} {d : DefRec} {K : Params → PySem.W.Frag} (hn : l.most = some 63) (hdf : d.params.defaults = [])
    (hY : ∀ (w : World) (h : Heap), YP w h → (K w.params).In h)
    (F : ∀ (w : World) (mg : Str → Option Value) (fa : Addr) (h : Heap), (K w.params).In h → h.Ns mainGlobals mg → mg d.name = some (.ref fa) →
      ∃ fd : FuncData, (∀ (s : Shared) (u : Value), BindsTo s fd ⟨[u], []⟩ [("script", u)]) ∧ ∀ base : Heap, (K w.params).In base → base.Ns mainGlobals mg → FnOk l.prog w (K w.params) mg base CX0 8 fa fd ["script"] (spLaw (K w.params))) :
    PySem.W.WalkO q loose XP YP l.row.toRowW d [] (fun f vs => PySem.call f vs) :=
  L2.walk_of (n := 63) (k := 8) (x := "script") (CX := fun _ => CX0) (sp := fun w => spLaw (K w.params)) hn (by decide) hdf ⟨rfl, by decide, by decide⟩ hY F (fun _ _ a ns hl _ hS => ⟨a, ns, rfl, hS, hl, fun _ => rfl⟩) fun _ _ _ _ _ z => z
end Pf

set_option Elab.async false
open PySem PySem.W PyProof.Rows
set_option maxRecDepth 100000 in
set_option maxHeartbeats 0 in
theorem PySem.Challenge.cw_plugproof_k20_whole_faults_holds : PySem.Challenge.rw_plugproof_k20_whole_faults.Holds := by
  w_on; o_law; k_head; (case hw => w_witness2)
  k_fill
  refine Pf.walk (l := PySem.Challenge.rw_plugproof_k20_whole_faults) rfl rfl (fun w h Y => PySem.W.kIn_of Y) ?F
  case F =>
    intro w mg fa h KX G hmg
    refine' Pf.all_mk KX G hmg ?aS ?a0 ?l0 ?lT ?c0 ?k0 ?aRg ?lRg ?lr0 ?lr1 ?lr2 ?lr3 ?lr4 ?a1 ?l1 ?c1 ?k1 ?a2 ?l2 ?c2 ?k2 ?a3 ?l3 ?c3 ?k3 ?a4 ?l4 ?c4 ?k4 ?a5 ?l5 ?c5 ?k5 ?a6 ?l6 ?c6 ?k6 ?a7 ?l7 ?c7 ?k7 ?a8 ?l8 ?c8 ?k8 ?a9 ?l9 ?c9 ?k9 ?a10 ?l10 ?c10 ?k10 ?a11 ?l11 ?c11 ?k11 ?a12 ?l12 ?c12 ?k12 ?a13 ?l13 ?c13 ?k13 ?a14 ?l14 ?c14 ?k14 ?a15 ?l15 ?c15 ?k15 ?a16 ?l16 ?c16 ?k16 ?a17 ?l17 ?c17 ?k17 ?a18 ?l18 ?c18 ?k18 ?a19 ?l19 ?c19 ?k19 ?a20 ?l20 ?c20 ?k20 ?a21 ?l21 ?c21 ?k21 ?a22 ?l22 ?c22 ?k22 ?a23 ?l23 ?c23 ?k23 ?a24 ?l24 ?c24 ?k24 ?a25 ?l25 ?c25 ?k25 ?a26 ?l26 ?c26 ?k26 ?a27 ?l27 ?c27 ?k27 ?a28 ?i28 ?l28 ?c28 ?k28 ?a29 ?i29 ?l29 ?c29 ?k29 ?a30 ?i30 ?l30 ?c30 ?k30 ?a31 ?i31 ?l31 ?c31 ?k31 ?pgCS ?hdCS ?poCS ?saCS ?mkCS ?kcCS ?m_dirs ?m_rows ?m_files ?m_blocks ?m_users ?m_first_row ?m_first_user ?m_first_file ?m_first_block ?m_plates ?v_WIDTH ?v_NAMES ?v_ROOT ?v_FOUND ?v_FIRST_DIR_shape ?v_FIRST_DIR_readings ?v_DIR ?v_ROW ?z_isinstance ?z_int ?z_bool ?z_tuple ?z_len ?z_range ?z_list ?z_abs ?z_zip ?z_sorted ?z_dict ?z_set
    (case aS => k_is)
    (case a0 => k_is)
    (case l0 => k_is)
    (case lT => k_is)
    (case c0 => k_is)
    (case k0 => k_is)
    (case aRg => k_is)
    (case lRg => k_is)
    (case lr0 => k_is)
    (case lr1 => k_is)
    (case lr2 => k_is)
    (case lr3 => k_is)
    (case lr4 => k_is)
    (case a1 => k_is)
    (case l1 => k_is)
    (case c1 => k_is)
    (case k1 => k_is)
    (case a2 => k_is)
    (case l2 => k_is)
    (case c2 => k_is)
    (case k2 => k_is)
    (case a3 => k_is)
    (case l3 => k_is)
    (case c3 => k_is)
    (case k3 => k_is)
    (case a4 => k_is)
    (case l4 => k_is)
    (case c4 => k_is)
    (case k4 => k_is)
    (case a5 => k_is)
    (case l5 => k_is)
    (case c5 => k_is)
    (case k5 => k_is)
    (case a6 => k_is)
    (case l6 => k_is)
    (case c6 => k_is)
    (case k6 => k_is)
    (case a7 => k_is)
    (case l7 => k_is)
    (case c7 => k_is)
    (case k7 => k_is)
    (case a8 => k_is)
    (case l8 => k_is)
    (case c8 => k_is)
    (case k8 => k_is)
    (case a9 => k_is)
    (case l9 => k_is)
    (case c9 => k_is)
    (case k9 => k_is)
    (case a10 => k_is)
    (case l10 => k_is)
    (case c10 => k_is)
    (case k10 => k_is)
    (case a11 => k_is)
    (case l11 => k_is)
    (case c11 => k_is)
    (case k11 => k_is)
    (case a12 => k_is)
    (case l12 => k_is)
    (case c12 => k_is)
    (case k12 => k_is)
    (case a13 => k_is)
    (case l13 => k_is)
    (case c13 => k_is)
    (case k13 => k_is)
    (case a14 => k_is)
    (case l14 => k_is)
    (case c14 => k_is)
    (case k14 => k_is)
    (case a15 => k_is)
    (case l15 => k_is)
    (case c15 => k_is)
    (case k15 => k_is)
    (case a16 => k_is)
    (case l16 => k_is)
    (case c16 => k_is)
    (case k16 => k_is)
    (case a17 => k_is)
    (case l17 => k_is)
    (case c17 => k_is)
    (case k17 => k_is)
    (case a18 => k_is)
    (case l18 => k_is)
    (case c18 => k_is)
    (case k18 => k_is)
    (case a19 => k_is)
    (case l19 => k_is)
    (case c19 => k_is)
    (case k19 => k_is)
    (case a20 => k_is)
    (case l20 => k_is)
    (case c20 => k_is)
    (case k20 => k_is)
    (case a21 => k_is)
    (case l21 => k_is)
    (case c21 => k_is)
    (case k21 => k_is)
    (case a22 => k_is)
    (case l22 => k_is)
    (case c22 => k_is)
    (case k22 => k_is)
    (case a23 => k_is)
    (case l23 => k_is)
    (case c23 => k_is)
    (case k23 => k_is)
    (case a24 => k_is)
    (case l24 => k_is)
    (case c24 => k_is)
    (case k24 => k_is)
    (case a25 => k_is)
    (case l25 => k_is)
    (case c25 => k_is)
    (case k25 => k_is)
    (case a26 => k_is)
    (case l26 => k_is)
    (case c26 => k_is)
    (case k26 => k_is)
    (case a27 => k_is)
    (case l27 => k_is)
    (case c27 => k_is)
    (case k27 => k_is)
    (case a28 => k_is)
    (case i28 => k_is)
    (case l28 => k_is)
    (case c28 => k_is)
    (case k28 => k_is)
    (case a29 => k_is)
    (case i29 => k_is)
    (case l29 => k_is)
    (case c29 => k_is)
    (case k29 => k_is)
    (case a30 => k_is)
    (case i30 => k_is)
    (case l30 => k_is)
    (case c30 => k_is)
    (case k30 => k_is)
    (case a31 => k_is)
    (case i31 => k_is)
    (case l31 => k_is)
    (case c31 => k_is)
    (case k31 => k_is)
    (case pgCS => k_is)
    (case hdCS => k_is)
    (case poCS => k_is)
    (case saCS => k_is)
    (case mkCS => k_is)
    (case kcCS => k_is)
    (case m_dirs => k_is)
    (case m_rows => k_is)
    (case m_files => k_is)
    (case m_blocks => k_is)
    (case m_users => k_is)
    (case m_first_row => k_is)
    (case m_first_user => k_is)
    (case m_first_file => k_is)
    (case m_first_block => k_is)
    (case m_plates => k_is)
    (case v_WIDTH => k_is)
    (case v_NAMES => k_is)
    (case v_ROOT => k_is)
    (case v_FOUND => k_is)
    (case v_FIRST_DIR_shape => k_is)
    (case v_FIRST_DIR_readings => k_is)
    (case v_DIR => k_is)
    (case v_ROW => k_is)
    (case z_isinstance => k_is)
    (case z_int => k_is)
    (case z_bool => k_is)
    (case z_tuple => k_is)
    (case z_len => k_is)
    (case z_range => k_is)
    (case z_list => k_is)
    (case z_abs => k_is)
    (case z_zip => k_is)
    (case z_sorted => k_is)
    (case z_dict => k_is)
    (case z_set => k_is)
