import PyProof.Rows.All
import Wide.All
import OpenK.AllK
import Wide.FinOn
import HandS.ForMost
import HandS.IsInst
import HandS.Defaults
import HandS.TupAny
import HandS.TupMul
import HandS.Style
import HandS.Conv
import HandS.Walk
import KE.GoesEnum
import PySem.Challenge.RW_plugproof_k32_whole_groups
set_option Elab.async false
set_option linter.all false
set_option maxRecDepth 100000
set_option maxHeartbeats 4000000
namespace Pf
open PySem PySem.Spec PyProof.Rows L2

/-! ### heaps and data -/
theorem same_upd {H : Hp} {p : Addr} {o : HO} (h : H p = none) : Same H (upd H p o) := fun b x e => by
  rw [upd_ne (ne_of_none e h)]
  exact e
theorem Same.up {G H : Hp} {p : Addr} {o : HO} (s : Same G H) (h : H p = none) : Same G (upd H p o) := s.trans (same_upd h)
theorem same_seqT {K : PySem.W.Frag} {H H' : Hp} {a : Addr} {xs : List V} (e : Same H H') (h : SqT K H a xs) : SqT K H' a xs := by
  rcases h with (h | ⟨o, h⟩) | h
  · exact .inl (.inl (e _ _ h))
  · exact .inl (.inr ⟨o, e _ _ h⟩)
  · exact .inr h
section
variable {K : PySem.W.Frag} {H H' : Hp}
mutual
theorem dp_same (e : Same H H') : ∀ (d : PyData) (v : V), Dp K H v d → Dp K H' v d
  | .none, _, h => by cases h; exact .non
  | .bool b, _, h => by cases h; exact .bl b
  | .int i, _, h => by cases h; exact .int i
  | .str x, _, h => by cases h; exact .str x
  | .list ds, _, h => by cases h with | lst hs ha => exact .lst (Same.seq e hs) (dps_same e ds _ ha)
  | .tuple ds, _, h => by cases h with | tup hs ha => exact .tup (same_seqT e hs) (dps_same e ds _ ha)
  | .dict _, _, h => by cases h
theorem dps_same (e : Same H H') : ∀ (ds : List PyData) (vs : List V), DpAll K H vs ds → DpAll K H' vs ds
  | [], _, h => by cases h; exact .nil
  | d :: ds, _, h => by cases h with | cons h1 h2 => exact .cons (dp_same e d _ h1) (dps_same e ds _ h2)
end
theorem dps_ints : ∀ ns : List Int, DpAll K H (ns.map V.int) (ns.map PyData.int)
  | [] => .nil
  | n :: ns => .cons (.int n) (dps_ints ns)
theorem dps_len : ∀ {vs : List V} {ds : List PyData}, DpAll K H vs ds → vs.length = ds.length
  | [], _, h => by cases h; rfl
  | v :: vs, _, h => by cases h with | cons h1 h2 => simp [dps_len h2]
theorem dps_get : ∀ {vs : List V} {ds : List PyData} {i : Nat} {v : V}, DpAll K H vs ds → vs[i]? = some v → ∃ d, ds[i]? = some d ∧ Dp K H v d
  | [], _, i, v, h, e => by simp at e
  | x :: vs, _, 0, v, h, e => by
    cases h with
    | cons h1 h2 =>
      cases (Option.some.inj e)
      exact ⟨_, rfl, h1⟩
  | x :: vs, _, i + 1, v, h, e => by
    cases h with
    | cons h1 h2 =>
      obtain ⟨d, e1, e2⟩ := dps_get h2 (show vs[i]? = some v from e)
      exact ⟨d, e1, e2⟩
theorem dps_app : ∀ {vs ws : List V} {ds es : List PyData}, DpAll K H vs ds → DpAll K H ws es → DpAll K H (vs ++ ws) (ds ++ es)
  | [], _, _, _, h, g => by cases h; exact g
  | v :: vs, _, _, _, h, g => by cases h with | cons h1 h2 => exact .cons h1 (dps_app h2 g)
theorem dps_take : ∀ {vs : List V} {ds : List PyData} (n : Nat), DpAll K H vs ds → DpAll K H (vs.take n) (ds.take n)
  | _, _, 0, _ => .nil
  | [], _, n + 1, h => by cases h; exact .nil
  | v :: vs, _, n + 1, h => by cases h with | cons h1 h2 => exact .cons h1 (dps_take n h2)
theorem dps_drop : ∀ {vs : List V} {ds : List PyData} (n : Nat), DpAll K H vs ds → DpAll K H (vs.drop n) (ds.drop n)
  | _, _, 0, h => h
  | [], _, n + 1, h => by cases h; exact .nil
  | v :: vs, _, n + 1, h => by cases h with | cons h1 h2 => exact dps_drop n h2
theorem dps_set : ∀ {vs : List V} {ds : List PyData} {v : V} {d : PyData} (i : Nat), DpAll K H vs ds → Dp K H v d → DpAll K H (vs.set i v) (ds.set i d)
  | [], _, _, _, _, h, _ => by cases h; exact .nil
  | x :: vs, _, v, d, 0, h, q => by cases h with | cons h1 h2 => exact .cons q h2
  | x :: vs, _, v, d, i + 1, h, q => by cases h with | cons h1 h2 => exact .cons h1 (dps_set i h2 q)
theorem tyx_tup {a : Addr} {xs : List V} (h : SqT K H a xs) : TyX K H (.ref a) (.type "tuple") := by
  rcases h with (h | ⟨o, h⟩) | ⟨o, its, n, h, c, _⟩
  · exact .base (.tup h)
  · exact .fTuple h
  · exact .kTuple h c
theorem tyx_lst {a : Addr} {xs : List V} (h : SqL K H a xs) : TyX K H (.ref a) (.type "list") := by
  rcases h with (h | ⟨o, h⟩) | ⟨o, its, n, h, c, _⟩
  · exact .base (.lst h)
  · exact .base (.frz h)
  · exact .kList h c
end
def intB : PyData → Bool | .int _ => true | .bool _ => true | _ => false
def boolB : PyData → Bool | .bool _ => true | _ => false
def tupB : PyData → Bool | .tuple _ => true | _ => false
section
variable {K : PySem.W.Frag} {H : Hp} {v : V} {d : PyData}
theorem isi_int (h : Dp K H v d) : ∃ t, TyX K H v t ∧ PySem.W.kitOne K t (.type "int") = some (intB d) := by
  cases h with
  | non => exact ⟨_, .base .non, kit_ty (show kitB "NoneType" "int" = some false by decide +kernel)⟩
  | bl b => exact ⟨_, .base (.bl b), kit_ty (show kitB "bool" "int" = some true by decide +kernel)⟩
  | int i => exact ⟨_, .base (.int i), kit_ty (show kitB "int" "int" = some true by decide +kernel)⟩
  | str x => exact ⟨_, .base (.str x), kit_ty (show kitB "str" "int" = some false by decide +kernel)⟩
  | lst hs _ => exact ⟨_, tyx_lst hs, kit_ty (show kitB "list" "int" = some false by decide +kernel)⟩
  | tup hs _ => exact ⟨_, tyx_tup hs, kit_ty (show kitB "tuple" "int" = some false by decide +kernel)⟩
theorem isi_bool (h : Dp K H v d) : ∃ t, TyX K H v t ∧ PySem.W.kitOne K t (.type "bool") = some (boolB d) := by
  cases h with
  | non => exact ⟨_, .base .non, kit_ty (show kitB "NoneType" "bool" = some false by decide +kernel)⟩
  | bl b => exact ⟨_, .base (.bl b), kit_ty (show kitB "bool" "bool" = some true by decide +kernel)⟩
  | int i => exact ⟨_, .base (.int i), kit_ty (show kitB "int" "bool" = some false by decide +kernel)⟩
  | str x => exact ⟨_, .base (.str x), kit_ty (show kitB "str" "bool" = some false by decide +kernel)⟩
  | lst hs _ => exact ⟨_, tyx_lst hs, kit_ty (show kitB "list" "bool" = some false by decide +kernel)⟩
  | tup hs _ => exact ⟨_, tyx_tup hs, kit_ty (show kitB "tuple" "bool" = some false by decide +kernel)⟩
theorem isi_tup (h : Dp K H v d) : ∃ t, TyX K H v t ∧ PySem.W.kitOne K t (.type "tuple") = some (tupB d) := by
  cases h with
  | non => exact ⟨_, .base .non, kit_ty (show kitB "NoneType" "tuple" = some false by decide +kernel)⟩
  | bl b => exact ⟨_, .base (.bl b), kit_ty (show kitB "bool" "tuple" = some false by decide +kernel)⟩
  | int i => exact ⟨_, .base (.int i), kit_ty (show kitB "int" "tuple" = some false by decide +kernel)⟩
  | str x => exact ⟨_, .base (.str x), kit_ty (show kitB "str" "tuple" = some false by decide +kernel)⟩
  | lst hs _ => exact ⟨_, tyx_lst hs, kit_ty (show kitB "list" "tuple" = some false by decide +kernel)⟩
  | tup hs _ => exact ⟨_, tyx_tup hs, kit_ty (show kitB "tuple" "tuple" = some true by decide +kernel)⟩
end
/-- a list's item, as what an augmented store reads -/
theorem get_list {X : Cx} : PGet X (rIxL X.K) := by
  intro pins s σ H x y v u Q I rx ry h
  obtain ⟨p, xs, i, z, rfl, rfl, hq, he, q⟩ := h
  cases rx
  obtain ⟨t, rfl⟩ := ry
  obtain ⟨its, r, pl, hz⟩ := I.list hq
  obtain ⟨j, h1, h2, h3, h4, h5⟩ := atI_get he
  obtain ⟨w, ew, rw'⟩ := r.get h2
  have hl := r.length
  have hn := line63
  have fin : EP X pins σ Q w s := ⟨z, H, I, rw', q⟩
  by_cases h0 : 0 ≤ i
  · have hj : i.toNat = j := by
      rw [seqIndex_of h0 h5] at h1
      exact Option.some.inj h1
    exact wpAny_getItem_list pl.isList h0 (by omega) (by rw [hj]; simpa using ew) fin
  · have hj : (i + (its.toArray.size : Int)).toNat = j := by
      rw [seqIndex_neg (by omega) h4] at h1
      rw [List.size_toArray, ← hl]
      exact Option.some.inj h1
    exact wpAny_getItem_list_neg pl.isList (by omega) (by rw [List.size_toArray] <;> omega) (by omega) (by rw [hj]; simpa using ew) fin

/-! ### enumerate over a tuple -/
set_option maxHeartbeats 1000000 in
theorem meets_enum1 {v : Value} {o : Obj} {H : Heap → Prop} (B : Begins v o H) :
    Meets (Builtin.«enumerate.__new__» ⟨[.type "enumerate", v], []⟩) (fun _ R s => H s.heap ∧
      R (.ok (.ret (.ref (s.heap.push o).objs.size))) { s with heap := (s.heap.push o).push { cls := .type "enumerate", data := .fields #[.none, .bool false, .ref s.heap.objs.size, rawInt 0, .none, .none] } }) :=
  .of_wp fun prog w A R s h => by
    obtain ⟨hp, g, d, tk, os⟩ := s; obtain ⟨h1, h⟩ := h
    have hsub := sub_enumerate
    have q1 : ∀ {A' : Around} {E : Value → Shared → Prop} {Q : Value → Shared → Prop}, Q (.ref hp.objs.size) ⟨hp.push o, g, d, tk, os⟩ → wpAny (model prog w) A' (pyIter v) Q E ⟨hp, g, d, tk, os⟩ :=
      fun q => B.iter prog w _ _ ⟨hp, g, d, tk, os⟩ _ h1 q
    wp_walk using q1
    refine wpAny_stack_any fun st => wpAny_pure ?_
    split
    · rename_i c _ _ _ _ _
      cases (c == Value.type "enumerate")
      · wp_walk using q1
        exact ⟨_, rfl, h⟩
      · wp_walk using q1
        exact ⟨_, rfl, h⟩
    · wp_walk using q1
      exact ⟨_, rfl, h⟩
theorem call_enum1 {prog : Program} {w : World} {A : Around} {E : Value → Shared → Prop} {s : Shared} {v : Value} {o : Obj} {H : Heap → Prop} {Q : Value → Shared → Prop} (B : Begins v o H) (h1 : H s.heap)
    (h : ∀ h', IsEnum h' (s.heap.objs.size + 1) s.heap.objs.size 0 .none → h'.get? s.heap.objs.size = some o → h'.objs.size = s.heap.objs.size + 2 →
      (∀ b o, s.heap.get? b = some o → h'.get? b = some o) → Q (.ref (s.heap.objs.size + 1)) { s with heap := h' }) :
    wpAny (model prog w) A (call (.type "enumerate") [v]) Q E s := by
  refine callType_new F.called_enumerate (by decide) (F.typeCall_enumerate_1 _) (F.newCall_enumerate_1 _) (fun obj => F.args_object_init_2 obj _) F.entry_enumerate_new
    (meets_enum1 B) ⟨h1, ?_⟩
  have hz : (s.heap.push o).objs.size = s.heap.objs.size + 1 := Heap.size_push ..
  show _ ∧ _
  rw [hz]
  have he : IsEnum ((s.heap.push o).push { cls := .type "enumerate", data := .fields #[.none, .bool false, .ref s.heap.objs.size, rawInt 0, .none, .none] }) (s.heap.objs.size + 1) s.heap.objs.size 0 .none := by
    have := Heap.get?_push_size (s.heap.push o) (o := { cls := .type "enumerate", data := .fields #[.none, .bool false, .ref s.heap.objs.size, rawInt 0, .none, .none] }) rfl
    rw [hz] at this; exact this
  refine ⟨⟨_, he, rfl⟩, h _ he (Heap.get?_push_of_some _ (Heap.get?_push_size _ B.free)) (by rw [Heap.size_push, hz]) fun b o x => Heap.get?_push_of_some _ (Heap.get?_push_of_some _ x)⟩
/-- the tuple at a, each item in a new pair -/
def IteT (K : PySem.W.Frag) (a : Addr) : It :=
  ⟨fun i H => ∃ (xs : List V) (x : V), SqT K H a xs ∧ xs[i]? = some x, fun i H v H' => ∃ T x, v = .ref T ∧ H T = none ∧ H' = upd H T (.tup [.int (i : Nat), x]) ∧ ∀ xs, SqT K H a xs → xs[i]? = some x, fun i H => ∃ xs : List V, SqT K H a xs ∧ xs.length = i⟩
theorem turn_enumT {P : Program} {w : World} {K : PySem.W.Frag} {elts : List Expr} {kk : Nat} {tpos : Pos} (a e it : Addr) :
    Turn P w K (.Tuple elts kk tpos) (IteT K a) [e, it] e (fun i h => (∃ old, IsEnum h e it ((i : Nat) : Int) old) ∧ h.IsTupleIter it a i ∧ e ≠ it) where
  mem := by simp
  obj := fun i h st b hb => by
    obtain ⟨⟨old, he⟩, ⟨o, ho, hc, hd⟩, _⟩ := st
    have e' : b = e ∨ b = it := by simpa using hb
    rcases e' with z | z
    · rw [z]; exact ⟨_, he, fun v q => nomatch q⟩
    · rw [z]; exact ⟨o, ho, fun v q => by rw [hd] at q; cases q⟩
  keep := fun i h h' st k => let ⟨⟨old, he⟩, hi, hne⟩ := st; ⟨⟨old, k e (by simp) _ he⟩, hi.at fun o q => k it (by simp) o q, hne⟩
  item := by
    intro X hP hw hK hc i pins s σ H E I hf st hg
    subst hP hw hK
    obtain ⟨⟨old, he⟩, hit, hne⟩ := st
    obtain ⟨xs, x, hq, hx⟩ := hg
    obtain ⟨its, rv, p, hz⟩ := I.tuple hq
    obtain ⟨u, hu, ru⟩ := rv.get hx
    have hel : e < s.heap.objs.size := Heap.lt_size he
    have hil : it < s.heap.objs.size := by obtain ⟨_, q, _⟩ := hit; exact Heap.lt_size q
    have hai : a ≠ it := by
      rintro rfl
      obtain ⟨o1, q1, c1, _⟩ := hit
      obtain ⟨o2, q2, c2, _⟩ := p
      rw [q1] at q2
      cases q2
      rw [c1] at c2
      exact absurd c2 (by decide)
    have hea : e ≠ a := by
      rintro rfl
      obtain ⟨o2, q2, c2, _⟩ := p
      have q3 := he.symm.trans q2
      cases q3
      simp at c2
    have hlt : i < its.toArray.size := by
      rw [List.size_toArray, ← rv.length]
      exact (List.getElem?_eq_some_iff.mp hx).1
    refine wpAny_pyNext_enum_itemD (Draws.tuple (A := X.A.in1) (I.ok.hd hc) it a hai its.toArray) he ⟨hit, p⟩ hlt hne (by simp [hne, hea]) fun y h' tk hy ho hst hT hsz hk => ?_
    have eyu : y = u := by
      have h2 : its.toArray[i]? = some u := by simpa using hu
      exact Option.some.inj ((show its.toArray[i]? = some y from hy).symm.trans h2)
    subst eyu
    refine ⟨_, rfl, wpAny_letOwnedTupleGo_enum (s := { s with heap := h', toks := tk + 1 }) ho fun h'' he' sb => ?_⟩
    have hT2 : h''.get? s.heap.objs.size = some { cls := .type "tuple", data := .seq #[.int i tk, y] } := (sb.2 _ (Nat.ne_of_gt hel)).trans hT
    have new : ObjOk X.prog X.w (upd H s.heap.objs.size (.tup [.int (i : Nat), x])) h'' s.heap.objs.size (.tup [.int (i : Nat), x]) :=
      ⟨by show 2 ≤ sizeLine; decide, [.int i tk, y], .cons ⟨_, rfl⟩ (.cons ru .nil), ⟨_, hT2, rfl, _, rfl⟩⟩
    have I1 : Inv X pins σ (upd H s.heap.objs.size (.tup [.int (i : Nat), x])) { s with heap := h'', toks := tk + 1 } :=
      I.turnedNew (ch := [e, it]) (fun b ob hb q => (sb.2 b (fun z => hb (by simp [z]))).trans (hk b ob (fun z => hb (by simp [z])) (fun z => hb (by simp [z])) q)) hf (Nat.le_refl _) new
    refine ⟨.ref s.heap.objs.size, _, I1, rfl, ⟨_, x, rfl, I.hok.fresh (Nat.le_refl _), rfl, fun ys hy => by rw [I.tuple_inj hy hq]; exact hx⟩, ⟨⟨y, ?_⟩, hst.1.at fun o q => (sb.2 it (Ne.symm hne)).trans q, hne⟩, fun b hb => ?_⟩
    · have e1 : ((i + 1 : Nat) : Int) = (i : Int) + 1 := by omega
      rw [e1]; exact he'
    · have hb' : b < s.heap.objs.size := by
        have e' : b = e ∨ b = it := by simpa using hb
        rcases e' with z | z
        · rw [z]; exact hel
        · rw [z]; exact hil
      rw [upd_ne (Nat.ne_of_lt hb')]
      exact (hf b hb).1
  done := by
    intro X hP hw hK hc i pins s σ H E I hf st hg
    subst hP hw hK
    obtain ⟨⟨old, he⟩, hit, hne⟩ := st
    obtain ⟨xs, hq, hx⟩ := hg
    obtain ⟨its, rv, p, hz⟩ := I.tuple hq
    obtain ⟨f0, f1, f2, f3, f4, f5⟩ := hf it (by simp)
    have hl := rv.length
    have hai : a ≠ it := by
      rintro rfl
      obtain ⟨o1, q1, c1, _⟩ := hit
      obtain ⟨o2, q2, c2, _⟩ := p
      rw [q1] at q2
      cases q2
      rw [c1] at c2
      exact absurd c2 (by decide)
    have en : its.toArray.size = i := by rw [List.size_toArray, ← hl]; exact hx
    exact wpAny_pyNext_enum_endD (Draws.tuple (A := X.A.in1) (I.ok.hd hc) it a hai its.toArray) he (by rw [en]; exact ⟨hit, p⟩) fun h' eb => ⟨rfl, I.turned (t' := s.toks) (fun b o hb q => eb b o hb q) f0 f1 f3 f4 f5⟩
  self := fun A i s Q E st h => let ⟨⟨_, he⟩, _⟩ := st; wpAny_pyIter_enum he h
def iEnumT (K : PySem.W.Frag) (ta : TA) : TI := fun σ H R => ta σ H fun vs H1 => ∃ a xs, vs = [.ref a] ∧ SqT K H1 a xs ∧ R (IteT K a) H1
theorem pi_enumT {X : Cx} {e : Expr} {ta : TA} {p pos tpos : Pos} {elts : List Expr} {kk : Nat} (hg : Gl X "enumerate") (hm : X.mg "enumerate" = none) (ha : PA X [e] ta) (hs : starEach [e] X.env = [(false, eval e X.env)] := by rfl) :
    PI X (.Tuple elts kk tpos) (.Call (.Name "enumerate" p) [e] [] pos) (iEnumT X.K ta) := by
  refine ⟨fun pins s σ H R I h => ?_⟩
  refine Call_ (ld_blt I hg hm boot_enumerate (PyProof.Rows.callWith_type1 (thn (ha.run pos pins s σ H _ I h) fun us s1 ⟨vs, H1, I1, r1, q1⟩ => ?_) hs rfl))
  obtain ⟨a, xs, ex, hq, q⟩ := q1
  subst ex
  cases r1 with
  | cons r rr =>
    cases rr
    cases r
    obtain ⟨its, rv, p', hz⟩ := I1.tuple hq
    refine call_enum1 (begins_tuple a its.toArray) p' fun h' he hit hsz hk => wpAny_pyIter_enum he ?_
    have I2 : Inv X pins σ H1 { s1 with heap := h' } := I1.kept (t' := s1.toks) hk
    refine ⟨s1.heap.objs.size + 1, [s1.heap.objs.size + 1, s1.heap.objs.size], _, _, H1, rfl, I2, turn_enumT a (s1.heap.objs.size + 1) s1.heap.objs.size, ⟨⟨.none, he⟩, ⟨_, hit, rfl, rfl⟩, Nat.succ_ne_self _⟩, fun b hb => ?_, q⟩
    have e' : b = s1.heap.objs.size + 1 ∨ b = s1.heap.objs.size := by simpa using hb
    have hle : s1.heap.objs.size ≤ b := by
      rcases e' with z | z
      · rw [z]; exact Nat.le_add_right _ _
      · rw [z]; exact Nat.le_refl _
    exact I1.fpOk hle (I1.hok.fresh hle)
theorem walk_enumT {K : PySem.W.Frag} {a : Addr} {xs : List V} : Walk (IteT K a) xs.length (fun H => SqT K H a xs) (YPair (fun i => some (.int (i : Nat))) (fun i => xs[i]?)) := by
  refine ⟨fun i _ hi q => ⟨xs, xs[i], q, by simp [hi]⟩, fun _ q => ⟨xs, q, rfl⟩, fun i H v H' _ q y => ?_⟩
  obtain ⟨T, x, h1, h2, h3, h4⟩ := y
  exact ⟨T, .int (i : Nat), x, h1, h2, h3, rfl, h4 xs q⟩
end Pf

set_option Elab.async false
set_option linter.all false
set_option maxRecDepth 100000
set_option maxHeartbeats 4000000
namespace Pf
open PySem PySem.Spec PyProof.Rows L2
def topS (i : Nat) : Stmt := PySem.Challenge.pw_plugproof_k32_whole_groups.main.body.getD i (.Pass ⟨0, 0, 0, 0⟩)
abbrev sWhole : Stmt := topS 5
abbrev sCells : Stmt := topS 10
abbrev sSlot : Stmt := topS 13
abbrev sRows : Stmt := topS 14
abbrev sIsLog : Stmt := topS 15
abbrev sWg : Stmt := topS 16
abbrev sSlotsOf : Stmt := topS 17
abbrev sRg : Stmt := topS 18
abbrev sLast : Stmt := topS 19
abbrev sInit : Stmt := inClass (topS 21) 0
abbrev sWrite : Stmt := inClass (topS 21) 1
abbrev sNow : Stmt := inClass (topS 21) 3
abbrev sCheck : Stmt := inClass (topS 21) 8
abbrev sNum : Stmt := topS 23
abbrev sTake : Stmt := topS 24
abbrev sPick : Stmt := topS 25
abbrev sChg : Stmt := topS 26
abbrev sLlog : Stmt := topS 27
abbrev sLgrp : Stmt := topS 28
abbrev sLgrps : Stmt := topS 29
abbrev sLaw : Stmt := topS 30
theorem scWhole : FnScope ["thing", "low", "high"] ["thing", "low", "high"] (defScope sWhole) := ⟨rfl, rfl, rfl, by decide +kernel, rfl, by decide +kernel, by decide +kernel⟩
theorem scCells : FnScope ["value", "number"] ["value"] (defScope sCells) := ⟨rfl, rfl, rfl, by decide +kernel, rfl, by decide +kernel, by decide +kernel⟩
theorem scSlot : FnScope ["slots", "slot"] ["slots", "slot"] (defScope sSlot) := ⟨rfl, rfl, rfl, by decide +kernel, rfl, by decide +kernel, by decide +kernel⟩
theorem scIsLog : FnScope ["value", "group", "at", "many", "home"] ["value"] (defScope sIsLog) := ⟨rfl, rfl, rfl, by decide +kernel, rfl, by decide +kernel, by decide +kernel⟩

/-! ### is_whole -/
def loB (i : Int) : Option Int → Bool
  | none => true
  | some l => decide (l ≤ i)
def hiB (i : Int) : Option Int → Bool
  | none => true
  | some h => decide (i ≤ h)
def wholeB (d : PyData) (lo hi : Option Int) : Bool := match d with
  | .int i => loB i lo && hiB i hi
  | _ => false
def optV : Option Int → V
  | none => .non
  | some i => .int i
def spWhole (K : PySem.W.Frag) : Sp := fun vs H Q _ => ∃ v d lo hi, vs = [v, optV lo, optV hi] ∧ Dp K H v d ∧ Q (.bl (wholeB d lo hi)) H
section
variable {P : Program} {w : World} {K : PySem.W.Frag} {mg : Str → Option Value} {base : Heap}
theorem ok_whole {f : Addr} {fd : FuncData} {kws : List (Str × V)} (F : FunD K "is_whole" "is_whole" (defArgs sWhole) (defBody sWhole) (defScope sWhole) [.non, .non] kws f fd) (mi : mg "isinstance" = none) (mt : mg "int" = none) (mb : mg "bool" = none) :
    FnOk P w K mg base CX0 1 f fd ["thing", "low", "high"] (spWhole K) := by
  refine F.ok scWhole (fun vs H Q E h => ?_) (fun cdv A outer s H vs Q E hr h => ?_)
  · obtain ⟨v, d, lo, hi, rfl, _⟩ := h
    rfl
  · obtain ⟨v, d, lo, hi, rfl, hd, q⟩ := h
    refine ⟨_, pss_cons (ps_if (PW.pt (pw_or (pt_not (pt_val (pe_callB call_isi (by rfl) mi (by decide +kernel) (pa_cons (pv 0) (pa_cons (pe_bltn (v := .ty "int") (by rfl) mt boot_int rfl) pa_nil)))))
        (pw_or1 (pt_val (pe_callB call_isi (by rfl) mi (by decide +kernel) (pa_cons (pv 0) (pa_cons (pe_bltn (v := .ty "bool") (by rfl) mb boot_bool rfl) pa_nil))))))) (pss_one (ps_ret pe_bl)) pss_nil)
      (pss_cons (ps_if (PW.pt (pw_and (pt_cmpR op_notN (pv 1) pe_non (nomark _)) (pw_and1 (pt_cmpR op_lt (pv 0) (pv 1) (nomark _))))) (pss_one (ps_ret pe_bl)) pss_nil)
      (pss_one (ps_ret (pe_or (pe_cmp (pc_isN (pv 2))) (pe_one (pe_cmp (pc_le (pv 0) (pv 2)))))))), ?_⟩
    obtain ⟨t, ty, kt⟩ := isi_int hd
    obtain ⟨t2, ty2, kt2⟩ := isi_bool hd
    refine ⟨_, rfl, _, _, t, _, _, rfl, .ty _, ty, kt, _, rfl, ?_⟩
    cases hd with
    | non => exact iteT (iteT q)
    | str x => exact iteT (iteT q)
    | lst _ _ => exact iteT (iteT q)
    | tup _ _ => exact iteT (iteT q)
    | bl b => exact iteF ⟨_, rfl, _, _, t2, _, _, rfl, .ty _, ty2, kt2, _, rfl, iteT q⟩
    | int i =>
      refine iteF ⟨_, rfl, _, _, t2, _, _, rfl, .ty _, ty2, kt2, _, rfl, iteF ?_⟩
      have fin : ∀ b : Bool, Q (.bl (b && hiB i hi)) H → b = true → tRet (tOrV (tIsN (tVar 2)) (tLe (tVar 0) (tVar 2))) { nx := fun _ H' => Q .non H', rt := Q } [some (V.int i), some (optV lo), some (optV hi)] H := by
        intro b q hb
        subst hb
        cases hi with
        | none => exact ⟨_, rfl, _, rfl, iteT q⟩
        | some h => exact ⟨_, rfl, _, rfl, iteF ⟨_, rfl, _, rfl, i, h, rfl, rfl, q⟩⟩
      cases lo with
      | none => exact ⟨_, rfl, rfl, _, rfl, iteF (iteF (fin true q rfl))⟩
      | some l =>
        refine ⟨_, rfl, rfl, _, rfl, iteT ⟨_, rfl, _, rfl, i, l, rfl, rfl, _, rfl, ite2 (fun hc => ?_) (fun hc => ?_)⟩⟩
        · have hl : i < l := of_decide_eq_true hc
          have e : wholeB (.int i) (some l) hi = false := by
            show (decide (l ≤ i) && _) = false
            rw [decide_eq_false (by omega)]
            rfl
          rw [e] at q
          exact q
        · have hl : ¬ i < l := fun z => hc (decide_eq_true z)
          exact fin (decide (l ≤ i)) q (decide_eq_true (by omega))
theorem tyes_go {σ : L2.St} {H : Hp} {A B : Hp → Prop} (h : A H) : tYes σ H (fun b H3 => if b = true then A H3 else B H3) := by
  show if true = true then A H else B H
  rw [if_pos rfl]
  exact h
/-! ### is_cells -/
def isI : PyData → Bool
  | .int _ => true
  | _ => false
def cellsB (d : PyData) : Bool := match d with
  | .tuple ds => decide (ds.length = 8) && ds.all isI
  | _ => false
theorem whole_none (d : PyData) : wholeB d none none = isI d := by cases d <;> rfl
def spCells (K : PySem.W.Frag) : Sp := fun vs H Q _ => ∃ v d, vs = [v] ∧ Dp K H v d ∧ ∀ H', Same H H' → Q (.bl (cellsB d)) H'
theorem ok_cells {f fW : Addr} {fd fdW : FuncData} {dsW : List Value} (F : Fun K "is_cells" "is_cells" sCells f fd) (GW : FnOk P w K mg base CX0 1 fW fdW ["thing", "low", "high"] (spWhole K)) (kW : PySem.W.keepIn K (.ref fW) = true) (gW : mg "is_whole" = some (.ref fW))
    (bW : Binds K fdW ["thing", "low", "high"] dsW) (vW : Vals [.non, .non] dsW) (mi : mg "isinstance" = none) (mt : mg "tuple" = none) (ml : mg "len" = none) (ma : mg "all" = none) {tw : Tok} (mW : mg "WIDTH" = some (.int 8 tw)) :
    FnOk P w K mg base CX0 2 f fd ["value"] (spCells K) := by
  refine F.ok scCells (fun vs H Q E h => ?_) (fun cdv A outer s H vs Q E hr h => ?_)
  · obtain ⟨v, d, rfl, _⟩ := h
    rfl
  · obtain ⟨v, d, rfl, hd, q⟩ := h
    refine ⟨_, pss_cons (ps_if (PW.pt (pw_or (pt_not (pt_val (pe_callB call_isi (by rfl) mi (by decide +kernel) (pa_cons (pv 0) (pa_cons (pe_bltn (v := .ty "tuple") (by rfl) mt boot_tuple rfl) pa_nil)))))
        (pw_or1 (pt_cmpR op_ne (pe_callB call_len_seq (by rfl) ml boot_len (pa_cons (pv 0) pa_nil)) (pe_glob (v := .int 8) rfl mW ⟨_, rfl⟩) (nomark _))))) (pss_one (ps_ret pe_bl)) pss_nil)
      (pss_one (ps_ret (pe_callB (cr_all rfl) (by rfl) ma (by decide +kernel) (pa_cons
        (pe_lc (own := [("number", 1)]) (g := gName 1) (tt := tYes) rfl scCells.nd (pi_tup (pv 0)) (blkOk_by (N := ["value", "number"]) (sc := defScope sCells) (by decide +kernel)) (fun _ _ _ _ _ => pg_name (i := 1) scCells.nd rfl (Or.inl rfl)) (fun _ _ _ _ _ => pts_nil)
          (fun _ _ _ _ _ => pe_call GW hr rfl gW kW bW vW pass0 (pa_cons (pv 1) pa_nil))) pa_nil)))), ?_⟩
    obtain ⟨t, ty, kt⟩ := isi_tup hd
    refine ⟨_, rfl, _, _, t, _, _, rfl, .ty _, ty, kt, _, rfl, ?_⟩
    cases hd with
    | non => exact iteT (iteT (q _ (Same.refl _)))
    | str x => exact iteT (iteT (q _ (Same.refl _)))
    | lst _ _ => exact iteT (iteT (q _ (Same.refl _)))
    | int x => exact iteT (iteT (q _ (Same.refl _)))
    | bl b => exact iteT (iteT (q _ (Same.refl _)))
    | @tup a xs ds hs ha =>
      have hl := dps_len ha
      refine iteF ⟨_, rfl, a, xs, rfl, .inr hs, rfl, _, rfl, ite2 (fun hc => ?_) (fun hc => ?_)⟩
      · have hne : ds.length ≠ 8 := fun z => by
          rw [hl, z] at hc
          exact absurd hc (by decide)
        have e : cellsB (.tuple ds) = false := by
          show (decide (ds.length = 8) && _) = false
          rw [decide_eq_false hne]
          rfl
        have q' := q _ (Same.refl _)
        rw [e] at q'
        exact q'
      · have h8 : ds.length = 8 := by
          by_cases z : ds.length = 8
          · exact z
          · refine absurd ?_ hc
            rw [hl]
            have z2 : ¬ (V.int (ds.length : Nat) = V.int 8) := fun y => z (by injection y with y; omega)
            rw [decide_eq_false z2]
            rfl
        refine ⟨_, rfl, a, rfl, ⟨_, hs⟩, fun D hD => lc_tup (K := K) (a := a) (xs := xs) (fun i H' => Same H H' ∧ H' D = some (.lst ((ds.take i).map fun d => V.bl (isI d)))) ⟨same_upd hD, upd_same⟩ (fun i H' _ p => same_seqT p.1 hs) ?_ ?_⟩
        · rintro i x H' hi ⟨s1, e1⟩
          obtain ⟨d', hd', hp⟩ := dps_get ha hi
          have hil : i < ds.length := (List.getElem?_eq_some_iff.mp hd').1
          refine ⟨rfl, tyes_go ?_⟩
          refine ⟨x, rfl, x, d', none, none, rfl, dp_same s1 _ _ hp, _, e1, ?_, ?_, ?_⟩
          · rw [List.length_map, List.length_take]
            exact small1000 (by omega)
          · exact fun b o e => by
              rw [upd_ne (ne_of_none e hD)]
              exact s1 _ _ e
          · rw [upd_same, List.take_add_one, hd', List.map_append, whole_none]
            rfl
        · rintro H' ⟨s1, e1⟩
          rw [hl, List.take_length] at e1
          refine ⟨D, ds.map isI, rfl, SqL.of (by rw [e1, List.map_map]; rfl), ?_⟩
          have e : (ds.map isI).all id = cellsB (.tuple ds) := by
            show _ = (decide (ds.length = 8) && ds.all isI)
            rw [decide_eq_true h8, List.all_map]
            rfl
          rw [e]
          exact q _ s1
end
end Pf

set_option Elab.async false
set_option linter.all false
set_option maxRecDepth 100000
set_option maxHeartbeats 4000000
namespace Pf
open PySem PySem.Spec PyProof.Rows L2

/-! ### a heap without what may change -/
def Off (cs : List Addr) (H : Hp) : Hp := fun b => if b ∈ cs then none else H b
theorem off_in {cs : List Addr} {H : Hp} {b : Addr} (h : b ∈ cs) : Off cs H b = none := by unfold Off; rw [if_pos h]
theorem off_out {cs : List Addr} {H : Hp} {b : Addr} (h : b ∉ cs) : Off cs H b = H b := by unfold Off; rw [if_neg h]
theorem off_le {cs : List Addr} {H : Hp} : Same (Off cs H) H := fun b o e => by
  by_cases h : b ∈ cs
  · rw [off_in h] at e; cases e
  · rw [off_out h] at e; exact e
theorem off_same {cs : List Addr} {H H' : Hp} (s : Same H H') : Same (Off cs H) (Off cs H') := fun b o e => by
  by_cases h : b ∈ cs
  · rw [off_in h] at e; cases e
  · rw [off_out h] at e ⊢; exact s b o e
theorem off_upd {cs : List Addr} {H : Hp} {c : Addr} {o : HO} (h : c ∈ cs) : Off cs (upd H c o) = Off cs H := by
  funext b
  by_cases hb : b ∈ cs
  · rw [off_in hb, off_in hb]
  · rw [off_out hb, off_out hb, upd_ne (fun z => hb (by rw [z]; exact h))]
theorem off_new {cs : List Addr} {H : Hp} {p : Addr} {o : HO} (h : H p = none) : Same (Off cs H) (Off cs (upd H p o)) := off_same (same_upd h)
/-- an unlike set of what may change, where H has nothing of what is new in it -/
theorem off_more {cs ds : List Addr} {H : Hp} (h : ∀ c ∈ ds, c ∈ cs ∨ H c = none) : Same (Off cs H) (Off ds H) := fun b o e => by
  by_cases hb : b ∈ cs
  · rw [off_in hb] at e; cases e
  · rw [off_out hb] at e
    by_cases hd : b ∈ ds
    · rcases h b hd with z | z
      · exact absurd z hb
      · rw [z] at e; cases e
    · rw [off_out hd]; exact e
/-- all is kept but what stands at cs -/
def But (cs : List Addr) (H H' : Hp) : Prop := Same (Off cs H) H'
theorem But.at {cs : List Addr} {H H' : Hp} (s : But cs H H') {b : Addr} {o : HO} (h : H b = some o) (n : b ∉ cs) : H' b = some o := s b o (by rw [off_out n]; exact h)
theorem But.of {cs : List Addr} {H H' : Hp} (s : Same H H') : But cs H H' := (off_le).trans s
theorem But.off {cs ds : List Addr} {H H' : Hp} (s : But cs H H') (h : ∀ c ∈ cs, c ∈ ds) : Same (Off ds H) (Off ds H') := fun b o e => by
  by_cases hb : b ∈ ds
  · rw [off_in hb] at e; cases e
  · rw [off_out hb] at e ⊢
    exact s b o (by rw [off_out (fun z => hb (h b z))]; exact e)

/-- what is new in H' -/
def New (H H' : Hp) : Hp := fun b => match H b with
  | none => H' b
  | some _ => none
theorem new_at {H H' : Hp} {b : Addr} (h : H b = none) : New H H' b = H' b := by unfold New; rw [h]
theorem new_some {H H' : Hp} {b : Addr} {o : HO} (h : New H H' b = some o) : H b = none ∧ H' b = some o := by
  cases e : H b with
  | none => rw [new_at e] at h; exact ⟨rfl, h⟩
  | some u => unfold New at h; rw [e] at h; cases h
theorem new_same {H H1 H2 : Hp} (s : Same H1 H2) : Same (New H H1) (New H H2) := fun b o e => by
  obtain ⟨e1, e2⟩ := new_some e
  rw [new_at e1]
  exact s _ _ e2
theorem new_le {H H' : Hp} : Same (New H H') H' := fun b o e => (new_some e).2
theorem new_off {cs : List Addr} {H H' : Hp} (h : ∀ c ∈ cs, H c ≠ none) : Same (New H H') (Off cs H') := fun b o e => by
  obtain ⟨e1, e2⟩ := new_some e
  rw [off_out (fun z => h b z e1)]
  exact e2
theorem new_upd {cs : List Addr} {H H' : Hp} {c : Addr} {o : HO} (h : c ∈ cs) : Off cs (New H (upd H' c o)) = Off cs (New H H') := by
  funext b
  by_cases hb : b ∈ cs
  · rw [off_in hb, off_in hb]
  · rw [off_out hb, off_out hb]
    unfold New
    cases H b with
    | none => exact upd_ne (fun z => hb (by rw [z]; exact h))
    | some u => rfl
/-- of a later start less is new -/
theorem new_start {H H1 H2 : Hp} (s : Same H H1) : Same (New H1 H2) (New H H2) := fun b o e => by
  obtain ⟨e1, e2⟩ := new_some e
  rw [new_at (s.free e1)]
  exact e2

theorem new_step {cs : List Addr} {H H1 H2 : Hp} (s : Same H H1) (h : ∀ c ∈ cs, H1 c ≠ none) : Same (New H1 H2) (Off cs (New H H2)) := fun b o e => by
  obtain ⟨e1, e2⟩ := new_some e
  rw [off_out (fun z => h b z e1), new_at (s.free e1)]
  exact e2

/-! ### slices of tuples -/
theorem cut_from (xs : List V) (n : Nat) : cutV xs (some (n : Int)) none = xs.drop n := by
  unfold cutV
  rw [HT.sIx_nat, HT.sIx_none]
  by_cases h : n ≤ xs.length
  · rw [Nat.min_eq_left h]
    exact List.take_of_length_le (by rw [List.length_drop]; omega)
  · rw [Nat.min_eq_right (by omega), List.drop_of_length_le (by omega), List.drop_of_length_le (by omega)]
    exact List.take_nil
theorem cut_to (xs : List V) (n : Nat) : cutV xs none (some (n : Int)) = xs.take n := by
  unfold cutV
  rw [HT.sIx_nat, HT.sIx_none]
  rw [List.drop_zero, Nat.sub_zero]
  by_cases h : n ≤ xs.length
  · rw [Nat.min_eq_left h]
  · rw [Nat.min_eq_right (by omega), List.take_of_length_le (by omega), List.take_of_length_le (by omega)]
theorem slA_use {K : PySem.W.Frag} {a : Addr} {xs : List V} {lo hi : Option Int} {H : Hp} {Q : VK} (h : SqT K H a xs) (k : ∀ p H', Same H H' → SqT K H' p (cutV xs lo hi) → Q (.ref p) H') : rSlA K (.ref a) lo hi H Q := by
  refine ⟨a, xs, rfl, h, fun c => ?_, fun _ p hp => ?_⟩
  · have e : cutV xs lo hi = xs := by
      unfold cutV
      rw [c.1, c.2, List.drop_zero, Nat.sub_zero, List.take_length]
    exact k a H (Same.refl _) (by rw [e]; exact h)
  · exact k p _ (same_upd hp) (.inl (.inl upd_same))

theorem slA_new {K : PySem.W.Frag} {a : Addr} {xs : List V} {lo hi : Option Int} {H : Hp} {Q : VK} (h : SqT K H a xs) (hl : (cutV xs lo hi).length ≠ xs.length) (k : ∀ p, H p = none → Q (.ref p) (upd H p (.tup (cutV xs lo hi)))) : rSlA K (.ref a) lo hi H Q := by
  refine ⟨a, xs, rfl, h, fun c => ?_, fun _ p hp => k p hp⟩
  refine absurd ?_ hl
  unfold cutV
  rw [c.1, c.2, List.drop_zero, Nat.sub_zero, List.take_length]

/-! ### log plates -/
def intsOf : List PyData → Option (List Int)
  | [] => some []
  | .int i :: r => (intsOf r).map (i :: ·)
  | _ :: _ => none
theorem intsOf_map : ∀ ns : List Int, intsOf (ns.map PyData.int) = some ns
  | [] => rfl
  | n :: ns => by
    show (intsOf (ns.map PyData.int)).map (n :: ·) = _
    rw [intsOf_map ns]
    rfl
theorem intsOf_some : ∀ {ds : List PyData} {ns : List Int}, intsOf ds = some ns → ds = ns.map PyData.int
  | [], ns, h => by cases h; rfl
  | .int i :: r, ns, h => by
    have h' : (intsOf r).map (i :: ·) = some ns := h
    cases e : intsOf r with
    | none => rw [e] at h'; cases h'
    | some ms =>
      rw [e] at h'
      cases h'
      rw [intsOf_some e]
      rfl
  | .none :: _, _, h => by cases h
  | .bool _ :: _, _, h => by cases h
  | .str _ :: _, _, h => by cases h
  | .list _ :: _, _, h => by cases h
  | .tuple _ :: _, _, h => by cases h
  | .dict _ :: _, _, h => by cases h
theorem isI_of {d : PyData} (h : isI d = true) : ∃ i, d = .int i := by
  cases d <;> first | exact ⟨_, rfl⟩ | cases h
theorem allI_of : ∀ {ds : List PyData}, ds.all isI = true → ∃ ns : List Int, ds = ns.map PyData.int
  | [], _ => ⟨[], rfl⟩
  | d :: ds, h => by
    rw [List.all_cons, Bool.and_eq_true] at h
    obtain ⟨i, rfl⟩ := isI_of h.1
    obtain ⟨ns, rfl⟩ := allI_of h.2
    exact ⟨i :: ns, rfl⟩
theorem allI_map : ∀ ns : List Int, (ns.map PyData.int).all isI = true
  | [] => rfl
  | _ :: ns => by
    rw [List.map_cons, List.all_cons, allI_map ns]
    rfl
structure LP where
  g : Int
  a : Int
  m : Int
  h : Int
  cs : List Int
def LP.all (l : LP) : List Int := l.g :: l.a :: l.m :: l.h :: l.cs
def mkLog : List Int → Option LP
  | g :: a :: m :: h :: cs => if cs.length = 8 ∧ 0 ≤ g ∧ 0 ≤ a ∧ a < m ∧ 0 ≤ h then some ⟨g, a, m, h, cs⟩ else none
  | _ => none
def asLog (d : PyData) : Option LP := match d with
  | .tuple ds => (intsOf ds).bind mkLog
  | _ => none
theorem mkLog_some {ns : List Int} {l : LP} (h : mkLog ns = some l) : ns = l.all ∧ l.cs.length = 8 ∧ 0 ≤ l.g ∧ 0 ≤ l.a ∧ l.a < l.m ∧ 0 ≤ l.h := by
  unfold mkLog at h
  split at h
  · split at h
    · rename_i c
      cases h
      exact ⟨rfl, c⟩
    · cases h
  · cases h
theorem asLog_some {d : PyData} {l : LP} (h : asLog d = some l) : d = .tuple (l.all.map PyData.int) ∧ l.cs.length = 8 ∧ 0 ≤ l.g ∧ 0 ≤ l.a ∧ l.a < l.m ∧ 0 ≤ l.h := by
  unfold asLog at h
  split at h
  · rename_i ds
    cases e : intsOf ds with
    | none => rw [e] at h; cases h
    | some ns =>
      rw [e] at h
      obtain ⟨h1, h2⟩ := mkLog_some (show mkLog ns = some l from h)
      rw [intsOf_some e, h1]
      exact ⟨rfl, h2⟩
  · cases h
theorem asLog_mk {l : LP} (h : l.cs.length = 8 ∧ 0 ≤ l.g ∧ 0 ≤ l.a ∧ l.a < l.m ∧ 0 ≤ l.h) : asLog (.tuple (l.all.map PyData.int)) = some l := by
  show (intsOf _).bind mkLog = _
  rw [intsOf_map]
  show (if l.cs.length = 8 ∧ 0 ≤ l.g ∧ 0 ≤ l.a ∧ l.a < l.m ∧ 0 ≤ l.h then some (⟨l.g, l.a, l.m, l.h, l.cs⟩ : LP) else none) = _
  rw [if_pos h]
theorem dps_inv {K : PySem.W.Frag} {H : Hp} : ∀ {ns : List Int} {vs : List V}, DpAll K H vs (ns.map PyData.int) → vs = ns.map V.int
  | [], _, h => by cases h; rfl
  | n :: ns, _, h => by
    cases h with
    | cons h1 h2 =>
      cases h1
      rw [dps_inv h2]
      rfl
/-- a log plate's value, read -/
theorem log_read {K : PySem.W.Frag} {H : Hp} {v : V} {d : PyData} {l : LP} (hd : Dp K H v d) (h : asLog d = some l) : ∃ a, v = .ref a ∧ SqT K H a (l.all.map V.int) := by
  obtain ⟨rfl, _⟩ := asLog_some h
  cases hd with
  | tup hs ha => exact ⟨_, rfl, dps_inv ha ▸ hs⟩
theorem whole_lo {d : PyData} {l : Int} (h : wholeB d (some l) none = true) : ∃ i, d = .int i ∧ l ≤ i := by
  cases d with
  | int i =>
    have h' : (decide (l ≤ i) && true) = true := h
    rw [Bool.and_true] at h'
    exact ⟨i, rfl, of_decide_eq_true h'⟩
  | _ => cases h
theorem whole_both {d : PyData} {l u : Int} (h : wholeB d (some l) (some u) = true) : ∃ i, d = .int i ∧ l ≤ i ∧ i ≤ u := by
  cases d with
  | int i =>
    have h' : (decide (l ≤ i) && decide (i ≤ u)) = true := h
    rw [Bool.and_eq_true] at h'
    exact ⟨i, rfl, of_decide_eq_true h'.1, of_decide_eq_true h'.2⟩
  | _ => cases h
theorem asLog_none_of {d : PyData} (h : ∀ l, asLog d = some l → False) : (asLog d).isSome = false := by
  cases e : asLog d with
  | none => rfl
  | some l => exact (h l e).elim

section
variable {P : Program} {w : World} {K : PySem.W.Frag} {mg : Str → Option Value} {base : Heap}
/-! ### slot_plate -/
def spSlot : Sp := fun vs H Q _ => ∃ (S t : Int), vs = [.int S, .int t] ∧ 0 < S ∧ Q (.int (2 + t % S)) H
theorem ok_slot {f : Addr} {fd : FuncData} (F : Fun K "slot_plate" "slot_plate" sSlot f fd) {th : Tok} (mH : mg "HEAD_PLATES" = some (.int 2 th)) : FnOk P w K mg base CX0 1 f fd ["slots", "slot"] spSlot := by
  refine F.ok scSlot (fun vs H Q E h => ?_) (fun cdv A outer s H vs Q E hr h => ?_)
  · obtain ⟨S, t, rfl, _⟩ := h
    rfl
  · obtain ⟨S, t, rfl, hS, q⟩ := h
    exact ⟨_, pss_one (ps_ret (pe_op op_add (pe_glob (v := .int 2) rfl mH ⟨_, rfl⟩) (pe_op op_mod (pv 1) (pv 0)))), _, rfl, _, rfl, _, _, rfl, rfl, hS, _, _, rfl, rfl, q⟩

/-! ### is_log_plate -/
def spIsLog (K : PySem.W.Frag) : Sp := fun vs H Q _ => ∃ v d, vs = [v] ∧ Dp K H v d ∧ ∀ H', Same H H' → Q (.bl (asLog d).isSome) H'
theorem ok_isLog {f fW fC : Addr} {fd fdW fdC : FuncData} {ds1 ds2 : List Value} (F : Fun K "is_log_plate" "is_log_plate" sIsLog f fd) (GW : FnOk P w K mg base CX0 1 fW fdW ["thing", "low", "high"] (spWhole K)) (kW : PySem.W.keepIn K (.ref fW) = true) (gW : mg "is_whole" = some (.ref fW))
    (b1 : Binds K fdW ["thing", "low", "high"] ds1) (v1 : Vals [.non, .non] ds1) (b2 : Binds K fdW ["thing", "low", "high"] ds2) (v2 : Vals [.non] ds2) (b3 : Binds K fdW ["thing", "low", "high"] [])
    (GC : FnOk P w K mg base CX0 2 fC fdC ["value"] (spCells K)) (kC : PySem.W.keepIn K (.ref fC) = true) (gC : mg "is_cells" = some (.ref fC)) (bC : Binds K fdC ["value"] [])
    (mi : mg "isinstance" = none) (mt : mg "tuple" = none) {tl : Tok} (mL : mg "LOG_NUMBERS" = some (.int 4 tl)) :
    FnOk P w K mg base CX0 3 f fd ["value"] (spIsLog K) := by
  refine F.ok scIsLog (fun vs H Q E h => ?_) (fun cdv A outer s H vs Q E hr h => ?_)
  · obtain ⟨v, d, rfl, _⟩ := h
    rfl
  · obtain ⟨v, d, rfl, hd, q⟩ := h
    have hr1 : Room 1 _ := hr.mono (by decide)
    refine ⟨_, pss_cons (ps_if (PW.pt (pw_or (pt_not (pt_val (pe_callB call_isi (by rfl) mi (by decide +kernel) (pa_cons (pv 0) (pa_cons (pe_bltn (v := .ty "tuple") (by rfl) mt boot_tuple rfl) pa_nil)))))
        (pw_or1 (pt_not (pt_val (pe_call GC hr rfl gC kC bC .nil pass0 (pa_cons (pe_slice sl_tupA (pv 0) (po_some (pe_glob (v := .int 4) rfl mL ⟨_, rfl⟩)) po_none) pa_nil))))))) (pss_one (ps_ret pe_bl)) pss_nil)
      (pss_cons (ps_asg (pe_slice sl_tupA (pv 0) po_none (po_some (pe_glob (v := .int 4) rfl mL ⟨_, rfl⟩))) (pg_tup rfl (pgs_cons (pg_name (i := 1) scIsLog.nd rfl (.inl rfl)) (pgs_cons (pg_name (i := 2) scIsLog.nd rfl (.inl rfl)) (pgs_cons (pg_name (i := 3) scIsLog.nd rfl (.inl rfl)) (pgs_cons (pg_name (i := 4) scIsLog.nd rfl (.inl rfl)) pgs_nil))))))
      (pss_one (ps_ret (pe_and (pe_call GW hr1 rfl gW kW b2 v2 pass0 (pa_cons (pv 1) (pa_cons pe_int pa_nil))) (pe_and (pe_call GW hr1 rfl gW kW b1 v1 pass0 (pa_cons (pv 3) pa_nil))
        (pe_and (pe_call GW hr1 rfl gW kW b3 .nil pass0 (pa_cons (pv 2) (pa_cons pe_int (pa_cons (pe_op op_sub (pv 3) pe_int) pa_nil)))) (pe_one (pe_call GW hr1 rfl gW kW b2 v2 pass0 (pa_cons (pv 4) (pa_cons pe_int pa_nil)))))))))), ?_⟩
    obtain ⟨t, ty, kt⟩ := isi_tup hd
    refine ⟨_, rfl, _, _, t, _, _, rfl, .ty _, ty, kt, _, rfl, ?_⟩
    cases hd with
    | non => exact iteT (iteT (q _ (Same.refl _)))
    | str x => exact iteT (iteT (q _ (Same.refl _)))
    | lst _ _ => exact iteT (iteT (q _ (Same.refl _)))
    | int x => exact iteT (iteT (q _ (Same.refl _)))
    | bl b => exact iteT (iteT (q _ (Same.refl _)))
    | @tup a xs ds hs ha =>
      refine iteF ⟨_, rfl, 4, rfl, ?_⟩
      dsimp only [tNoPart]
      refine slA_use (K := K) (a := a) (xs := xs) (lo := some 4) (hi := none) hs fun p H1 s1 h1 => ?_
      have e4 : cutV xs (some (4 : Int)) none = xs.drop 4 := cut_from xs 4
      rw [e4] at h1
      refine ⟨_, .tuple (ds.drop 4), rfl, .tup h1 (dps_same s1 _ _ (dps_drop 4 ha)), fun H2 s2 => ⟨_, rfl, ?_⟩⟩
      have s02 : Same H H2 := s1.trans s2
      -- what fails: no log plate
      have no : (∀ l, asLog (.tuple ds) = some l → False) → ∀ H', Same H H' → Q (.bl false) H' := fun z H' s' => by
        have q' := q H' s'
        rw [asLog_none_of z] at q'
        exact q'
      cases hcell : cellsB (.tuple (ds.drop 4)) with
      | false =>
        refine iteT (no (fun l hl => ?_) _ s02)
        obtain ⟨e, h8, _⟩ := asLog_some hl
        injection e with e
        rw [e] at hcell
        have : cellsB (.tuple ((l.all.map PyData.int).drop 4)) = true := by
          show (decide ((l.cs.map PyData.int).length = 8) && (l.cs.map PyData.int).all isI) = true
          rw [allI_map, List.length_map, h8]
          rfl
        rw [this] at hcell
        cases hcell
      | true =>
        have hc2 : (decide ((ds.drop 4).length = 8) && (ds.drop 4).all isI) = true := hcell
        rw [Bool.and_eq_true] at hc2
        have h8 : (ds.drop 4).length = 8 := of_decide_eq_true hc2.1
        obtain ⟨cs, ecs⟩ := allI_of hc2.2
        have hlen : ds.length = 12 := by rw [List.length_drop] at h8; omega
        obtain ⟨d0, d1, d2, d3, rest, eds⟩ : ∃ d0 d1 d2 d3 rest, ds = d0 :: d1 :: d2 :: d3 :: rest := by
          match ds, hlen with
          | d0 :: d1 :: d2 :: d3 :: rest, _ => exact ⟨d0, d1, d2, d3, rest, rfl⟩
        subst eds
        have erest : rest = cs.map PyData.int := ecs
        subst erest
        have hc8 : cs.length = 8 := by simpa using h8
        obtain ⟨x0, x1, x2, x3, xr, exs, p0, p1, p2, p3⟩ : ∃ x0 x1 x2 x3 xr, xs = x0 :: x1 :: x2 :: x3 :: xr ∧ Dp K H x0 d0 ∧ Dp K H x1 d1 ∧ Dp K H x2 d2 ∧ Dp K H x3 d3 := by
          cases ha with
          | cons p0 ha => cases ha with
            | cons p1 ha => cases ha with
              | cons p2 ha => cases ha with
                | cons p3 ha => exact ⟨_, _, _, _, _, rfl, p0, p1, p2, p3⟩
        subst exs
        refine iteF ⟨_, rfl, 4, rfl, ?_⟩
        dsimp only [tNoPart]
        refine slA_use (K := K) (a := a) (lo := none) (hi := some 4) (same_seqT s02 hs) fun p' H3 s3 h3 => ?_
        have e4' : cutV (x0 :: x1 :: x2 :: x3 :: xr) none (some (4 : Int)) = [x0, x1, x2, x3] := cut_to _ 4
        rw [e4'] at h3
        have s03 : Same H H3 := s02.trans s3
        refine ⟨p', _, rfl, h3, rfl, _, _, rfl, _, _, rfl, _, _, rfl, _, _, rfl, rfl, ?_⟩
        refine ⟨_, rfl, x0, d0, some 0, none, rfl, dp_same s03 _ _ p0, _, rfl, ite2 (fun c0 => ?_) (fun c0 => no (fun l hl => ?_) _ s03)⟩
        · refine ⟨_, rfl, x2, d2, none, none, rfl, dp_same s03 _ _ p2, _, rfl, ite2 (fun c2 => ?_) (fun c2 => no (fun l hl => ?_) _ s03)⟩
          · obtain ⟨m, rfl⟩ := isI_of ((whole_none d2).symm.trans c2)
            cases p2
            refine ⟨_, rfl, _, rfl, _, _, rfl, rfl, x1, d1, some 0, some (m - 1), rfl, dp_same s03 _ _ p1, _, rfl, ite2 (fun c1 => ?_) (fun c1 => no (fun l hl => ?_) _ s03)⟩
            · refine ⟨_, rfl, x3, d3, some 0, none, rfl, dp_same s03 _ _ p3, ?_⟩
              obtain ⟨g, rfl, hg⟩ := whole_lo c0
              obtain ⟨at', rfl, ha1, ha2⟩ := whole_both c1
              have q' := q _ s03
              have e : (asLog (.tuple (.int g :: .int at' :: .int m :: d3 :: cs.map PyData.int))).isSome = wholeB d3 (some 0) none := by
                cases hw : wholeB d3 (some 0) none with
                | true =>
                  obtain ⟨hm, rfl, hh⟩ := whole_lo hw
                  have z := asLog_mk (l := ⟨g, at', m, hm, cs⟩) ⟨hc8, hg, ha1, by show at' < m; omega, hh⟩
                  have z2 : (PyData.int g :: .int at' :: .int m :: .int hm :: cs.map PyData.int) = (LP.all ⟨g, at', m, hm, cs⟩).map PyData.int := rfl
                  rw [z2, z]
                  rfl
                | false =>
                  refine asLog_none_of fun l hl => ?_
                  obtain ⟨e, _, _, _, _, hh⟩ := asLog_some hl
                  simp only [LP.all, List.map_cons, PyData.tuple.injEq, List.cons.injEq] at e
                  rw [e.2.2.2.1] at hw
                  have : wholeB (.int l.h) (some 0) none = true := by
                    show (decide (0 ≤ l.h) && true) = true
                    rw [decide_eq_true hh]
                    rfl
                  rw [this] at hw
                  cases hw
              rw [e] at q'
              exact q'
            · obtain ⟨e, _, _, ha1, ha2, _⟩ := asLog_some hl
              simp only [LP.all, List.map_cons, PyData.tuple.injEq, List.cons.injEq, PyData.int.injEq] at e
              refine c1 ?_
              rw [e.2.1]
              show (decide (0 ≤ l.a) && decide (l.a ≤ m - 1)) = true
              rw [decide_eq_true ha1, decide_eq_true (by omega)]
              rfl
          · obtain ⟨e, _⟩ := asLog_some hl
            simp only [LP.all, List.map_cons, PyData.tuple.injEq, List.cons.injEq, PyData.int.injEq] at e
            refine c2 ?_
            rw [e.2.2.1]
            rfl
        · obtain ⟨e, _, hg, _⟩ := asLog_some hl
          simp only [LP.all, List.map_cons, PyData.tuple.injEq, List.cons.injEq, PyData.int.injEq] at e
          refine c0 ?_
          rw [e.1]
          show (decide (0 ≤ l.g) && true) = true
          rw [decide_eq_true hg]
          rfl
end
end Pf

set_option Elab.async false
set_option linter.all false
set_option maxRecDepth 100000
set_option maxHeartbeats 4000000
namespace Pf
open PySem PySem.Spec PyProof.Rows L2
/-! ### disks -/
theorem n_ml : ¬ (("many" : Str) = "loose") := by decide +kernel
theorem n_ms : ¬ (("many" : Str) = "settled") := by decide +kernel
theorem n_sl : ¬ (("settled" : Str) = "loose") := by decide +kernel
theorem n_sm : ¬ (("settled" : Str) = "many") := by decide +kernel
theorem n_lm : ¬ (("loose" : Str) = "many") := by decide +kernel
theorem n_ls : ¬ (("loose" : Str) = "settled") := by decide +kernel
def fl (n : Int) (s l : Addr) : List (Str × V) := putF "loose" (.ref l) (putF "settled" (.ref s) (putF "many" (.int n) []))
theorem fl_eq (n : Int) (s l : Addr) : fl n s l = ([("many", V.int n), ("settled", V.ref s), ("loose", V.ref l)] : List (Str × V)) := by
  unfold fl
  simp only [putF, if_neg n_ms, if_neg n_sm, if_neg n_ml, if_neg n_lm, if_neg n_sl, if_neg n_ls]
theorem fl_many (n : Int) (s l : Addr) : (fl n s l).lookup ("many" : Str) = some (.int n) := by
  unfold fl
  rw [lookup_putF, if_neg n_ml, lookup_putF, if_neg n_ms, lookup_putF, if_pos rfl]
theorem fl_settled (n : Int) (s l : Addr) : (fl n s l).lookup ("settled" : Str) = some (.ref s) := by
  unfold fl
  rw [lookup_putF, if_neg n_sl, lookup_putF, if_pos rfl]
theorem fl_loose (n : Int) (s l : Addr) : (fl n s l).lookup ("loose" : Str) = some (.ref l) := by
  unfold fl
  rw [lookup_putF, if_pos rfl]
theorem fl_no (n : Int) (s l : Addr) {m : Str} (h1 : ¬ m = "loose") (h2 : ¬ m = "settled") (h3 : ¬ m = "many") : (fl n s l).lookup m = none := by
  unfold fl
  rw [lookup_putF, if_neg h1, lookup_putF, if_neg h2, lookup_putF, if_neg h3]
  rfl
theorem fl_len (n : Int) (s l : Addr) : (fl n s l).length < 1000 := by
  rw [fl_eq]
  show 3 < 1000
  decide
theorem fl_put_loose (n : Int) (s l l' : Addr) : putF "loose" (.ref l') (fl n s l) = fl n s l' := by
  rw [fl_eq, fl_eq]
  simp only [putF, if_neg n_ms, if_neg n_sm, if_neg n_ml, if_neg n_lm, if_neg n_sl, if_neg n_ls, if_pos]
/-- the pairs of what is loose -/
def LsAt (H : Hp) (ts : List V) (lv : List (Int × V)) : Prop := ts.length = lv.length ∧ ∀ (i : Nat) (q : Int × V), lv[i]? = some q → ∃ b, ts[i]? = some (.ref b) ∧ H b = some (.tup [.int q.1, q.2])
theorem LsAt.same {H H' : Hp} {ts : List V} {lv : List (Int × V)} (h : LsAt H ts lv) (s : Same H H') : LsAt H' ts lv := ⟨h.1, fun i q e => by
  obtain ⟨b, e1, e2⟩ := h.2 i q e
  exact ⟨b, e1, s _ _ e2⟩⟩
/-- a disk stands at d: how many plates, what is settled, what is loose -/
def DiskAt (C : Addr) (H : Hp) (d : Addr) (n : Int) (sv : List V) (lv : List (Int × V)) : Prop :=
  ∃ dx s l ts, H d = some (.ins C dx (fl n s l)) ∧ H s = some (.tup sv) ∧ sv.length = n.toNat ∧ 0 ≤ n ∧ H l = some (.tup ts) ∧ LsAt H ts lv
theorem DiskAt.same {C : Addr} {H H' : Hp} {d : Addr} {n : Int} {sv : List V} {lv : List (Int × V)} (h : DiskAt C H d n sv lv) (s : Same H H') : DiskAt C H' d n sv lv := by
  obtain ⟨dx, a, b, ts, h1, h2, h3, h4, h5, h6⟩ := h
  exact ⟨dx, a, b, ts, s _ _ h1, s _ _ h2, h3, h4, s _ _ h5, h6.same s⟩
/-- what a plate reads as -/
def nowV (sv : List V) (lv : List (Int × V)) (p : Int) : V := lv.foldl (fun v q => if q.1 = p then q.2 else v) (sv.getD p.toNat .non)
structure DTxt (K : PySem.W.Frag) (C : Addr) : Prop where
  cl : Cls K C
  nM : NoAttr K C "many"
  nS : NoAttr K C "settled"
  nL : NoAttr K C "loose"

theorem scInit : FnScope ["self", "many"] ["self", "many"] (defScope sInit) := ⟨rfl, rfl, rfl, by decide +kernel, rfl, by decide +kernel, by decide +kernel⟩
theorem scWrite : FnScope ["self", "plate", "value"] ["self", "plate", "value"] (defScope sWrite) := ⟨rfl, rfl, rfl, by decide +kernel, rfl, by decide +kernel, by decide +kernel⟩
theorem scNow : FnScope ["self", "plate", "value", "written", "late"] ["self", "plate"] (defScope sNow) := ⟨rfl, rfl, rfl, by decide +kernel, rfl, by decide +kernel, by decide +kernel⟩
theorem scCheck : FnScope ["self", "plate"] ["self", "plate"] (defScope sCheck) := ⟨rfl, rfl, rfl, by decide +kernel, rfl, by decide +kernel, by decide +kernel⟩
section
variable {P : Program} {w : World} {K : PySem.W.Frag} {mg : Str → Option Value} {base : Heap} {C : Addr}
def spInit (C : Addr) : Sp := fun vs H Q _ => ∃ (d dx : Addr) (n : Int), vs = [.ref d, .int n] ∧ H d = some (.ins C dx []) ∧ 2 ≤ n ∧ n ≤ 1000 ∧
  ∀ H' e, But [d] H H' → H e = none → H' e = some (.tup []) → DiskAt C H' d n (List.replicate n.toNat (.ref e)) [] → Q .non H'
theorem ok_init {f : Addr} {fd : FuncData} (F : Fun K "__init__" "Disk.__init__" sInit f fd) (T : DTxt K C) : FnOk P w K mg base CX0 1 f fd ["self", "many"] (spInit C) := by
  refine F.ok scInit (fun vs H Q E h => ?_) (fun cdv A outer s H vs Q E hr h => ?_)
  · obtain ⟨d, dx, n, rfl, _⟩ := h
    rfl
  · obtain ⟨d, dx, n, rfl, hd, h2, h3, k⟩ := h
    refine ⟨_, pss_cons (ps_fld (pv 0) (pv 1) rfl) (pss_cons (ps_fld (pv 0) (pe_op op_repT (pe_tup (pa_cons (pe_tup pa_nil) pa_nil)) (pv 1)) rfl) (pss_one (ps_fld (pv 0) (pe_tup pa_nil) rfl))), ?_⟩
    refine ⟨_, rfl, _, rfl, d, C, dx, [], rfl, hd, T.cl, T.nM, (by show 0 < 1000; decide), ?_⟩
    refine ⟨Nat.zero_le _, fun e he => ⟨by show 1 ≤ sizeLine; decide, fun u hu => ?_⟩⟩
    have ned : e ≠ d := fun z => by rw [z, upd_same] at he; cases he
    have nue : u ≠ e := fun z => by rw [z, upd_same] at hu; cases hu
    have nud : u ≠ d := fun z => by rw [z, upd_ne ned.symm, upd_same] at hu; cases hu
    refine ⟨_, rfl, u, n, [.ref e], rfl, rfl, SqT.of upd_same, by simp, h2, h3, by show 1 ≤ 1000; decide, fun s' hs => ?_⟩
    have nsu : s' ≠ u := fun z => by rw [z, upd_same] at hs; cases hs
    have nse : s' ≠ e := fun z => by rw [z, upd_ne nue.symm, upd_same] at hs; cases hs
    have nsd : s' ≠ d := fun z => by rw [z, upd_ne nud.symm, upd_ne ned.symm, upd_same] at hs; cases hs
    refine ⟨_, rfl, d, C, dx, putF "many" (.int n) [], rfl, by rw [upd_ne nsd.symm, upd_ne nud.symm, upd_ne ned.symm, upd_same], T.cl, T.nS, (by show 1 < 1000; decide), ?_⟩
    refine ⟨Nat.zero_le _, fun l hl => ?_⟩
    have nld : l ≠ d := fun z => by rw [z, upd_same] at hl; cases hl
    have nls : l ≠ s' := fun z => by rw [z, upd_ne nsd, upd_same] at hl; cases hl
    have nlu : l ≠ u := fun z => by rw [z, upd_ne nud, upd_ne nsu.symm, upd_same] at hl; cases hl
    have nle : l ≠ e := fun z => by rw [z, upd_ne ned, upd_ne nse.symm, upd_ne nue.symm, upd_same] at hl; cases hl
    have he0 : H e = none := by rw [upd_ne ned] at he; exact he
    have hu0 : H u = none := by rw [upd_ne nue, upd_ne nud] at hu; exact hu
    have hs0 : H s' = none := by rw [upd_ne nsu, upd_ne nse, upd_ne nsd] at hs; exact hs
    have hl0 : H l = none := by rw [upd_ne nld, upd_ne nls, upd_ne nlu, upd_ne nle, upd_ne nld] at hl; exact hl
    refine ⟨_, rfl, d, C, dx, putF "settled" (.ref s') (putF "many" (.int n) []), rfl, by rw [upd_ne nld.symm, upd_same], T.cl, T.nL, ?_, ?_⟩
    · show (if ("many" : Str) = "settled" then _ else (("many" : Str), V.int n) :: putF "settled" (V.ref s') []).length < 1000
      rw [if_neg n_ms]
      show 2 < 1000
      decide
    refine k _ e (fun b o q => ?_) he0 ?_ ⟨dx, s', l, [], upd_same, ?_, ?_, by omega, ?_, ⟨rfl, fun i q z => by simp at z⟩⟩
    · have hb : b ∉ [d] := fun z => by rw [off_in z] at q; cases q
      rw [off_out hb] at q
      have nbd : b ≠ d := fun z => hb (by rw [z]; simp)
      rw [upd_ne nbd, upd_ne (ne_of_none q hl0), upd_ne nbd, upd_ne (ne_of_none q hs0), upd_ne (ne_of_none q hu0), upd_ne (ne_of_none q he0), upd_ne nbd]
      exact q
    · rw [upd_ne ned, upd_ne nle.symm, upd_ne ned, upd_ne nse.symm, upd_ne nue.symm, upd_same]
    · rw [upd_ne nsd, upd_ne nls.symm, upd_ne nsd, upd_same, List.flatten_replicate_singleton]
    · rw [List.length_replicate]
    · rw [upd_ne nld, upd_same]
def spCheck (C : Addr) : Sp := fun vs H Q _ => ∃ (d : Addr) (n p : Int) (sv : List V) (lv : List (Int × V)), vs = [.ref d, .int p] ∧ DiskAt C H d n sv lv ∧ 0 ≤ p ∧ p < n ∧ Q .non H
theorem ok_check {f fW : Addr} {fd fdW : FuncData} (F : Fun K "check_plate" "Disk.check_plate" sCheck f fd) (T : DTxt K C) (GW : FnOk P w K mg base CX0 1 fW fdW ["thing", "low", "high"] (spWhole K)) (kW : PySem.W.keepIn K (.ref fW) = true) (gW : mg "is_whole" = some (.ref fW))
    (b3 : Binds K fdW ["thing", "low", "high"] []) : FnOk P w K mg base CX0 2 f fd ["self", "plate"] (spCheck C) := by
  refine F.ok scCheck (fun vs H Q E h => ?_) (fun cdv A outer s H vs Q E hr h => ?_)
  · obtain ⟨d, n, p, sv, lv, rfl, _⟩ := h
    rfl
  · obtain ⟨d, n, p, sv, lv, rfl, D, h0, h1, k⟩ := h
    obtain ⟨dx, a, b, ts, e1, e2, e3, e4, e5, e6⟩ := id D
    refine ⟨_, pss_one (ps_if (pt_not (pt_val (pe_call GW hr rfl gW kW b3 .nil pass0 (pa_cons (pv 1) (pa_cons pe_int (pa_cons (pe_op op_sub (pe_fld (pv 0) rfl) pe_int) pa_nil)))))) (pss_one ps_never) pss_nil), ?_⟩
    refine ⟨_, rfl, _, rfl, d, C, dx, _, _, rfl, e1, T.cl, T.nM, fl_many _ _ _, _, _, rfl, rfl, .int p, .int p, some 0, some (n - 1), rfl, .int p, _, rfl, ?_⟩
    have e : wholeB (.int p) (some 0) (some (n - 1)) = true := by
      show (decide (0 ≤ p) && decide (p ≤ n - 1)) = true
      rw [decide_eq_true h0, decide_eq_true (by omega)]
      rfl
    rw [e]
    exact iteF k
def spWrite (C : Addr) : Sp := fun vs H Q _ => ∃ (d : Addr) (n p : Int) (v : V) (sv : List V) (lv : List (Int × V)), vs = [.ref d, .int p, v] ∧ DiskAt C H d n sv lv ∧ 0 ≤ p ∧ p < n ∧ lv.length ≤ 1000 ∧
  ∀ H', But [d] H H' → DiskAt C H' d n sv (lv ++ [(p, v)]) → Q .non H'
theorem ok_write {f fK : Addr} {fd fdK : FuncData} (F : Fun K "write" "Disk.write" sWrite f fd) (T : DTxt K C) (GK : FnOk P w K mg base CX0 2 fK fdK ["self", "plate"] (spCheck C)) (mK : Meth K C "check_plate" fK) (bK : Binds K fdK ["self", "plate"] []) :
    FnOk P w K mg base CX0 3 f fd ["self", "plate", "value"] (spWrite C) := by
  refine F.ok scWrite (fun vs H Q E h => ?_) (fun cdv A outer s H vs Q E hr h => ?_)
  · obtain ⟨d, n, p, v, sv, lv, rfl, _⟩ := h
    rfl
  · obtain ⟨d, n, p, v, sv, lv, rfl, D, h0, h1, hz, k⟩ := h
    obtain ⟨dx, a, b, ts, e1, e2, e3, e4, e5, e6⟩ := id D
    refine ⟨_, pss_cons (ps_expr (pe_meth (pv 0) T.cl mK GK hr bK .nil pass0 (pa_cons (pv 1) pa_nil)))
      (pss_one (ps_fld (pv 0) (pe_op op_catA (pe_fld (pv 0) rfl) (pe_tup (pa_cons (pe_tup (pa_cons (pv 1) (pa_cons (pv 2) pa_nil))) pa_nil))) rfl)), ?_⟩
    refine ⟨_, rfl, d, dx, _, rfl, e1, fl_no _ _ _ (by decide +kernel) (by decide +kernel) (by decide +kernel), _, rfl, d, n, p, sv, lv, rfl, D, h0, h1, ?_⟩
    refine ⟨_, rfl, d, C, dx, _, _, rfl, e1, T.cl, T.nL, fl_loose _ _ _, ?_⟩
    refine ⟨_, rfl, _, rfl, by show 2 ≤ sizeLine; decide, fun u hu => ⟨by show 1 ≤ sizeLine; decide, fun u2 hu2 => ?_⟩⟩
    have nu2 : u2 ≠ u := fun z => by rw [z, upd_same] at hu2; cases hu2
    have hu20 : H u2 = none := by rw [upd_ne nu2] at hu2; exact hu2
    have s2 : Same H (upd (upd H u (.tup [.int p, v])) u2 (.tup [.ref u])) := (same_upd hu).trans (same_upd hu2)
    have hlen : ts.length = lv.length := e6.1
    -- behind: the new tuple of pairs stands at c
    have fin : ∀ (c : Addr) (H2 : Hp), Same (upd (upd H u (.tup [.int p, v])) u2 (.tup [.ref u])) H2 → H2 c = some (.tup (ts ++ [.ref u])) →
        ∃ v1, (L2.start ["self", "plate", "value"] [V.ref d, V.int p, v])[0]? = some (some v1) ∧ ∃ a C' dx' fs, v1 = V.ref a ∧ H2 a = some (.ins C' dx' fs) ∧ Cls K C' ∧ NoAttr K C' "loose" ∧ fs.length < 1000 ∧ Q .non (upd H2 a (.ins C' dx' (putF "loose" (.ref c) fs))) := by
      intro c H2 s hc
      have s' : Same H H2 := s2.trans s
      refine ⟨_, rfl, d, C, dx, _, rfl, s' _ _ e1, T.cl, T.nL, fl_len _ _ _, ?_⟩
      rw [fl_put_loose]
      have nd : ∀ {q : Addr} {xs : List V}, H2 q = some (.tup xs) → q ≠ d := fun h z => by
        rw [z, s' _ _ e1] at h
        cases h
      refine k _ (fun q o z => ?_) ⟨dx, a, c, ts ++ [.ref u], upd_same, ?_, e3, e4, ?_, ?_, ?_⟩
      · have hb : q ∉ [d] := fun y => by rw [off_in y] at z; cases z
        rw [off_out hb] at z
        rw [upd_ne (fun y => hb (by rw [y]; simp))]
        exact s' _ _ z
      · rw [upd_ne (nd (s' _ _ e2))]
        exact s' _ _ e2
      · rw [upd_ne (nd hc)]
        exact hc
      · rw [List.length_append, List.length_append, hlen]
        rfl
      · intro i q z
        by_cases hi : i < lv.length
        · rw [List.getElem?_append_left hi] at z
          obtain ⟨b', y1, y2⟩ := e6.2 i q z
          refine ⟨b', ?_, ?_⟩
          · rw [List.getElem?_append_left (by omega)]
            exact y1
          · rw [upd_ne (nd (s' _ _ y2))]
            exact s' _ _ y2
        · rw [List.getElem?_append_right (by omega)] at z
          have hi0 : i - lv.length = 0 := by
            have := (List.getElem?_eq_some_iff.mp z).1
            simp at this
            omega
          rw [hi0] at z
          cases (Option.some.inj z)
          refine ⟨u, ?_, ?_⟩
          · rw [List.getElem?_append_right (by omega), hlen, hi0]
            rfl
          · have hu' : H2 u = some (.tup [.int p, v]) := s _ _ (by rw [upd_ne nu2.symm, upd_same])
            rw [upd_ne (nd hu')]
            exact hu'
    refine ⟨b, u2, ts, [.ref u], rfl, rfl, SqT.of (s2 _ _ e5), SqT.of upd_same, ?_, fun z => ?_, fun _ z => absurd z (by simp), fun _ _ c hc => ?_⟩
    · rw [hlen]
      have := small1000 (n := 1000) (by decide)
      show lv.length + 1 ≤ sizeLine
      omega
    · subst z
      exact fin u2 _ (Same.refl _) upd_same
    · exact fin c _ (same_upd hc) upd_same
def spNow (C : Addr) : Sp := fun vs H Q _ => ∃ (d : Addr) (n p : Int) (sv : List V) (lv : List (Int × V)), vs = [.ref d, .int p] ∧ DiskAt C H d n sv lv ∧ 0 ≤ p ∧ p < n ∧ Q (nowV sv lv p) H
theorem ok_now {f fK : Addr} {fd fdK : FuncData} (F : Fun K "now" "Disk.now" sNow f fd) (T : DTxt K C) (GK : FnOk P w K mg base CX0 2 fK fdK ["self", "plate"] (spCheck C)) (mK : Meth K C "check_plate" fK) (bK : Binds K fdK ["self", "plate"] []) :
    FnOk P w K mg base CX0 3 f fd ["self", "plate"] (spNow C) := by
  refine F.ok scNow (fun vs H Q E h => ?_) (fun cdv A outer s H vs Q E hr h => ?_)
  · obtain ⟨d, n, p, sv, lv, rfl, _⟩ := h
    rfl
  · obtain ⟨d, n, p, sv, lv, rfl, D, h0, h1, k⟩ := h
    obtain ⟨dx, a, b, ts, e1, e2, e3, e4, e5, e6⟩ := id D
    refine ⟨_, pss_cons (ps_expr (pe_meth (pv 0) T.cl mK GK hr bK .nil pass0 (pa_cons (pv 1) pa_nil)))
      (pss_cons (ps_set (i := 2) scNow.nd rfl (.inl rfl) (pe_ix ix_tup (pe_fld (pv 0) rfl) (pv 1) (fun _ _ => rfl)))
      (pss_cons (ps_for PassesOwn.never rfl (pi_tup (pe_fld (pv 0) rfl)) (pg_tup rfl (pgs_cons (pg_name (i := 3) scNow.nd rfl (.inl rfl)) (pgs_cons (pg_name (i := 4) scNow.nd rfl (.inl rfl)) pgs_nil)))
        (pss_one (ps_if (pt_cmpR op_eq (pv 3) (pv 1) (nomark _)) (pss_one (ps_set (i := 2) scNow.nd rfl (.inl rfl) (pv 4))) pss_nil)))
      (pss_one (ps_ret (pv 2))))), ?_⟩
    refine ⟨_, rfl, d, dx, _, rfl, e1, fl_no _ _ _ (by decide +kernel) (by decide +kernel) (by decide +kernel), _, rfl, d, n, p, sv, lv, rfl, D, h0, h1, ?_⟩
    have hp : p.toNat < sv.length := by omega
    have ep : ((p.toNat : Nat) : Int) = p := by omega
    refine ⟨_, rfl, d, C, dx, _, _, rfl, e1, T.cl, T.nS, fl_settled _ _ _, _, rfl, a, sv, p, sv.getD p.toNat .non, rfl, rfl, SqT.of e2, ?_, ?_⟩
    · rw [← ep]
      refine atI_nat ?_
      rw [Int.toNat_natCast, List.getD_eq_getElem?_getD, List.getElem?_eq_getElem hp]
      rfl
    refine ⟨_, rfl, d, C, dx, _, _, rfl, e1, T.cl, T.nL, fl_loose _ _ _, b, rfl, ⟨_, SqT.of e5⟩, for_tup (K := K) (a := b) (xs := ts)
      (fun i σ H' => H' = H ∧ ∃ y3 y4, σ = [some (.ref d), some (.int p), some ((lv.take i).foldl (fun v q => if q.1 = p then q.2 else v) (sv.getD p.toNat .non)), y3, y4]) ⟨rfl, none, none, rfl⟩ (fun i σ H' _ z => by rw [z.1]; exact SqT.of e5) ?_ ?_⟩
    · rintro i x σ H' hi ⟨rfl, y3, y4, rfl⟩
      have hil : i < lv.length := by
        rw [← e6.1]
        exact (List.getElem?_eq_some_iff.mp hi).1
      obtain ⟨c, z1, z2⟩ := e6.2 i _ (List.getElem?_eq_getElem hil)
      have ex : x = .ref c := Option.some.inj (hi.symm.trans z1)
      subst ex
      refine ⟨c, _, rfl, SqT.of z2, rfl, _, _, rfl, _, _, rfl, rfl, ?_⟩
      have et : (lv.take (i + 1)).foldl (fun v q => if q.1 = p then q.2 else v) (sv.getD p.toNat .non) = if lv[i].1 = p then lv[i].2 else (lv.take i).foldl (fun v q => if q.1 = p then q.2 else v) (sv.getD p.toNat .non) := by
        rw [List.take_add_one, List.getElem?_eq_getElem hil, List.foldl_append]
        rfl
      refine ⟨_, rfl, _, rfl, rfl, _, rfl, ite2 (fun hc => ?_) (fun hc => ?_)⟩
      · have he : lv[i].1 = p := by
          have := of_decide_eq_true hc
          injection this
        exact ⟨_, rfl, rfl, _, _, by rw [et, if_pos he]; rfl⟩
      · have he : ¬ lv[i].1 = p := fun z => hc (decide_eq_true (by rw [z]))
        exact ⟨rfl, _, _, by rw [et, if_neg he]; rfl⟩
    · rintro σ H' ⟨rfl, y3, y4, rfl⟩
      refine ⟨_, rfl, ?_⟩
      rw [e6.1, List.take_length]
      exact k
end
end Pf

set_option Elab.async false
set_option linter.all false
set_option maxRecDepth 100000
set_option maxHeartbeats 4000000
namespace Pf
open PySem PySem.Spec PyProof.Rows L2
/-! ### shapes of data -/
theorem lay_ints : ∀ ns : List Int, PyData.canLayAll0 (ns.map PyData.int) = true
  | [] => by simp [PyData.canLayAll0]
  | n :: ns => by simp [PyData.canLayAll0, PyData.canLay0, lay_ints ns]
theorem dep_ints : ∀ ns : List Int, PyData.depthAll (ns.map PyData.int) = 0
  | [] => by simp [PyData.depthAll]
  | n :: ns => by simp [PyData.depthAll, PyData.depth, dep_ints ns]
theorem shaped_list {ds : List PyData} (h1 : PyData.canLayAll0 ds = true) (h2 : PyData.depthAll ds ≤ 60) : SeqAt.shaped (.list ds) = true := by
  have h3 : PyData.depth (.list ds) ≤ 64 := by
    simp only [PyData.depth]
    omega
  show (PyData.canLay0 (.list ds) && decide (PyData.depth (.list ds) ≤ 64)) = true
  rw [Bool.and_eq_true]
  exact ⟨by simp only [PyData.canLay0]; exact h1, decide_eq_true h3⟩
theorem shaped_tup {ds : List PyData} (h1 : PyData.canLayAll0 ds = true) (h2 : PyData.depthAll ds ≤ 60) : SeqAt.shaped (.tuple ds) = true := by
  have h3 : PyData.depth (.tuple ds) ≤ 64 := by
    simp only [PyData.depth]
    omega
  show (PyData.canLay0 (.tuple ds) && decide (PyData.depth (.tuple ds) ≤ 64)) = true
  rw [Bool.and_eq_true]
  exact ⟨by simp only [PyData.canLay0]; exact h1, decide_eq_true h3⟩
theorem scNum : FnScope ["script", "index", "cell", "blend"] ["script", "index"] (defScope sNum) := ⟨rfl, rfl, rfl, by decide +kernel, rfl, by decide +kernel, by decide +kernel⟩
theorem scTake : FnScope ["draw", "many"] ["draw", "many"] (defScope sTake) := ⟨rfl, rfl, rfl, by decide +kernel, rfl, by decide +kernel, by decide +kernel⟩
theorem scPick : FnScope ["draw", "items"] ["draw", "items"] (defScope sPick) := ⟨rfl, rfl, rfl, by decide +kernel, rfl, by decide +kernel, by decide +kernel⟩
section
variable {P : Program} {w : World} {K : PySem.W.Frag} {mg : Str → Option Value} {base : Heap}
def spNum (K : PySem.W.Frag) : Sp := fun vs H Q _ => ∃ (a : Addr) (ns : List Int) (i : Int), vs = [.ref a, .int i] ∧ SqL K H a (ns.map V.int) ∧ ns.length ≤ 63 ∧ ∀ r H', Same H H' → Q (.int r) H'
theorem ok_num {f : Addr} {fd : FuncData} (F : Fun K "_law_number" "_law_number" sNum f fd) (mi : mg "int" = none) (ml : mg "len" = none) (ma : mg "abs" = none) : FnOk P w K mg base CX0 1 f fd ["script", "index"] (spNum K) := by
  refine F.ok scNum (fun vs H Q E h => ?_) (fun cdv A outer s H vs Q E hr h => ?_)
  · obtain ⟨a, ns, i, rfl, _⟩ := h
    rfl
  · obtain ⟨a, ns, i, rfl, hS, hlen, k⟩ := h
    refine ⟨_, pss_cons (ps_if (pt_cmpR (op_eqD hr.units) (pv 0) (pe_lst pa_nil) (nomark _))
        (pss_one (ps_ret (pe_callTy call_int1 (by rfl) mi boot_int (pa_cons (pe_op op_mod (pe_op op_add (pe_op op_mul (pv 1) pe_int) pe_int) pe_int) pa_nil)))) pss_nil)
      (pss_cons (ps_set (i := 2) scNum.nd rfl (.inl rfl) (pe_ix ix_list (pv 0) (pe_op op_mod (pv 1) (pe_callB call_len_seq (by rfl) ml boot_len (pa_cons (pv 0) pa_nil))) (fun _ _ => rfl)))
      (pss_cons (ps_if (pt_cmpR op_ge (pe_callB call_abs (by rfl) ma (by decide +kernel) (pa_cons (pv 2) pa_nil)) (pe_op op_pow pe_int pe_int) (nomark _))
        (pss_one (ps_set (i := 2) scNum.nd rfl (.inl rfl) (pe_op op_mod (pv 2) (pe_op op_pow pe_int pe_int)))) pss_nil)
      (pss_cons (ps_set (i := 3) scNum.nd rfl (.inl rfl) (pe_op op_mod (pe_op op_add (pe_op op_mul (pe_op op_add (pv 2) (pe_op op_mul pe_int (pv 1))) pe_int) (pe_op op_mul pe_int (pe_callB call_len_seq (by rfl) ml boot_len (pa_cons (pv 0) pa_nil)))) pe_int))
      (pss_one (ps_ret (pe_callTy call_int1 (by rfl) mi boot_int (pa_cons (pe_op op_mod (pe_op op_add (pe_op op_mul (pe_op op_mod (pe_op op_mul (pv 3) pe_int) pe_int) pe_int) (pv 1)) pe_int) pa_nil))))))), ?_⟩
    refine ⟨_, rfl, Nat.zero_le _, fun p hp => ?_⟩
    have s1 : Same H (upd H p (.lst [])) := same_upd hp
    have hS1 : SqL K (upd H p (.lst [])) a (ns.map V.int) := s1.seq hS
    refine ⟨.list (ns.map PyData.int), .list [], .lst hS1 (dps_ints ns), .lst (SqL.of upd_same) .nil, shaped_list (lay_ints ns) (by rw [dep_ints]; decide), shaped_list (by simp [PyData.canLayAll0]) (by simp [PyData.depthAll]), _, rfl, ?_⟩
    cases ns with
    | nil =>
      have e : PyData.eqv (.list (([] : List Int).map PyData.int)) (.list []) = true := by simp [PyData.eqv, PyData.eqvAll]
      rw [e]
      exact iteT ⟨_, rfl, _, _, rfl, rfl, .inr ⟨by decide, by decide⟩, _, _, rfl, rfl, _, _, rfl, rfl, (by show (0 : Int) < 2147483647; decide), .inl ⟨_, rfl, k _ _ s1⟩⟩
    | cons n0 ns =>
      have e : PyData.eqv (.list ((n0 :: ns).map PyData.int)) (.list []) = false := by simp [PyData.eqv, PyData.eqvAll]
      rw [e]
      have hpos : (0 : Int) < (((n0 :: ns).map V.int).length : Nat) := by simp
      have hj0 : 0 ≤ i % (((n0 :: ns).map V.int).length : Nat) := Int.emod_nonneg _ (by omega)
      have hj1 : i % (((n0 :: ns).map V.int).length : Nat) < (((n0 :: ns).map V.int).length : Nat) := Int.emod_lt_of_pos _ hpos
      obtain ⟨j, ej⟩ : ∃ j : Nat, i % (((n0 :: ns).map V.int).length : Nat) = (j : Int) := ⟨_, (Int.toNat_of_nonneg hj0).symm⟩
      have hjl : j < (n0 :: ns).length := by
        rw [ej, List.length_map] at hj1
        omega
      have hat : atI ((n0 :: ns).map V.int) (i % (((n0 :: ns).map V.int).length : Nat)) = some (.int ((n0 :: ns)[j])) := by
        rw [ej]
        exact atI_nat (by rw [List.getElem?_map, List.getElem?_eq_getElem hjl]; rfl)
      refine iteF ⟨_, rfl, _, rfl, _, rfl, a, _, rfl, .inl hS1, _, _, rfl, rfl, hpos, a, _, _, _, rfl, rfl, hS1, hat, ?_⟩
      refine ⟨_, rfl, _, rfl, _, _, rfl, rfl, ⟨by decide, by decide, by decide⟩, _, _, rfl, rfl, _, rfl, ite2 (fun _ => ?_) (fun _ => ?_)⟩
      · refine ⟨_, rfl, _, _, rfl, rfl, ⟨by decide, by decide, by decide⟩, _, _, rfl, rfl, (by show (0 : Int) < 10 ^ 18; decide), ?_⟩
        refine ⟨_, rfl, _, rfl, _, _, rfl, rfl, .inl ⟨by decide, by decide⟩, _, _, rfl, rfl, _, _, rfl, rfl, .inr ⟨by decide, by decide⟩, _, rfl, a, _, rfl, .inl hS1, _, _, rfl, rfl, .inl ⟨by decide, by decide⟩, _, _, rfl, rfl, _, _, rfl, rfl, (by show (0 : Int) < 2147483647; decide), ?_⟩
        exact ⟨_, rfl, _, _, rfl, rfl, .inr ⟨by decide, by decide⟩, _, _, rfl, rfl, (by show (0 : Int) < 2147483629; decide), _, _, rfl, rfl, .inr ⟨by decide, by decide⟩, _, rfl, _, _, rfl, rfl, _, _, rfl, rfl, (by show (0 : Int) < 2147483587; decide), .inl ⟨_, rfl, k _ _ s1⟩⟩
      · refine ⟨_, rfl, _, rfl, _, _, rfl, rfl, .inl ⟨by decide, by decide⟩, _, _, rfl, rfl, _, _, rfl, rfl, .inr ⟨by decide, by decide⟩, _, rfl, a, _, rfl, .inl hS1, _, _, rfl, rfl, .inl ⟨by decide, by decide⟩, _, _, rfl, rfl, _, _, rfl, rfl, (by show (0 : Int) < 2147483647; decide), ?_⟩
        exact ⟨_, rfl, _, _, rfl, rfl, .inr ⟨by decide, by decide⟩, _, _, rfl, rfl, (by show (0 : Int) < 2147483629; decide), _, _, rfl, rfl, .inr ⟨by decide, by decide⟩, _, rfl, _, _, rfl, rfl, _, _, rfl, rfl, (by show (0 : Int) < 2147483587; decide), .inl ⟨_, rfl, k _ _ s1⟩⟩
/-- draw: the list of the script and how many were drawn -/
def DrawAt (K : PySem.W.Frag) (H : Hp) (a sc : Addr) (ns : List Int) : Prop := (∃ i : Int, H a = some (.lst [.ref sc, .int i])) ∧ SqL K (Off [a] H) sc (ns.map V.int) ∧ ns.length ≤ 63
theorem sql_but {H H' : Hp} {cs : List Addr} {p : Addr} {xs : List V} (h : SqL K H p xs) (s : But cs H H') (n : p ∉ cs) : SqL K H' p xs := by
  rcases h with (h | ⟨o, h⟩) | h
  · exact .inl (.inl (s.at h n))
  · exact .inl (.inr ⟨o, s.at h n⟩)
  · exact .inr h
theorem DrawAt.next {H H' : Hp} {a sc : Addr} {ns : List Int} (D : DrawAt K H a sc ns) (s : But [a] H H') (h : ∃ i : Int, H' a = some (.lst [.ref sc, .int i])) : DrawAt K H' a sc ns :=
  ⟨h, (s.off (fun c z => z)).seq D.2.1, D.2.2⟩
theorem DrawAt.same {H H' : Hp} {a sc : Addr} {ns : List Int} (D : DrawAt K H a sc ns) (s : Same H H') : DrawAt K H' a sc ns :=
  D.next (.of s) (let ⟨i, e⟩ := D.1; ⟨i, s _ _ e⟩)
def spTake (K : PySem.W.Frag) : Sp := fun vs H Q _ => ∃ (a sc : Addr) (ns : List Int) (m : Int), vs = [.ref a, .int m] ∧ DrawAt K H a sc ns ∧ 0 < m ∧ ∀ r H', 0 ≤ r → r < m → But [a] H H' → DrawAt K H' a sc ns → Q (.int r) H'
theorem ok_take {f fN : Addr} {fd fdN : FuncData} (F : Fun K "_law_take" "_law_take" sTake f fd) (GN : FnOk P w K mg base CX0 1 fN fdN ["script", "index"] (spNum K)) (kN : PySem.W.keepIn K (.ref fN) = true) (gN : mg "_law_number" = some (.ref fN))
    (bN : Binds K fdN ["script", "index"] []) (mi : mg "int" = none) : FnOk P w K mg base CX0 2 f fd ["draw", "many"] (spTake K) := by
  refine F.ok scTake (fun vs H Q E h => ?_) (fun cdv A outer s H vs Q E hr h => ?_)
  · obtain ⟨a, sc, ns, m, rfl, _⟩ := h
    rfl
  · obtain ⟨a, sc, ns, m, rfl, D, hm, k⟩ := h
    obtain ⟨⟨i, ha⟩, hS, hlen⟩ := id D
    refine ⟨_, pss_cons (ps_augS (pv 0) pe_int get_list pe_int ip_add set_list)
      (pss_one (ps_ret (pe_op op_mod (pe_callTy call_int1 (by rfl) mi boot_int (pa_cons (pe_call GN hr rfl gN kN bN .nil pass0
        (pa_cons (pe_ix ix_list (pv 0) pe_int (fun _ _ => rfl)) (pa_cons (pe_callTy call_int1 (by rfl) mi boot_int (pa_cons (pe_ix ix_list (pv 0) pe_int (fun _ _ => rfl)) pa_nil)) pa_nil))) pa_nil)) (pv 1)))), ?_⟩
    have sB : ∀ o, But [a] H (upd H a o) := fun o b u z => by
      have hb : b ∉ [a] := fun y => by rw [off_in y] at z; cases z
      rw [off_out hb] at z
      rw [upd_ne (fun y => hb (by rw [y]; simp))]
      exact z
    refine ⟨_, rfl, a, _, 1, .int i, rfl, rfl, SqL.of ha, rfl, i, 1, rfl, rfl, a, _, 1, 1, rfl, rfl, ha, rfl, ?_⟩
    refine ⟨_, rfl, a, _, 0, _, rfl, rfl, SqL.of upd_same, rfl, _, rfl, a, _, 1, _, rfl, rfl, SqL.of upd_same, rfl, .inl ⟨_, rfl, ?_⟩⟩
    refine ⟨sc, ns, i + 1, rfl, (sB _).seq hS, hlen, fun r H' s' => .inl ⟨_, rfl, _, rfl, _, _, rfl, rfl, hm, ?_⟩⟩
    have ha' : H' a = some (.lst [.ref sc, .int (i + 1)]) := s' _ _ upd_same
    have s2 : But [a] H H' := (sB _).trans s'
    exact k _ _ (Int.emod_nonneg _ (by omega)) (Int.emod_lt_of_pos _ hm) s2 (D.next s2 ⟨_, ha'⟩)
def spPick (K : PySem.W.Frag) : Sp := fun vs H Q _ => ∃ (a b sc : Addr) (ns : List Int) (xs : List V), vs = [.ref a, .ref b] ∧ DrawAt K H a sc ns ∧ H b = some (.lst xs) ∧ b ≠ a ∧ xs ≠ [] ∧ ∀ v H', v ∈ xs → But [a] H H' → DrawAt K H' a sc ns → Q v H'
theorem ok_pick {f fT : Addr} {fd fdT : FuncData} (F : Fun K "_law_pick" "_law_pick" sPick f fd) (GT : FnOk P w K mg base CX0 2 fT fdT ["draw", "many"] (spTake K)) (kT : PySem.W.keepIn K (.ref fT) = true) (gT : mg "_law_take" = some (.ref fT))
    (bT : Binds K fdT ["draw", "many"] []) (ml : mg "len" = none) : FnOk P w K mg base CX0 3 f fd ["draw", "items"] (spPick K) := by
  refine F.ok scPick (fun vs H Q E h => ?_) (fun cdv A outer s H vs Q E hr h => ?_)
  · obtain ⟨a, b, sc, ns, xs, rfl, _⟩ := h
    rfl
  · obtain ⟨a, b, sc, ns, xs, rfl, D, hb, hne, hx, k⟩ := h
    refine ⟨_, pss_one (ps_ret (pe_ix ix_list (pv 1) (pe_call GT hr rfl gT kT bT .nil pass0 (pa_cons (pv 0) (pa_cons (pe_callB call_len_seq (by rfl) ml boot_len (pa_cons (pv 1) pa_nil)) pa_nil))) (fun _ _ => rfl))), ?_⟩
    have hpos : 0 < xs.length := List.length_pos_iff.mpr hx
    refine ⟨_, rfl, _, rfl, _, rfl, b, xs, rfl, .inl (SqL.of hb), a, sc, ns, xs.length, rfl, D, by omega, fun r H' h0 h1 s' D' => ?_⟩
    have hb' : H' b = some (.lst xs) := s'.at hb (by simp [hne])
    have hr' : r.toNat < xs.length := by omega
    have er : ((r.toNat : Nat) : Int) = r := by omega
    refine ⟨b, xs, r, xs[r.toNat], rfl, rfl, SqL.of hb', ?_, k _ _ (List.getElem_mem hr') s' D'⟩
    have hat := atI_nat (j := r.toNat) (List.getElem?_eq_getElem hr')
    rw [er] at hat
    exact hat
end
end Pf

set_option Elab.async false
set_option linter.all false
set_option maxRecDepth 100000
set_option maxHeartbeats 4000000
namespace Pf
open PySem PySem.Spec PyProof.Rows L2
/-! ### the data of groups -/
abbrev Ch := Int × List Int
def pD (c : Ch) : PyData := .tuple [.int c.1, .tuple (c.2.map PyData.int)]
def chD (cs : List Ch) : PyData := .tuple (cs.map pD)
def optD : Option (List Ch) → PyData
  | none => .none
  | some cs => chD cs
def rowN (g : Int) (i : Nat) (m : Nat) (c : Ch) : List Int := g :: (i : Int) :: (m : Int) :: c.1 :: c.2
def rowsN (g : Int) (m : Nat) : Nat → List Ch → List (List Int)
  | _, [] => []
  | i, c :: cs => rowN g i m c :: rowsN g m (i + 1) cs
def rowD (ns : List Int) : PyData := .tuple (ns.map PyData.int)
theorem rowsN_get (g : Int) (m : Nat) : ∀ (cs : List Ch) (k i : Nat), (rowsN g m k cs)[i]? = cs[i]?.map (rowN g (k + i) m)
  | [], k, i => by simp [rowsN]
  | c :: cs, k, 0 => by simp [rowsN]
  | c :: cs, k, i + 1 => by
    show (rowsN g m (k + 1) cs)[i]? = cs[i]?.map (rowN g (k + (i + 1)) m)
    rw [rowsN_get g m cs (k + 1) i, show k + 1 + i = k + (i + 1) by omega]
theorem rowsN_len (g : Int) (m : Nat) : ∀ (cs : List Ch) (k : Nat), (rowsN g m k cs).length = cs.length
  | [], _ => rfl
  | c :: cs, k => by
    show (rowsN g m (k + 1) cs).length + 1 = cs.length + 1
    rw [rowsN_len g m cs (k + 1)]
section
variable {K : PySem.W.Frag} {H : Hp}
theorem pD_read {v : V} {c : Ch} (h : Dp K H v (pD c)) : ∃ a e, v = .ref a ∧ SqT K H a [.int c.1, .ref e] ∧ SqT K H e (c.2.map V.int) := by
  cases h with
  | tup hs ha =>
    cases ha with
    | cons h1 ha =>
      cases h1
      cases ha with
      | cons h2 ha =>
        cases ha
        cases h2 with
        | tup hs2 ha2 => exact ⟨_, _, rfl, hs, dps_inv ha2 ▸ hs2⟩
theorem pD_mk {a e : Addr} {c : Ch} (h1 : SqT K H a [.int c.1, .ref e]) (h2 : SqT K H e (c.2.map V.int)) : Dp K H (.ref a) (pD c) :=
  .tup h1 (.cons (.int _) (.cons (.tup h2 (dps_ints _)) .nil))
theorem ints_mk {a : Addr} {ns : List Int} (h : SqT K H a (ns.map V.int)) : Dp K H (.ref a) (.tuple (ns.map PyData.int)) := .tup h (dps_ints _)
end
theorem tup_off {K : PySem.W.Frag} {H : Hp} {p : Addr} {xs : List V} {cs : List Addr} (h : SqT K H p xs) (n : p ∉ cs) : SqT K (Off cs H) p xs := by
  rcases h with (h | ⟨o, h⟩) | h
  · exact .inl (.inl (by rw [off_out n]; exact h))
  · exact .inl (.inr ⟨o, by rw [off_out n]; exact h⟩)
  · exact .inr h
theorem eqv_int (a b : Int) : PyData.eqv (.int a) (.int b) = decide (a = b) := by
  simp [PyData.eqv]
  rfl
theorem eqvAll_ints : ∀ ns ms : List Int, PyData.eqvAll (ns.map PyData.int) (ms.map PyData.int) = decide (ns = ms)
  | [], [] => by simp [PyData.eqvAll]
  | [], m :: ms => by simp [PyData.eqvAll]
  | n :: ns, [] => by simp [PyData.eqvAll]
  | n :: ns, m :: ms => by
    simp only [List.map_cons, PyData.eqvAll, eqvAll_ints ns ms, eqv_int]
    by_cases h : n = m <;> by_cases h2 : ns = ms <;> simp [h, h2]
theorem eqv_ints (ns ms : List Int) : PyData.eqv (.tuple (ns.map PyData.int)) (.tuple (ms.map PyData.int)) = decide (ns = ms) := by
  rw [← eqvAll_ints]
  simp [PyData.eqv]
theorem shaped_ints (ns : List Int) : SeqAt.shaped (.tuple (ns.map PyData.int)) = true := shaped_tup (lay_ints ns) (by rw [dep_ints]; decide)
/-! ### the meaning: whole groups and rows of them -/
def grp (ds : List PyData) (S t : Nat) (g m : Int) : Nat → Option (List Ch)
  | 0 => some []
  | n + 1 => (grp ds S t g m n).bind fun cs => (asLog (ds.getD ((t + n) % S) .none)).bind fun l => if l.g = g ∧ l.a = (n : Int) ∧ l.m = m then some (cs ++ [(l.h, l.cs)]) else none
def wg (ds : List PyData) (S t : Nat) (g : Int) : Option (List Ch) :=
  (asLog (ds.getD (t % S) .none)).bind fun l => if (S : Int) < l.m then none else grp ds S t g l.m l.m.toNat
theorem grp_none {ds : List PyData} {S t : Nat} {g m : Int} {i : Nat} (h : grp ds S t g m i = none) : ∀ n, i ≤ n → grp ds S t g m n = none
  | 0, hn => by
    have : i = 0 := by omega
    subst this
    exact h
  | n + 1, hn => by
    by_cases e : i = n + 1
    · rw [← e]; exact h
    · show (grp ds S t g m n).bind _ = none
      rw [grp_none h n (by omega)]
      rfl
theorem grp_len {ds : List PyData} {S t : Nat} {g m : Int} : ∀ {n : Nat} {cs : List Ch}, grp ds S t g m n = some cs → cs.length = n
  | 0, cs, h => by cases h; rfl
  | n + 1, cs, h => by
    have h' : (grp ds S t g m n).bind _ = some cs := h
    cases e : grp ds S t g m n with
    | none => rw [e] at h'; cases h'
    | some cs0 =>
      rw [e] at h'
      cases e2 : asLog (ds.getD ((t + n) % S) .none) with
      | none => rw [e2] at h'; cases h'
      | some l =>
        rw [e2] at h'
        have h3 : (if l.g = g ∧ l.a = (n : Int) ∧ l.m = m then some (cs0 ++ [(l.h, l.cs)]) else none) = some cs := h'
        by_cases c : l.g = g ∧ l.a = (n : Int) ∧ l.m = m
        · rw [if_pos c] at h3
          cases h3
          rw [List.length_append, grp_len e]
          rfl
        · rw [if_neg c] at h3
          cases h3

theorem scRows : FnScope ["group", "changes", "many", "at", "home", "cells"] ["group", "changes"] (defScope sRows) := ⟨rfl, rfl, rfl, by decide +kernel, rfl, by decide +kernel, by decide +kernel⟩
theorem scWg : FnScope ["disk", "slots", "slot", "group", "first", "many", "changes", "at", "value"] ["disk", "slots", "slot", "group"] (defScope sWg) := ⟨rfl, rfl, rfl, by decide +kernel, rfl, by decide +kernel, by decide +kernel⟩
section
variable {P : Program} {w : World} {K : PySem.W.Frag} {mg : Str → Option Value} {base : Heap} {C : Addr}
/-! ### log_rows -/
def spRows (K : PySem.W.Frag) : Sp := fun vs H Q _ => ∃ (g : Int) (v : V) (cs : List Ch), vs = [.int g, v] ∧ Dp K H v (chD cs) ∧ (∀ c ∈ cs, c.2.length = 8) ∧ cs.length ≤ 1000 ∧
  ∀ H' p us, Same H H' → H p = none → H' p = some (.lst us) → DpAll K (Off [p] H') us ((rowsN g cs.length 0 cs).map rowD) → Q (.ref p) H'
theorem ok_rows {f : Addr} {fd : FuncData} (F : Fun K "log_rows" "log_rows" sRows f fd) (ml : mg "len" = none) (me : mg "enumerate" = none) : FnOk P w K mg base CX0 1 f fd ["group", "changes"] (spRows K) := by
  refine F.ok scRows (fun vs H Q E h => ?_) (fun cdv A outer s H vs Q E hr h => ?_)
  · obtain ⟨g, v, cs, rfl, _⟩ := h
    rfl
  · obtain ⟨g, v, cs, rfl, hd, h8, hz, k⟩ := h
    refine ⟨_, pss_cons (ps_set (i := 2) scRows.nd rfl (.inr rfl) (pe_callB call_len_seq (by rfl) ml boot_len (pa_cons (pv 1) pa_nil)))
      (pss_one (ps_ret (pe_lc (own := [("at", 3), ("home", 4), ("cells", 5)]) (g := gTup K 2 (gCons (gName 3) (gCons (gTup K 2 (gCons (gName 4) (gCons (gName 5) gNil))) gNil))) (tt := tYes)
        (te := tOp (rCatA K) (tTup (tCons (tVar 0) (tCons (tVar 3) (tCons (tVar 2) (tCons (tVar 4) tNil))))) (tVar 5)) rfl scRows.nd (pi_enumT (by rfl) me (pa_cons (pv 1) pa_nil)) (blkOk_by (N := ["group", "changes", "many", "at", "home", "cells"]) (sc := defScope sRows) (by decide +kernel))
        (fun _ _ _ _ _ => pg_tup rfl (pgs_cons (pg_name (i := 3) scRows.nd rfl (.inl rfl)) (pgs_cons (pg_tup rfl (pgs_cons (pg_name (i := 4) scRows.nd rfl (.inl rfl)) (pgs_cons (pg_name (i := 5) scRows.nd rfl (.inl rfl)) pgs_nil))) pgs_nil))) (fun _ _ _ _ _ => pts_nil)
        (fun _ _ _ _ _ => pe_op op_catA (pe_tup (pa_cons (pv 0) (pa_cons (pv 3) (pa_cons (pv 2) (pa_cons (pv 4) pa_nil))))) (pv 5))))), ?_⟩
    have hd' : Dp K H v (.tuple (cs.map pD)) := hd
    cases hd' with
    | @tup a xs _ hs ha =>
      have hl : xs.length = cs.length := by rw [dps_len ha, List.length_map]
      refine ⟨_, rfl, a, xs, rfl, .inr hs, ?_⟩
      refine ⟨_, rfl, a, xs, rfl, hs, fun D hD => lc_it (walk_enumT (K := K) (a := a) (xs := xs)) (fun i H' => ∃ us, Same H H' ∧ H' D = some (.lst us) ∧ DpAll K (Off [D] H') us (((rowsN g cs.length 0 cs).take i).map rowD))
        ⟨[], same_upd hD, upd_same, .nil⟩ (fun i H' _ z => same_seqT z.choose_spec.1 hs) ?_ ?_⟩
      · rintro i x H1 H2 hi ⟨us, s1, e1, dU⟩ ⟨T, x0, x1, rfl, nT, rfl, e0, ex⟩
        cases (Option.some.inj e0)
        obtain ⟨d', hd', hp⟩ := dps_get ha ex
        rw [List.getElem?_map] at hd'
        have hil : i < cs.length := by omega
        rw [List.getElem?_eq_getElem hil] at hd'
        have ed : pD cs[i] = d' := Option.some.inj hd'
        subst ed
        obtain ⟨a1, c1, rfl, q1, q2⟩ := pD_read hp
        have s12 : Same H1 (upd H1 T (.tup [.int (i : Nat), .ref a1])) := same_upd nT
        have s02 : Same H (upd H1 T (.tup [.int (i : Nat), .ref a1])) := s1.trans s12
        have c8 : cs[i].2.length = 8 := h8 _ (List.getElem_mem hil)
        refine ⟨T, _, rfl, SqT.of upd_same, rfl, _, _, rfl, _, _, rfl, ⟨a1, _, rfl, same_seqT s02 q1, rfl, _, _, rfl, _, _, rfl, rfl, rfl, rfl, tyes_go ?_⟩⟩
        refine ⟨_, rfl, _, rfl, _, rfl, _, rfl, (by show 4 ≤ sizeLine; decide), fun u hu => ?_⟩
        have s3 := same_upd (o := .tup [.int g, .int (i : Nat), .int (xs.length : Nat), .int cs[i].1]) hu
        refine ⟨_, rfl, u, c1, _, _, rfl, rfl, SqT.of upd_same, same_seqT s3 (same_seqT s02 q2), ?_, fun z => absurd z (by simp), fun _ z => ?_, fun _ _ c hc => ?_⟩
        · rw [List.length_map, c8]
          show 4 + 8 ≤ sizeLine
          decide
        · rw [List.map_eq_nil_iff] at z
          rw [z] at c8
          cases c8
        · have s4 := same_upd (o := .tup ([V.int g, .int (i : Nat), .int (xs.length : Nat), .int cs[i].1] ++ cs[i].2.map V.int)) hc
          have s14 := (s12.trans s3).trans s4
          have hcD : c ≠ D := fun z => by
            rw [z, s3 _ _ (s12 _ _ e1)] at hc
            cases hc
          have hul : us.length ≤ 1000 := by
            rw [dps_len dU, List.length_map, List.length_take]
            omega
          refine ⟨us, s14 _ _ e1, small1000 hul, us ++ [.ref c], fun b o z => ?_, upd_same, ?_⟩
          · rw [upd_ne (ne_of_none z hD)]
            exact s14 _ _ (s1 _ _ z)
          · rw [off_upd (by simp), List.take_add_one, rowsN_get, List.getElem?_eq_getElem hil, List.map_append]
            refine dps_app (dps_same (off_same s14) _ _ dU) (.cons ?_ .nil)
            refine ints_mk (ns := rowN g (0 + i) cs.length cs[i]) (SqT.of ?_)
            rw [off_out (by simp [hcD]), upd_same]
            have e0i : 0 + i = i := by omega
            rw [e0i, hl]
            rfl
      · rintro H' ⟨us, s1, e1, dU⟩
        have et : (rowsN g cs.length 0 cs).take xs.length = rowsN g cs.length 0 cs := List.take_of_length_le (by rw [rowsN_len, hl]; exact Nat.le_refl _)
        rw [et] at dU
        exact k _ D us s1 hD e1 dU
/-! ### whole_group -/
/-- the ring's S plates read as ds -/
def RingAt (K : PySem.W.Frag) (C : Addr) (H : Hp) (d : Addr) (S : Nat) (ds : List PyData) : Prop :=
  ∃ n sv lv, DiskAt C H d n sv lv ∧ 2 + (S : Int) ≤ n ∧ ∀ j : Nat, j < S → Dp K H (nowV sv lv (2 + (j : Int))) (ds.getD j .none)
theorem RingAt.same {H H' : Hp} {d : Addr} {S : Nat} {ds : List PyData} (h : RingAt K C H d S ds) (s : Same H H') : RingAt K C H' d S ds := by
  obtain ⟨n, sv, lv, h1, h2, h3⟩ := h
  exact ⟨n, sv, lv, h1.same s, h2, fun j hj => dp_same s _ _ (h3 j hj)⟩
def spWg (K : PySem.W.Frag) (C : Addr) : Sp := fun vs H Q _ => ∃ (d : Addr) (S t : Nat) (g : Int) (ds : List PyData), vs = [.ref d, .int S, .int t, .int g] ∧ RingAt K C H d S ds ∧ 0 < S ∧ S ≤ 1000 ∧
  ∀ v H', Same H H' → Dp K (New H H') v (optD (wg ds S t g)) → Q v H'
/-- what whole_group asks of the text -/
structure WTxt (P : Program) (w : World) (K : PySem.W.Frag) (mg : Str → Option Value) (base : Heap) (C fN fS fL : Addr) (fdN fdS fdL : FuncData) (tl : Tok) : Prop where
  T : DTxt K C
  GN : FnOk P w K mg base CX0 3 fN fdN ["self", "plate"] (spNow C)
  mN : Meth K C "now" fN
  bN : Binds K fdN ["self", "plate"] []
  GS : FnOk P w K mg base CX0 1 fS fdS ["slots", "slot"] spSlot
  kS : PySem.W.keepIn K (.ref fS) = true
  gS : mg "slot_plate" = some (.ref fS)
  bS : Binds K fdS ["slots", "slot"] []
  GL : FnOk P w K mg base CX0 3 fL fdL ["value"] (spIsLog K)
  kL : PySem.W.keepIn K (.ref fL) = true
  gL : mg "is_log_plate" = some (.ref fL)
  bL : Binds K fdL ["value"] []
  mR : mg "range" = none
  mT : mg "tuple" = none
  mL : mg "LOG_NUMBERS" = some (.int 4 tl)
theorem ok_wg {f fN fS fL : Addr} {fd fdN fdS fdL : FuncData} {tl : Tok} (F : Fun K "whole_group" "whole_group" sWg f fd) (W : WTxt P w K mg base C fN fS fL fdN fdS fdL tl) : FnOk P w K mg base CX0 4 f fd ["disk", "slots", "slot", "group"] (spWg K C) := by
  refine F.ok scWg (fun vs H Q E h => ?_) (fun cdv A outer s H vs Q E hr h => ?_)
  · obtain ⟨d, S, t, g, ds, rfl, _⟩ := h
    rfl
  · obtain ⟨d, S, t, g, ds, rfl, R, hS, hS2, k⟩ := h
    have hr1 : Room 1 _ := hr.mono (by decide)
    refine ⟨_, pss_cons (ps_set (i := 4) scWg.nd rfl (.inl rfl) (pe_meth (pv 0) W.T.cl W.mN W.GN hr W.bN .nil pass0 (pa_cons (pe_call W.GS hr1 rfl W.gS W.kS W.bS .nil pass0 (pa_cons (pv 1) (pa_cons (pv 2) pa_nil))) pa_nil)))
      (pss_cons (ps_if (pt_not (pt_val (pe_call W.GL hr rfl W.gL W.kL W.bL .nil pass0 (pa_cons (pv 4) pa_nil)))) (pss_one (ps_ret pe_non)) pss_nil)
      (pss_cons (ps_set (i := 5) scWg.nd rfl (.inl rfl) (pe_ix ix_tup (pv 4) pe_int (fun _ _ => rfl)))
      (pss_cons (ps_if (pt_cmpR op_gt (pv 5) (pv 1) (nomark _)) (pss_one (ps_ret pe_non)) pss_nil)
      (pss_cons (ps_set (i := 6) scWg.nd rfl (.inl rfl) (pe_lst pa_nil))
      (pss_cons (ps_for PassesOwn.never rfl (pi_range1 (by rfl) W.mR (pa_cons (pv 5) pa_nil)) (pg_name (i := 7) scWg.nd rfl (.inl rfl))
        (pss_cons (ps_set (i := 8) scWg.nd rfl (.inl rfl) (pe_meth (pv 0) W.T.cl W.mN W.GN hr W.bN .nil pass0 (pa_cons (pe_call W.GS hr1 rfl W.gS W.kS W.bS .nil pass0 (pa_cons (pv 1) (pa_cons (pe_op op_add (pv 2) (pv 7)) pa_nil))) pa_nil)))
        (pss_cons (ps_if (PW.pt (pw_or (pt_not (pt_val (pe_call W.GL hr rfl W.gL W.kL W.bL .nil pass0 (pa_cons (pv 8) pa_nil)))) (pw_or1 (pt_cmpR (op_neD hr.units) (pe_slice sl_tupA (pv 8) po_none (po_some pe_int)) (pe_tup (pa_cons (pv 3) (pa_cons (pv 7) (pa_cons (pv 5) pa_nil)))) (nomark _))))) (pss_one (ps_ret pe_non)) pss_nil)
        (pss_one (ps_expr (pe_bm PySem.F.plainAttrs_list PySem.F.slot_list_append PySem.F.type_list_append mt_append (pv 6) (pa_cons (pe_tup (pa_cons (pe_ix ix_tup (pv 8) pe_int (fun _ _ => rfl)) (pa_cons (pe_slice sl_tupA (pv 8) (po_some (pe_glob (v := .int 4) rfl W.mL ⟨_, rfl⟩)) po_none) pa_nil))) pa_nil)))))))
      (pss_one (ps_ret (pe_callTy call_tuple_of (by rfl) W.mT boot_tuple (pa_cons (pv 6) pa_nil))))))))), ?_⟩
    obtain ⟨n, sv, lv, D, hn, hring⟩ := id R
    obtain ⟨dx, pa, pb, ts, e1, e2, e3, e4, e5, e6⟩ := id D
    have hSi : (0 : Int) < (S : Int) := by omega
    have nows : ∀ (u : Nat), 0 ≤ 2 + (u : Int) % (S : Int) ∧ 2 + (u : Int) % (S : Int) < n ∧ Dp K H (nowV sv lv (2 + (u : Int) % (S : Int))) (ds.getD (u % S) .none) := fun u => by
      have h1 : (u : Int) % (S : Int) = ((u % S : Nat) : Int) := by norm_cast
      have h2 : u % S < S := Nat.mod_lt _ hS
      rw [h1]
      exact ⟨by omega, by omega, hring _ h2⟩
    obtain ⟨n0, n1, hp0⟩ := nows t
    refine ⟨_, rfl, d, dx, _, rfl, e1, fl_no _ _ _ (by decide +kernel) (by decide +kernel) (by decide +kernel), _, rfl, _, rfl, (S : Int), (t : Int), rfl, hSi, d, n, _, sv, lv, rfl, D, n0, n1, ?_⟩
    generalize hv0 : nowV sv lv (2 + (t : Int) % (S : Int)) = v0 at hp0
    refine ⟨_, rfl, v0, _, rfl, hp0, fun H1 s1 => ⟨_, rfl, ?_⟩⟩
    cases e : asLog (ds.getD (t % S) .none) with
    | none =>
      have ew : wg ds S t g = none := by
        unfold wg
        rw [e]
        rfl
      refine iteT (k .non _ s1 ?_)
      rw [ew]
      exact .non
    | some l =>
      obtain ⟨_, l8, lg, la, lm, lh⟩ := asLog_some e
      obtain ⟨a0, rfl, hT0⟩ := log_read hp0 e
      refine iteF ⟨_, rfl, a0, _, 2, .int l.m, rfl, rfl, same_seqT s1 hT0, atI_nat (j := 2) rfl, ?_⟩
      refine ⟨_, rfl, _, rfl, l.m, (S : Int), rfl, rfl, _, rfl, ite2 (fun hc => ?_) (fun hc => ?_)⟩
      · have hc' : (S : Int) < l.m := of_decide_eq_true hc
        have ew : wg ds S t g = none := by
          unfold wg
          rw [e]
          show (if (S : Int) < l.m then none else _) = none
          rw [if_pos hc']
        refine k .non _ s1 ?_
        rw [ew]
        exact .non
      · have hc' : ¬ (S : Int) < l.m := fun z => hc (decide_eq_true z)
        have ew : wg ds S t g = grp ds S t g l.m l.m.toNat := by
          unfold wg
          rw [e]
          show (if (S : Int) < l.m then none else _) = _
          rw [if_neg hc']
        refine ⟨Nat.zero_le _, fun c hcn => ?_⟩
        have hc0 : H c = none := s1.free hcn
        refine ⟨_, rfl, l.m, rfl, by omega, by omega, for_range (lo := 0) (n := l.m.toNat) (fun i σ H' => ∃ cs y7 y8 us, σ = [some (.ref d), some (.int S), some (.int t), some (.int g), some (.ref a0), some (.int l.m), some (.ref c), y7, y8] ∧
          grp ds S t g l.m i = some cs ∧ Same H H' ∧ H' c = some (.lst us) ∧ DpAll K (Off [c] (New H H')) us (cs.map pD)) ⟨[], none, none, [], rfl, rfl, s1.trans (same_upd hcn), upd_same, .nil⟩ ?_ ?_⟩
        · rintro i σ H' hi ⟨cs, y7, y8, us, rfl, eg, s2, ec, dU⟩
          obtain ⟨m0, m1, hp1⟩ := nows (t + i)
          have et : ((t : Int) + (0 + (i : Int))) = ((t + i : Nat) : Int) := by omega
          refine ⟨_, rfl, d, dx, _, rfl, s2 _ _ e1, fl_no _ _ _ (by decide +kernel) (by decide +kernel) (by decide +kernel), _, rfl, _, rfl, _, rfl, _, _, rfl, rfl, (S : Int), ((t + i : Nat) : Int), by rw [← et]; rfl, hSi, d, n, _, sv, lv, rfl, D.same s2, m0, m1, ?_⟩
          generalize hv1 : nowV sv lv (2 + ((t + i : Nat) : Int) % (S : Int)) = v1 at hp1
          refine ⟨_, rfl, v1, _, rfl, dp_same s2 _ _ hp1, fun H3 s3 => ⟨_, rfl, ?_⟩⟩
          have s23 : Same H H3 := s2.trans s3
          -- a turn that fails
          have bad : grp ds S t g l.m (i + 1) = none → ∀ H', Same H H' → Q .non H' := fun z H' s' => by
            refine k .non _ s' ?_
            rw [ew, grp_none z l.m.toNat (by omega)]
            exact .non
          cases ee : asLog (ds.getD ((t + i) % S) .none) with
          | none =>
            refine iteT (iteT (bad ?_ _ s23))
            show (grp ds S t g l.m i).bind _ = none
            rw [eg]
            show (asLog (ds.getD ((t + i) % S) .none)).bind _ = none
            rw [ee]
            rfl
          | some l1 =>
            obtain ⟨_, k8, kg, ka, km, kh⟩ := asLog_some ee
            obtain ⟨a1, rfl, hT1⟩ := log_read hp1 ee
            have step : grp ds S t g l.m (i + 1) = if l1.g = g ∧ l1.a = (i : Int) ∧ l1.m = l.m then some (cs ++ [(l1.h, l1.cs)]) else none := by
              show (grp ds S t g l.m i).bind _ = _
              rw [eg]
              show (asLog (ds.getD ((t + i) % S) .none)).bind _ = _
              rw [ee]
              rfl
            refine iteF ⟨_, rfl, 3, rfl, ?_⟩
            dsimp only [tNoPart]
            refine slA_use (K := K) (a := a1) (lo := none) (hi := some 3) (same_seqT s23 hT1) fun p H4 s4 h4 => ?_
            have e3' : cutV (l1.all.map V.int) none (some (3 : Int)) = [l1.g, l1.a, l1.m].map V.int := cut_to _ 3
            rw [e3'] at h4
            refine ⟨_, rfl, _, rfl, _, rfl, (by show 3 ≤ sizeLine; decide), fun q hq => ?_⟩
            have s5 := same_upd (o := .tup [.int g, .int (0 + (i : Int)), .int l.m]) hq
            refine ⟨_, _, ints_mk (ns := [l1.g, l1.a, l1.m]) (same_seqT s5 h4), ints_mk (ns := [g, 0 + (i : Int), l.m]) (SqT.of upd_same), shaped_ints _, shaped_ints _, _, rfl, ?_⟩
            rw [eqv_ints]
            have s05 := (s23.trans s4).trans s5
            by_cases hcc : l1.g = g ∧ l1.a = (i : Int) ∧ l1.m = l.m
            · have ed : ([l1.g, l1.a, l1.m] = [g, 0 + (i : Int), l.m]) := by rw [hcc.1, hcc.2.1, hcc.2.2, Int.zero_add]
              rw [decide_eq_true ed]
              have ec5 : (upd H4 q (.tup [.int g, .int (0 + (i : Int)), .int l.m])) c = some (.lst us) := s5 _ _ (s4 _ _ (s3 _ _ ec))
              refine iteF ⟨_, rfl, .inl ⟨rfl, _, SqL.of ec5⟩, _, rfl, a1, _, 3, .int l1.h, rfl, rfl, same_seqT s05 hT1, atI_nat (j := 3) rfl, _, rfl, 4, rfl, ?_⟩
              dsimp only [tNoPart]
              have e4' : cutV (l1.all.map V.int) (some (4 : Int)) none = l1.cs.map V.int := cut_from _ 4
              refine slA_new (K := K) (a := a1) (lo := some 4) (hi := none) (same_seqT s05 hT1) (by rw [e4', List.length_map, List.length_map]; show l1.cs.length ≠ l1.cs.length + 1 + 1 + 1 + 1; omega) fun p2 hp2 => ?_
              have s6 := same_upd (o := .tup (cutV (l1.all.map V.int) (some (4 : Int)) none)) hp2
              have np2c : p2 ≠ c := fun z => by
                rw [z, ec5] at hp2
                cases hp2
              refine ⟨(by show 2 ≤ sizeLine; decide), fun u hu => ?_⟩
              have s7 := same_upd (o := .tup [.int l1.h, .ref p2]) hu
              have s37 := ((s3.trans s4).trans s5).trans (s6.trans s7)
              have ec7 := s37 _ _ ec
              have nuc : u ≠ c := fun z => by
                rw [z, s6 _ _ ec5] at hu
                cases hu
              have hul : us.length = i := by
                rw [dps_len dU, List.length_map, grp_len eg]
              refine ⟨c, us, .ref u, rfl, rfl, ec7, small1000 (by omega), cs ++ [(l1.h, l1.cs)], _, _, us ++ [.ref u], rfl, ?_, fun b o z => ?_, upd_same, ?_⟩
              · rw [step, if_pos hcc]
              · rw [upd_ne (ne_of_none z hc0)]
                exact s37 _ _ (s2 _ _ z)
              · rw [new_upd (by simp), List.map_append]
                refine dps_app (dps_same (off_same (new_same s37)) _ _ dU) (.cons ?_ .nil)
                have hu0 : H u = none := (s05.trans s6).free hu
                have hp20 : H p2 = none := s05.free hp2
                refine pD_mk (c := (l1.h, l1.cs)) (e := p2) (SqT.of ?_) ?_
                · rw [off_out (by simp [nuc]), new_at hu0, upd_same]
                · refine SqT.of ?_
                  rw [off_out (by simp [np2c]), new_at hp20]
                  refine s7 _ _ ?_
                  rw [upd_same, e4']
            · have ed : ¬ ([l1.g, l1.a, l1.m] = [g, 0 + (i : Int), l.m]) := fun z => hcc (by
                simp only [List.cons.injEq, Int.zero_add, and_true] at z
                exact z)
              rw [decide_eq_false ed]
              refine iteT (bad ?_ _ s05)
              rw [step, if_neg hcc]
        · rintro σ H' ⟨cs, y7, y8, us, rfl, eg, s2, ec, dU⟩
          refine ⟨_, rfl, c, us, rfl, .inl ⟨SqL.of ec, fun q hq => k _ _ (s2.trans (same_upd hq)) ?_⟩⟩
          rw [ew, eg]
          exact .tup (SqT.of (by rw [new_at (s2.free hq), upd_same])) (dps_same ((off_le).trans (new_same (same_upd hq))) _ _ dU)
end
end Pf

set_option Elab.async false
set_option linter.all false
set_option maxRecDepth 100000
set_option maxHeartbeats 4000000
namespace Pf
open PySem PySem.Spec PyProof.Rows L2
/-! ### rows of groups -/
abbrev Gr := Int × Nat × List Ch
def gD (z : Gr) : PyData := .tuple [.int z.1, .int (z.2.1 : Int), chD z.2.2]
def slotsN (zs : List Gr) : Nat := (zs.map fun z => z.2.2.length).sum
def rgs (ds : List PyData) (S : Nat) : Nat → Nat → Nat → Int → List Gr
  | 0, _, _, _ => []
  | k + 1, used, t, g => match wg ds S t g with
    | none => []
    | some cs => if used + cs.length ≤ S then (g, t, cs) :: rgs ds S k (used + cs.length) (t + cs.length) (g + 1) else []
theorem wg_len {ds : List PyData} {S t : Nat} {g : Int} {cs : List Ch} (h : wg ds S t g = some cs) : 0 < cs.length ∧ cs.length ≤ S := by
  unfold wg at h
  cases e : asLog (ds.getD (t % S) .none) with
  | none => rw [e] at h; cases h
  | some l =>
    rw [e] at h
    have h' : (if (S : Int) < l.m then none else grp ds S t g l.m l.m.toNat) = some cs := h
    by_cases c : (S : Int) < l.m
    · rw [if_pos c] at h'; cases h'
    · rw [if_neg c] at h'
      obtain ⟨_, _, _, h1, h2, _⟩ := asLog_some e
      rw [grp_len h']
      omega
theorem slotsN_app (xs ys : List Gr) : slotsN (xs ++ ys) = slotsN xs + slotsN ys := by
  unfold slotsN
  rw [List.map_append, List.sum_append]
theorem gD_read {K : PySem.W.Frag} {H : Hp} {v : V} {z : Gr} (h : Dp K H v (gD z)) : ∃ a x, v = .ref a ∧ SqT K H a [.int z.1, .int (z.2.1 : Int), x] ∧ Dp K H x (chD z.2.2) := by
  cases h with
  | tup hs ha =>
    cases ha with
    | cons h1 ha =>
      cases h1
      cases ha with
      | cons h2 ha =>
        cases h2
        cases ha with
        | cons h3 ha =>
          cases ha
          exact ⟨_, _, rfl, hs, h3⟩
theorem ch_read {K : PySem.W.Frag} {H : Hp} {v : V} {cs : List Ch} (h : Dp K H v (chD cs)) : ∃ a xs, v = .ref a ∧ SqT K H a xs ∧ xs.length = cs.length ∧ DpAll K H xs (cs.map pD) := by
  have h' : Dp K H v (.tuple (cs.map pD)) := h
  cases h' with
  | tup hs ha => exact ⟨_, _, rfl, hs, by rw [dps_len ha, List.length_map], ha⟩
theorem optD_non {K : PySem.W.Frag} {H : Hp} {v : V} {o : Option (List Ch)} (h : Dp K H v (optD o)) : (v = .non) = (o = none) := by
  cases o with
  | none =>
    cases h
    simp
  | some cs =>
    obtain ⟨a, xs, rfl, _⟩ := ch_read h
    simp
theorem scSlotsOf : FnScope ["groups", "number", "slot", "changes"] ["groups"] (defScope sSlotsOf) := ⟨rfl, rfl, rfl, by decide +kernel, rfl, by decide +kernel, by decide +kernel⟩
theorem scRg : FnScope ["disk", "slots", "head", "group", "slot", "groups", "changes"] ["disk", "slots", "head"] (defScope sRg) := ⟨rfl, rfl, rfl, by decide +kernel, rfl, by decide +kernel, by decide +kernel⟩
theorem scLast : FnScope ["disk", "slots", "greatest", "slot", "value"] ["disk", "slots"] (defScope sLast) := ⟨rfl, rfl, rfl, by decide +kernel, rfl, by decide +kernel, by decide +kernel⟩
section
variable {P : Program} {w : World} {K : PySem.W.Frag} {mg : Str → Option Value} {base : Heap} {C : Addr}
def rLenS (K : PySem.W.Frag) : List V → Hp → VK → Prop := fun xs H Q => ∃ p ys, xs = [.ref p] ∧ (SqL K H p ys ∨ SqT K H p ys) ∧ Q (.int (ys.length : Nat)) H
def spSlotsOf (K : PySem.W.Frag) : Sp := fun vs H Q _ => ∃ (a : Addr) (xs : List V) (zs : List Gr), vs = [.ref a] ∧ SqL K H a xs ∧ DpAll K H xs (zs.map gD) ∧ zs.length ≤ 1000 ∧ ∀ H', Same H H' → Q (.int (slotsN zs : Nat)) H'
theorem ok_slotsOf {f : Addr} {fd : FuncData} (F : Fun K "slots_of" "slots_of" sSlotsOf f fd) (ml : mg "len" = none) (ms : mg "sum" = none) : FnOk P w K mg base CX0 1 f fd ["groups"] (spSlotsOf K) := by
  refine F.ok scSlotsOf (fun vs H Q E h => ?_) (fun cdv A outer s H vs Q E hr h => ?_)
  · obtain ⟨a, xs, zs, rfl, _⟩ := h
    rfl
  · obtain ⟨a, xs, zs, rfl, hs, ha, hz, k⟩ := h
    have hl : xs.length = zs.length := by rw [dps_len ha, List.length_map]
    refine ⟨_, pss_one (ps_ret (pe_callB (cr_sum rfl) (by rfl) ms (by decide +kernel) (pa_cons
        (pe_lc (own := [("number", 1), ("slot", 2), ("changes", 3)]) (g := gTup K 3 (gCons (gName 1) (gCons (gName 2) (gCons (gName 3) gNil)))) (tt := tYes) (te := tCB (rLenS K) (tCons (tVar 3) tNil)) rfl scSlotsOf.nd (pi_list (pv 0))
          (blkOk_by (N := ["groups", "number", "slot", "changes"]) (sc := defScope sSlotsOf) (by decide +kernel))
          (fun _ _ _ _ _ => pg_tup rfl (pgs_cons (pg_name (i := 1) scSlotsOf.nd rfl (.inl rfl)) (pgs_cons (pg_name (i := 2) scSlotsOf.nd rfl (.inl rfl)) (pgs_cons (pg_name (i := 3) scSlotsOf.nd rfl (.inl rfl)) pgs_nil)))) (fun _ _ _ _ _ => pts_nil)
          (fun _ _ _ _ _ => pe_callB call_len_seq (by rfl) ml boot_len (pa_cons (pv 3) pa_nil))) pa_nil))), ?_⟩
    refine ⟨_, rfl, a, rfl, ⟨_, hs⟩, fun D hD => lc_list (K := K) (a := a) (xs := xs) (fun i H' => Same H H' ∧ H' D = some (.lst ((zs.take i).map fun z => V.int (z.2.2.length : Nat)))) ⟨same_upd hD, upd_same⟩ (fun i H' _ p => p.1.seq hs) ?_ ?_⟩
    · rintro i x H' hi ⟨s1, e1⟩
      obtain ⟨d', hd', hp⟩ := dps_get ha hi
      rw [List.getElem?_map] at hd'
      have hil : i < zs.length := by
        have := (List.getElem?_eq_some_iff.mp hi).1
        omega
      rw [List.getElem?_eq_getElem hil] at hd'
      cases (Option.some.inj hd')
      obtain ⟨a1, x3, rfl, q1, q2⟩ := gD_read hp
      obtain ⟨a2, ys, rfl, q3, q4, _⟩ := ch_read q2
      refine ⟨a1, _, rfl, same_seqT s1 q1, rfl, _, _, rfl, _, _, rfl, _, _, rfl, rfl, rfl, tyes_go ?_⟩
      refine ⟨_, rfl, a2, ys, rfl, .inr (same_seqT s1 q3), _, e1, ?_, ?_, ?_⟩
      · rw [List.length_map, List.length_take]
        exact small1000 (by omega)
      · exact fun b o e => by
          rw [upd_ne (ne_of_none e hD)]
          exact s1 _ _ e
      · rw [upd_same, List.take_add_one, List.getElem?_eq_getElem hil, List.map_append, q4]
        rfl
    · rintro H' ⟨s1, e1⟩
      rw [hl, List.take_length] at e1
      refine ⟨D, zs.map fun z => ((z.2.2.length : Nat) : Int), rfl, SqL.of (by rw [e1, List.map_map]; rfl), ?_⟩
      have e : (zs.map fun z => ((z.2.2.length : Nat) : Int)).sum = ((slotsN zs : Nat) : Int) := by
        unfold slotsN
        clear k ha hl e1 hz
        induction zs with
        | nil => rfl
        | cons z zs ih =>
          rw [List.map_cons, List.sum_cons, ih, List.map_cons, List.sum_cons]
          omega
      rw [e]
      exact k _ s1
/-! ### read_groups -/
def rgW (K : PySem.W.Frag) (H : Hp) (d hd c : Addr) (S : Nat) (ds : List PyData) (full : List Gr) (m : Nat) (σ : L2.St) (H' : Hp) : Prop :=
  ∃ acc used t g us v, σ = [some (.ref d), some (.int S), some (.ref hd), some (.int g), some (.int ((t : Nat) : Int)), some (.ref c), some v] ∧ acc ++ rgs ds S m used t g = full ∧ S < used + m ∧ used ≤ S ∧ used = slotsN acc ∧ acc.length ≤ used ∧
    Same H H' ∧ H' c = some (.lst us) ∧ DpAll K (Off [c] (New H H')) us (acc.map gD) ∧ Dp K (Off [c] (New H H')) v (optD (wg ds S t g))
def spRg (K : PySem.W.Frag) (C : Addr) : Sp := fun vs H Q _ => ∃ (d hd : Addr) (S t : Nat) (g n : Int) (ds : List PyData), vs = [.ref d, .int S, .ref hd] ∧ RingAt K C H d S ds ∧ 0 < S ∧ S ≤ 900 ∧ SqT K H hd [.int n, .int g, .int t] ∧
  ∀ v H', Same H H' → Dp K (New H H') v (.tuple ((rgs ds S (S + 1) 0 t g).map gD)) → Q v H'
theorem ok_rg {f fW fZ : Addr} {fd fdW fdZ : FuncData} (F : Fun K "read_groups" "read_groups" sRg f fd) (GW : FnOk P w K mg base CX0 4 fW fdW ["disk", "slots", "slot", "group"] (spWg K C)) (kW : PySem.W.keepIn K (.ref fW) = true) (gW : mg "whole_group" = some (.ref fW)) (bW : Binds K fdW ["disk", "slots", "slot", "group"] [])
    (GZ : FnOk P w K mg base CX0 1 fZ fdZ ["groups"] (spSlotsOf K)) (kZ : PySem.W.keepIn K (.ref fZ) = true) (gZ : mg "slots_of" = some (.ref fZ)) (bZ : Binds K fdZ ["groups"] []) (ml : mg "len" = none) (mt : mg "tuple" = none) :
    FnOk P w K mg base CX0 5 f fd ["disk", "slots", "head"] (spRg K C) := by
  refine F.ok scRg (fun vs H Q E h => ?_) (fun cdv A outer s H vs Q E hr h => ?_)
  · obtain ⟨d, hd, S, t, g, n, ds, rfl, _⟩ := h
    rfl
  · obtain ⟨d, hd, S, t, g, n, ds, rfl, R, hS, hS2, hh, k⟩ := h
    have hr1 : Room 1 _ := hr.mono (by decide)
    refine ⟨_, pss_cons (ps_par rfl scRg.nd (i := 3) (j := 4) rfl rfl (by decide) rfl rfl (pa_cons (pe_ix ix_tup (pv 2) pe_int (fun _ _ => rfl)) (pa_cons (pe_ix ix_tup (pv 2) pe_int (fun _ _ => rfl)) pa_nil)) (by rfl))
      (pss_cons (ps_set (i := 5) scRg.nd rfl (.inl rfl) (pe_lst pa_nil))
      (pss_cons (ps_set (i := 6) scRg.nd rfl (.inl rfl) (pe_call GW hr rfl gW kW bW .nil pass0 (pa_cons (pv 0) (pa_cons (pv 1) (pa_cons (pv 4) (pa_cons (pv 3) pa_nil))))))
      (pss_cons (ps_while PassesOwn.never (PW.pt (pw_and (pt_cmpR op_notN (pv 6) pe_non (nomark _)) (pw_and1 (pt_cmpR op_le (pe_op op_add (pe_call GZ hr1 rfl gZ kZ bZ .nil pass0 (pa_cons (pv 5) pa_nil)) (pe_callB call_len_seq (by rfl) ml boot_len (pa_cons (pv 6) pa_nil))) (pv 1) (nomark _)))))
        (pss_cons (ps_expr (pe_bm PySem.F.plainAttrs_list PySem.F.slot_list_append PySem.F.type_list_append mt_append (pv 5) (pa_cons (pe_tup (pa_cons (pv 3) (pa_cons (pv 4) (pa_cons (pv 6) pa_nil)))) pa_nil)))
        (pss_cons (ps_set (i := 3) scRg.nd rfl (.inl rfl) (pe_op op_add (pv 3) pe_int))
        (pss_cons (ps_set (i := 4) scRg.nd rfl (.inl rfl) (pe_op op_add (pv 4) (pe_callB call_len_seq (by rfl) ml boot_len (pa_cons (pv 6) pa_nil))))
        (pss_one (ps_set (i := 6) scRg.nd rfl (.inl rfl) (pe_call GW hr rfl gW kW bW .nil pass0 (pa_cons (pv 0) (pa_cons (pv 1) (pa_cons (pv 4) (pa_cons (pv 3) pa_nil)))))))))))
      (pss_one (ps_ret (pe_callTy call_tuple_of (by rfl) mt boot_tuple (pa_cons (pv 5) pa_nil))))))), ?_⟩
    refine ⟨_, rfl, hd, _, 1, .int g, rfl, rfl, hh, rfl, _, rfl, hd, _, 2, .int t, rfl, rfl, hh, rfl, _, _, rfl, ?_⟩
    refine ⟨Nat.zero_le _, fun c hc => ?_⟩
    have s1 := same_upd (o := .lst []) hc
    have hc1 : (upd H c (.lst [])) c ≠ none := by rw [upd_same]; simp
    refine ⟨_, rfl, _, rfl, _, rfl, _, rfl, d, S, t, g, ds, rfl, R.same s1, hS, by omega, fun v0 H0 s0 hv0 => ?_⟩
    refine ⟨rgW K H d hd c S ds (rgs ds S (S + 1) 0 t g), ⟨S + 1, [], 0, t, g, [], v0, rfl, rfl, by omega, by omega, rfl, Nat.le_refl _, s1.trans s0, s0 _ _ upd_same, .nil, dp_same (new_step s1 (by simpa using hc1)) _ _ hv0⟩, ?_⟩
    rintro m σ H' ⟨acc, used, t', g', us, v, rfl, er, hm, hu, eu, hal, s, ec, dU, dv⟩
    obtain ⟨m', rfl⟩ : ∃ m', m = m' + 1 := ⟨m - 1, by omega⟩
    refine ⟨_, rfl, rfl, _, rfl, ?_⟩
    cases ew : wg ds S t' g' with
    | none =>
      rw [ew] at dv
      cases dv
      have ea : acc = rgs ds S (S + 1) 0 t g := by
        rw [← er]
        show acc = acc ++ (match wg ds S t' g' with | none => [] | some cs => _)
        rw [ew, List.append_nil]
      refine iteF (iteF ⟨_, rfl, c, us, rfl, .inl ⟨SqL.of ec, fun q hq => k _ _ (s.trans (same_upd hq)) ?_⟩⟩)
      rw [← ea]
      exact .tup (SqT.of (by rw [new_at (s.free hq), upd_same])) (dps_same ((off_le).trans (new_same (same_upd hq))) _ _ dU)
    | some cs =>
      rw [ew] at dv
      obtain ⟨av, xs, rfl, hav, hxl, _⟩ := ch_read (show Dp K _ v (chD cs) from dv)
      have hav' : SqT K H' av xs := same_seqT ((off_le).trans new_le) hav
      have c0 := wg_len ew
      refine iteT ⟨_, rfl, c, us, acc, rfl, SqL.of ec, dps_same ((off_le).trans new_le) _ _ dU, by omega, fun H3 s3 => ?_⟩
      refine ⟨_, rfl, av, xs, rfl, .inr (same_seqT s3 hav'), _, _, rfl, rfl, _, rfl, _, _, rfl, rfl, _, rfl, ?_⟩
      have ec3 := s3 _ _ ec
      have er2 : acc ++ (if used + cs.length ≤ S then (g', t', cs) :: rgs ds S m' (used + cs.length) (t' + cs.length) (g' + 1) else []) = rgs ds S (S + 1) 0 t g := by
        rw [← er]
        show _ = acc ++ (match wg ds S t' g' with | none => [] | some cs => if used + cs.length ≤ S then (g', t', cs) :: rgs ds S m' (used + cs.length) (t' + cs.length) (g' + 1) else [])
        rw [ew]
      refine ite2 (fun hcnd => ?_) (fun hcnd => ?_)
      · have hfit : used + cs.length ≤ S := by
          have := of_decide_eq_true hcnd
          rw [← eu, hxl] at this
          omega
        rw [if_pos hfit] at er2
        refine ⟨rgW K H d hd c S ds (rgs ds S (S + 1) 0 t g) m', fun _ _ z => ⟨m', by omega, z⟩, ?_⟩
        refine ⟨_, rfl, .inl ⟨rfl, _, SqL.of ec3⟩, _, rfl, _, rfl, _, rfl, (by show 3 ≤ sizeLine; decide), fun u hu => ?_⟩
        have s4 := same_upd (o := .tup [.int g', .int (t' : Nat), .ref av]) hu
        have nuc : u ≠ c := fun z => by
          rw [z, ec3] at hu
          cases hu
        have hul : us.length ≤ 1000 := by
          rw [dps_len dU, List.length_map]
          omega
        refine ⟨c, us, .ref u, rfl, rfl, s4 _ _ ec3, small1000 hul, ?_⟩
        have s34 : Same H' (upd H3 u (.tup [.int g', .int (t' : Nat), .ref av])) := s3.trans s4
        have s05 : Same H (upd (upd H3 u (.tup [.int g', .int (t' : Nat), .ref av])) c (.lst (us ++ [.ref u]))) := fun b o z => by
          rw [upd_ne (ne_of_none z hc)]
          exact s34 _ _ (s _ _ z)
        have hav5 : SqT K (upd (upd H3 u (.tup [.int g', .int (t' : Nat), .ref av])) c (.lst (us ++ [.ref u]))) av xs := by
          refine same_seqT (H := Off [c] (New H H')) (fun b o z => ?_) hav
          have hb : b ∉ [c] := fun y => by rw [off_in y] at z; cases z
          rw [off_out hb] at z
          rw [upd_ne (fun y => hb (by rw [y]; simp))]
          exact s34 _ _ (new_le _ _ z)
        refine ⟨_, rfl, _, _, rfl, rfl, _, rfl, _, rfl, av, xs, rfl, .inr hav5, _, _, rfl, rfl, ?_⟩
        have et : (t' : Int) + (xs.length : Nat) = ((t' + cs.length : Nat) : Int) := by omega
        refine ⟨_, rfl, _, rfl, _, rfl, _, rfl, d, S, t' + cs.length, g' + 1, ds, by rw [← et]; rfl, R.same s05, hS, by omega, fun v' H6 s6 hv' => ?_⟩
        refine ⟨acc ++ [(g', t', cs)], used + cs.length, t' + cs.length, g' + 1, us ++ [.ref u], v', by rw [← et]; rfl, ?_, by omega, hfit, ?_, ?_, s05.trans s6, s6 _ _ upd_same, ?_, ?_⟩
        · rw [← er2, List.append_assoc]
          rfl
        · rw [slotsN_app, ← eu]
          show _ = used + (cs.length + 0)
          omega
        · rw [List.length_append]
          show acc.length + 1 ≤ _
          omega
        · have sO : Same (Off [c] (New H H')) (Off [c] (New H H6)) := by
            refine (off_same (new_same s34)).trans ?_
            rw [← new_upd (c := c) (o := .lst (us ++ [.ref u])) (by simp)]
            exact off_same (new_same s6)
          rw [List.map_append]
          refine dps_app (dps_same sO _ _ dU) (.cons ?_ .nil)
          refine .tup (SqT.of (xs := [.int g', .int (t' : Nat), .ref av]) ?_) (.cons (.int _) (.cons (.int _) (.cons (dp_same sO _ _ dv) .nil)))
          rw [off_out (by simp [nuc]), new_at ((s.trans s3).free hu)]
          exact s6 _ _ (by rw [upd_ne nuc, upd_same])
        · exact dp_same (new_step s05 (by simp [upd_same])) _ _ hv'
      · have hfit : ¬ used + cs.length ≤ S := fun z => hcnd (decide_eq_true (by rw [← eu, hxl]; omega))
        rw [if_neg hfit, List.append_nil] at er2
        refine ⟨_, rfl, c, us, rfl, .inl ⟨SqL.of ec3, fun q hq => k _ _ ((s.trans s3).trans (same_upd hq)) ?_⟩⟩
        rw [← er2]
        exact .tup (SqT.of (by rw [new_at ((s.trans s3).free hq), upd_same])) (dps_same ((off_le).trans (new_same (s3.trans (same_upd hq)))) _ _ dU)
/-! ### last_seen -/
def lastI (ds : List PyData) : Int := ds.foldl (fun m d => match asLog d with | some l => max m l.g | none => m) (-1)
def spLast (K : PySem.W.Frag) (C : Addr) : Sp := fun vs H Q _ => ∃ (d : Addr) (S : Nat) (ds : List PyData), vs = [.ref d, .int S] ∧ RingAt K C H d S ds ∧ ds.length = S ∧ 0 < S ∧ S ≤ 1000 ∧ ∀ H', Same H H' → Q (.int (lastI ds)) H'
theorem ok_last {f fN fS fL : Addr} {fd fdN fdS fdL : FuncData} {tl : Tok} (F : Fun K "last_seen" "last_seen" sLast f fd) (W : WTxt P w K mg base C fN fS fL fdN fdS fdL tl) (mm : mg "max" = none) : FnOk P w K mg base CX0 4 f fd ["disk", "slots"] (spLast K C) := by
  refine F.ok scLast (fun vs H Q E h => ?_) (fun cdv A outer s H vs Q E hr h => ?_)
  · obtain ⟨d, S, ds, rfl, _⟩ := h
    rfl
  · obtain ⟨d, S, ds, rfl, R, hdl, hS, hS2, k⟩ := h
    have hr1 : Room 1 _ := hr.mono (by decide)
    refine ⟨_, pss_cons (ps_set (i := 2) scLast.nd rfl (.inl rfl) (pe_un un_neg pe_int))
      (pss_cons (ps_for PassesOwn.never rfl (pi_range1 (by rfl) W.mR (pa_cons (pv 1) pa_nil)) (pg_name (i := 3) scLast.nd rfl (.inl rfl))
        (pss_cons (ps_set (i := 4) scLast.nd rfl (.inl rfl) (pe_meth (pv 0) W.T.cl W.mN W.GN hr W.bN .nil pass0 (pa_cons (pe_call W.GS hr1 rfl W.gS W.kS W.bS .nil pass0 (pa_cons (pv 1) (pa_cons (pv 3) pa_nil))) pa_nil)))
        (pss_one (ps_if (pt_val (pe_call W.GL hr rfl W.gL W.kL W.bL .nil pass0 (pa_cons (pv 4) pa_nil)))
          (pss_one (ps_set (i := 2) scLast.nd rfl (.inl rfl) (pe_callB (call_max2 rfl) (by rfl) mm (by decide +kernel) (pa_cons (pv 2) (pa_cons (pe_ix ix_tup (pv 4) pe_int (fun _ _ => rfl)) pa_nil))))) pss_nil))))
      (pss_one (ps_ret (pv 2)))), ?_⟩
    obtain ⟨n, sv, lv, D, hn, hring⟩ := id R
    obtain ⟨dx, pa, pb, ts, e1, e2, e3, e4, e5, e6⟩ := id D
    have hSi : (0 : Int) < (S : Int) := by omega
    have eS : ((S : Nat) : Int).toNat = S := by omega
    refine ⟨1, rfl, ?_⟩
    refine ⟨_, rfl, S, rfl, by omega, by omega, for_range (lo := 0) (n := ((S : Nat) : Int).toNat) (fun i σ H' => ∃ y3 y4, σ = [some (.ref d), some (.int S), some (.int (lastI (ds.take i))), y3, y4] ∧ Same H H')
      ⟨none, none, rfl, Same.refl _⟩ ?_ ?_⟩
    · rintro i σ H' hi ⟨y3, y4, rfl, s⟩
      rw [eS] at hi
      have h1 : (0 + (i : Int)) % (S : Int) = (i : Int) := by rw [Int.zero_add]; exact Int.emod_eq_of_lt (by omega) (by omega)
      have hp := dp_same s _ _ (hring i hi)
      refine ⟨_, rfl, d, dx, _, rfl, s _ _ e1, fl_no _ _ _ (by decide +kernel) (by decide +kernel) (by decide +kernel), _, rfl, _, rfl, (S : Int), 0 + (i : Int), rfl, hSi, d, n, _, sv, lv, rfl, D.same s, by rw [h1]; omega, by rw [h1]; omega, ?_⟩
      rw [h1]
      generalize hv1 : nowV sv lv (2 + (i : Int)) = v1 at hp
      have hil : i < ds.length := by omega
      have ed : ds.getD i .none = ds[i] := by rw [List.getD_eq_getElem?_getD, List.getElem?_eq_getElem hil]; rfl
      have et : lastI (ds.take (i + 1)) = (match asLog ds[i] with | some l => max (lastI (ds.take i)) l.g | none => lastI (ds.take i)) := by
        unfold lastI
        rw [List.take_add_one, List.getElem?_eq_getElem hil, List.foldl_append]
        rfl
      rw [ed] at hp
      refine ⟨_, rfl, v1, _, rfl, hp, fun H3 s3 => ⟨_, rfl, ?_⟩⟩
      cases e : asLog ds[i] with
      | none =>
        rw [e] at et
        exact iteF ⟨_, _, by rw [et]; rfl, s.trans s3⟩
      | some l =>
        rw [e] at et
        obtain ⟨a1, rfl, hT1⟩ := log_read hp e
        refine iteT ⟨_, rfl, _, rfl, a1, _, 0, .int l.g, rfl, rfl, same_seqT s3 hT1, atI_nat (j := 0) rfl, _, _, rfl, ?_⟩
        refine ⟨some (.int (0 + (i : Int))), some (.ref a1), ?_, s.trans s3⟩
        have em : max (lastI (ds.take i)) l.g = if l.g > lastI (ds.take i) then l.g else lastI (ds.take i) := by
          rw [Int.max_def]
          split <;> split <;> omega
        rw [et]
        show _ = [some (V.ref d), some (V.int S), some (V.int (max (lastI (ds.take i)) l.g)), some (V.int (0 + (i : Int))), some (V.ref a1)]
        rw [em]
        rfl
    · rintro σ H' ⟨y3, y4, rfl, s⟩
      refine ⟨_, rfl, ?_⟩
      rw [eS, ← hdl, List.take_length]
      exact k _ s
end
end Pf

set_option Elab.async false
set_option linter.all false
set_option maxRecDepth 100000
set_option maxHeartbeats 4000000
namespace Pf
open PySem PySem.Spec PyProof.Rows L2
theorem scLlog : FnScope ["value", "entry"] ["value"] (defScope sLlog) := ⟨rfl, rfl, rfl, by decide +kernel, rfl, by decide +kernel, by decide +kernel⟩
theorem scLgrp : FnScope ["row", "slots", "slot", "group", "first", "found", "at", "value"] ["row", "slots", "slot", "group"] (defScope sLgrp) := ⟨rfl, rfl, rfl, by decide +kernel, rfl, by decide +kernel, by decide +kernel⟩
theorem eqvL_ints (ns ms : List Int) : PyData.eqv (.list (ns.map PyData.int)) (.list (ms.map PyData.int)) = decide (ns = ms) := by
  rw [← eqvAll_ints]
  simp [PyData.eqv]
theorem shapedL_ints (ns : List Int) : SeqAt.shaped (.list (ns.map PyData.int)) = true := shaped_list (lay_ints ns) (by rw [dep_ints]; decide)
section
variable {P : Program} {w : World} {K : PySem.W.Frag} {mg : Str → Option Value} {base : Heap} {C : Addr}
theorem ok_llog {f : Addr} {fd : FuncData} (F : Fun K "_law_is_log" "_law_is_log" sLlog f fd) (mi : mg "isinstance" = none) (mt : mg "tuple" = none) (ml : mg "len" = none) (ma : mg "all" = none) (mn : mg "int" = none) (mb : mg "bool" = none) :
    FnOk P w K mg base CX0 1 f fd ["value"] (spIsLog K) := by
  refine F.ok scLlog (fun vs H Q E h => ?_) (fun cdv A outer s H vs Q E hr h => ?_)
  · obtain ⟨v, d, rfl, _⟩ := h
    rfl
  · obtain ⟨v, d, rfl, hd, q⟩ := h
    refine ⟨_, pss_cons (ps_if (PW.pt (pw_or (pt_not (pt_val (pe_callB call_isi (by rfl) mi (by decide +kernel) (pa_cons (pv 0) (pa_cons (pe_bltn (v := .ty "tuple") (by rfl) mt boot_tuple rfl) pa_nil)))))
        (pw_or1 (pt_cmpR op_ne (pe_callB call_len_seq (by rfl) ml boot_len (pa_cons (pv 0) pa_nil)) pe_int (nomark _))))) (pss_one (ps_ret pe_bl)) pss_nil)
      (pss_cons (ps_if (pt_not (pt_val (pe_callB (cr_all rfl) (by rfl) ma (by decide +kernel) (pa_cons
        (pe_lc (own := [("entry", 1)]) (g := gName 1) (tt := tYes) (te := tAndV (tCB (rIsi K) (tCons (tVar 1) (tCons (tC (.ty "int")) tNil))) (tNotV (tCB (rIsi K) (tCons (tVar 1) (tCons (tC (.ty "bool")) tNil))))) rfl scLlog.nd (pi_tup (pv 0)) (blkOk_by (N := ["value", "entry"]) (sc := defScope sLlog) (by decide +kernel)) (fun _ _ _ _ _ => pg_name (i := 1) scLlog.nd rfl (Or.inl rfl)) (fun _ _ _ _ _ => pts_nil)
          (fun _ _ _ _ _ => pe_and (pe_callB call_isi (by rfl) mi (by decide +kernel) (pa_cons (pv 1) (pa_cons (pe_bltn (v := .ty "int") (by rfl) mn boot_int rfl) pa_nil))) (pe_one (pe_not (pe_callB call_isi (by rfl) mi (by decide +kernel) (pa_cons (pv 1) (pa_cons (pe_bltn (v := .ty "bool") (by rfl) mb boot_bool rfl) pa_nil))))))) pa_nil)))) (pss_one (ps_ret pe_bl)) pss_nil)
      (pss_one (ps_ret (pe_and (pe_cmp (pc_ge (pe_ix ix_tup (pv 0) pe_int (fun _ _ => rfl)) pe_int)) (pe_and (pe_chain op_le op_lt pe_int (pe_ix ix_tup (pv 0) pe_int (fun _ _ => rfl)) (pe_ix ix_tup (pv 0) pe_int (fun _ _ => rfl))) (pe_one (pe_cmp (pc_ge (pe_ix ix_tup (pv 0) pe_int (fun _ _ => rfl)) pe_int)))))))), ?_⟩
    obtain ⟨t, ty, kt⟩ := isi_tup hd
    refine ⟨_, rfl, _, _, t, _, _, rfl, .ty _, ty, kt, _, rfl, ?_⟩
    cases hd with
    | non => exact iteT (iteT (q _ (Same.refl _)))
    | str x => exact iteT (iteT (q _ (Same.refl _)))
    | lst _ _ => exact iteT (iteT (q _ (Same.refl _)))
    | int x => exact iteT (iteT (q _ (Same.refl _)))
    | bl b => exact iteT (iteT (q _ (Same.refl _)))
    | @tup a xs ds hs ha =>
      have hl := dps_len ha
      have no : (∀ l, asLog (.tuple ds) = some l → False) → ∀ H', Same H H' → Q (.bl false) H' := fun z H' s' => by
        have q' := q H' s'
        rw [asLog_none_of z] at q'
        exact q'
      refine iteF ⟨_, rfl, a, xs, rfl, .inr hs, rfl, _, rfl, ite2 (fun hc => ?_) (fun hc => ?_)⟩
      · refine no (fun l h => ?_) _ (Same.refl _)
        obtain ⟨e, h8, _⟩ := asLog_some h
        injection e with e
        have e12 : ds.length = 12 := by
          rw [e, List.length_map]
          show l.cs.length + 1 + 1 + 1 + 1 = 12
          omega
        rw [hl, e12] at hc
        exact absurd hc (by decide)
      · have h12 : ds.length = 12 := by
          by_cases z : ds.length = 12
          · exact z
          · refine absurd ?_ hc
            rw [hl]
            have z2 : ¬ (V.int (ds.length : Nat) = V.int 12) := fun y => z (by injection y with y; omega)
            rw [decide_eq_false z2]
            rfl
        refine ⟨_, rfl, a, rfl, ⟨_, hs⟩, fun D hD => lc_tup (K := K) (a := a) (xs := xs) (fun i H' => Same H H' ∧ H' D = some (.lst ((ds.take i).map fun d => V.bl (isI d)))) ⟨same_upd hD, upd_same⟩ (fun i H' _ p => same_seqT p.1 hs) ?_ ?_⟩
        · rintro i x H' hi ⟨s1, e1⟩
          obtain ⟨d', hd', hp0⟩ := dps_get ha hi
          have hp := dp_same s1 _ _ hp0
          have hil : i < ds.length := (List.getElem?_eq_some_iff.mp hd').1
          obtain ⟨t1, ty1, kt1⟩ := isi_int hp
          obtain ⟨t2, ty2, kt2⟩ := isi_bool hp
          have fin : ∀ b, b = isI d' → ∃ acc, H' D = some (.lst acc) ∧ acc.length < sizeLine ∧ (Same H (upd H' D (.lst (acc ++ [V.bl b]))) ∧ (upd H' D (.lst (acc ++ [V.bl b]))) D = some (.lst ((ds.take (i + 1)).map fun d => V.bl (isI d)))) := by
            rintro b rfl
            refine ⟨_, e1, ?_, fun b o e => ?_, ?_⟩
            · rw [List.length_map, List.length_take]
              exact small1000 (by omega)
            · rw [upd_ne (ne_of_none e hD)]
              exact s1 _ _ e
            · rw [upd_same, List.take_add_one, hd', List.map_append]
              rfl
          refine ⟨rfl, tyes_go ?_⟩
          refine ⟨_, rfl, _, _, t1, _, _, rfl, .ty _, ty1, kt1, _, rfl, ite2 (fun c1 => ?_) (fun c1 => ?_)⟩
          · refine ⟨_, rfl, _, _, t2, _, _, rfl, .ty _, ty2, kt2, _, rfl, fin _ ?_⟩
            cases d' <;> first | rfl | cases c1
          · refine fin _ ?_
            cases d' <;> first | rfl | exact absurd rfl c1
        · rintro H' ⟨s1, e1⟩
          rw [hl, List.take_length] at e1
          refine ⟨D, ds.map isI, rfl, SqL.of (by rw [e1, List.map_map]; rfl), _, rfl, ?_⟩
          have e : (ds.map isI).all id = ds.all isI := by
            rw [List.all_map]
            rfl
          rw [e]
          cases hall : ds.all isI with
          | false =>
            refine iteT (no (fun l h => ?_) _ s1)
            obtain ⟨e, _⟩ := asLog_some h
            injection e with e
            rw [e, allI_map] at hall
            cases hall
          | true =>
            obtain ⟨ns, rfl⟩ := allI_of hall
            have exs := dps_inv ha
            rw [List.length_map] at h12
            obtain ⟨g, at', m, hm, cs, rfl⟩ : ∃ g a m h cs, ns = g :: a :: m :: h :: cs := by
              match ns, h12 with
              | g :: a :: m :: h :: cs, _ => exact ⟨g, a, m, h, cs, rfl⟩
            have hc8 : cs.length = 8 := by simpa using h12
            have hs' : SqT K H' a ((g :: at' :: m :: hm :: cs).map V.int) := same_seqT s1 (exs ▸ hs)
            have hmk : asLog (.tuple ((g :: at' :: m :: hm :: cs).map PyData.int)) = if cs.length = 8 ∧ 0 ≤ g ∧ 0 ≤ at' ∧ at' < m ∧ 0 ≤ hm then some ⟨g, at', m, hm, cs⟩ else none := by
              show (intsOf _).bind mkLog = _
              rw [intsOf_map]
              rfl
            have no2 : ¬ (cs.length = 8 ∧ 0 ≤ g ∧ 0 ≤ at' ∧ at' < m ∧ 0 ≤ hm) → Q (.bl false) H' := fun z => by
              refine no (fun l h => ?_) _ s1
              rw [hmk, if_neg z] at h
              cases h
            refine iteF ⟨_, rfl, a, _, 0, .int g, rfl, rfl, hs', atI_nat (j := 0) rfl, g, 0, rfl, rfl, _, rfl, ite2 (fun c0 => ?_) (fun c0 => no2 fun z => c0 (decide_eq_true z.2.1))⟩
            refine ⟨_, rfl, a, _, 1, .int at', rfl, rfl, hs', atI_nat (j := 1) rfl, _, _, rfl, rfl, _, rfl, ite2 (fun c1 => ?_) (fun c1 => ⟨_, rfl, iteF (no2 fun z => c1 (decide_eq_true z.2.2.1))⟩)⟩
            refine ⟨_, rfl, a, _, 2, .int m, rfl, rfl, hs', atI_nat (j := 2) rfl, _, _, rfl, rfl, _, rfl, ite2 (fun c2 => ?_) (fun c2 => no2 fun z => c2 (decide_eq_true z.2.2.2.1))⟩
            refine ⟨_, rfl, a, _, 3, .int hm, rfl, rfl, hs', atI_nat (j := 3) rfl, hm, 0, rfl, rfl, ?_⟩
            have q' := q _ s1
            rw [hmk] at q'
            show Q (V.bl (decide (0 ≤ hm))) H'
            by_cases hh : 0 ≤ hm
            · rw [if_pos ⟨hc8, of_decide_eq_true c0, of_decide_eq_true c1, of_decide_eq_true c2, hh⟩] at q'
              rw [decide_eq_true hh]
              exact q'
            · rw [decide_eq_false hh]
              exact no2 fun z => hh z.2.2.2.2
def spLgrp (K : PySem.W.Frag) : Sp := fun vs H Q _ => ∃ (r : Addr) (S t : Nat) (g : Int) (rs : List V) (ds : List PyData), vs = [.ref r, .int S, .int t, .int g] ∧ SqL K H r rs ∧ DpAll K H rs ds ∧ ds.length = S ∧ 0 < S ∧ S ≤ 900 ∧
  ∀ v H', Same H H' → Dp K (New H H') v (optD (wg ds S t g)) → Q v H'
theorem ok_lgrp {f fL : Addr} {fd fdL : FuncData} (F : Fun K "_law_group" "_law_group" sLgrp f fd) (GL : FnOk P w K mg base CX0 1 fL fdL ["value"] (spIsLog K)) (kL : PySem.W.keepIn K (.ref fL) = true) (gL : mg "_law_is_log" = some (.ref fL)) (bL : Binds K fdL ["value"] [])
    (mi : mg "int" = none) (mr : mg "range" = none) (ml : mg "list" = none) (mt : mg "tuple" = none) : FnOk P w K mg base CX0 2 f fd ["row", "slots", "slot", "group"] (spLgrp K) := by
  refine F.ok scLgrp (fun vs H Q E h => ?_) (fun cdv A outer s H vs Q E hr h => ?_)
  · obtain ⟨r, S, t, g, rs, ds, rfl, _⟩ := h
    rfl
  · obtain ⟨r, S, t, g, rs, ds, rfl, hrs, hds, hdl, hS, hS2, k⟩ := h
    refine ⟨_, pss_cons (ps_set (i := 4) scLgrp.nd rfl (.inl rfl) (pe_ix ix_list (pv 0) (pe_op op_mod (pe_callTy call_int1 (by rfl) mi boot_int (pa_cons (pv 2) pa_nil)) (pv 1)) (fun _ _ => rfl)))
      (pss_cons (ps_if (PW.pt (pw_or (pt_not (pt_val (pe_call GL hr rfl gL kL bL .nil pass0 (pa_cons (pv 4) pa_nil)))) (pw_or (pt_cmpR op_ne (pe_ix ix_tup (pv 4) pe_int (fun _ _ => rfl)) (pv 3) (nomark _))
          (pw_or (pt_cmpR op_ne (pe_ix ix_tup (pv 4) pe_int (fun _ _ => rfl)) pe_int (nomark _)) (pw_or1 (pt_cmpR op_gt (pe_ix ix_tup (pv 4) pe_int (fun _ _ => rfl)) (pv 1) (nomark _))))))) (pss_one (ps_ret pe_non)) pss_nil)
      (pss_cons (ps_set (i := 5) scLgrp.nd rfl (.inl rfl) (pe_lst pa_nil))
      (pss_cons (ps_for PassesOwn.never rfl (pi_range1 (by rfl) mr (pa_cons (pe_ix ix_tup (pv 4) pe_int (fun _ _ => rfl)) pa_nil)) (pg_name (i := 6) scLgrp.nd rfl (.inl rfl))
        (pss_cons (ps_set (i := 7) scLgrp.nd rfl (.inl rfl) (pe_ix ix_list (pv 0) (pe_op op_mod (pe_callTy call_int1 (by rfl) mi boot_int (pa_cons (pe_op op_add (pv 2) (pv 6)) pa_nil)) (pv 1)) (fun _ _ => rfl)))
        (pss_cons (ps_if (PW.pt (pw_or (pt_not (pt_val (pe_call GL hr rfl gL kL bL .nil pass0 (pa_cons (pv 7) pa_nil)))) (pw_or1 (pt_cmpR (op_neD hr.units) (pe_callTy call_list_of (by rfl) ml boot_list (pa_cons (pe_slice sl_tupA (pv 7) po_none (po_some pe_int)) pa_nil))
            (pe_lst (pa_cons (pv 3) (pa_cons (pv 6) (pa_cons (pe_ix ix_tup (pv 4) pe_int (fun _ _ => rfl)) pa_nil)))) (nomark _))))) (pss_one (ps_ret pe_non)) pss_nil)
        (pss_one (ps_expr (pe_bm PySem.F.plainAttrs_list PySem.F.slot_list_append PySem.F.type_list_append mt_append (pv 5) (pa_cons (pe_tup (pa_cons (pe_ix ix_tup (pv 7) pe_int (fun _ _ => rfl)) (pa_cons (pe_slice sl_tupA (pv 7) (po_some pe_int) po_none) pa_nil))) pa_nil)))))))
      (pss_one (ps_ret (pe_callTy call_tuple_of (by rfl) mt boot_tuple (pa_cons (pv 5) pa_nil))))))), ?_⟩
    have hSi : (0 : Int) < (S : Int) := by omega
    have rows : ∀ (u : Nat), ∃ v, atI rs ((u : Int) % (S : Int)) = some v ∧ Dp K H v (ds.getD (u % S) .none) := fun u => by
      have h1 : (u : Int) % (S : Int) = ((u % S : Nat) : Int) := by norm_cast
      have h2 : u % S < rs.length := by rw [dps_len hds, hdl]; exact Nat.mod_lt _ hS
      obtain ⟨d', e1, e2⟩ := dps_get hds (List.getElem?_eq_getElem h2)
      refine ⟨_, by rw [h1]; exact atI_nat (List.getElem?_eq_getElem h2), ?_⟩
      rw [List.getD_eq_getElem?_getD, e1]
      exact e2
    obtain ⟨v0, hat0, hp0⟩ := rows t
    refine ⟨_, rfl, _, rfl, .inl ⟨_, rfl, _, rfl, _, _, rfl, rfl, hSi, r, rs, _, v0, rfl, rfl, hrs, hat0, ?_⟩⟩
    refine ⟨_, rfl, v0, _, rfl, hp0, fun H1 s1 => ⟨_, rfl, ?_⟩⟩
    cases e : asLog (ds.getD (t % S) .none) with
    | none =>
      have ew : wg ds S t g = none := by
        unfold wg
        rw [e]
        rfl
      refine iteT (iteT (k .non _ s1 ?_))
      rw [ew]
      exact .non
    | some l =>
      obtain ⟨_, l8, lg, la, lm, lh⟩ := asLog_some e
      obtain ⟨a0, rfl, hT0⟩ := log_read hp0 e
      have hT1 := same_seqT s1 hT0
      have ew : wg ds S t g = if (S : Int) < l.m then none else grp ds S t g l.m l.m.toNat := by
        unfold wg
        rw [e]
        rfl
      -- the first plate is none of this group's first
      have early : ¬ (l.g = g ∧ l.a = 0) → wg ds S t g = none := fun z => by
        rw [ew]
        by_cases c : (S : Int) < l.m
        · rw [if_pos c]
        · rw [if_neg c]
          refine grp_none (i := 1) ?_ _ (by omega)
          show (asLog (ds.getD ((t + 0) % S) .none)).bind _ = none
          rw [Nat.add_zero, e]
          show (if l.g = g ∧ l.a = ((0 : Nat) : Int) ∧ l.m = l.m then _ else none) = none
          rw [if_neg (fun y => z ⟨y.1, y.2.1⟩)]
      have out : wg ds S t g = none → ∀ H', Same H H' → Q .non H' := fun z H' s' => by
        refine k .non _ s' ?_
        rw [z]
        exact .non
      refine iteF ⟨_, rfl, a0, _, 0, .int l.g, rfl, rfl, hT1, atI_nat (j := 0) rfl, _, rfl, rfl, _, rfl, ite2 (fun c0 => iteT (out (early fun z => ?_) _ s1)) (fun c0 => ?_)⟩
      · rw [z.1] at c0
        simp at c0
      have eg0 : l.g = g := by simpa using c0
      refine ⟨_, rfl, a0, _, 1, .int l.a, rfl, rfl, hT1, atI_nat (j := 1) rfl, rfl, _, rfl, ite2 (fun c1 => iteT (out (early fun z => ?_) _ s1)) (fun c1 => ?_)⟩
      · rw [z.2] at c1
        simp at c1
      refine ⟨_, rfl, a0, _, 2, .int l.m, rfl, rfl, hT1, atI_nat (j := 2) rfl, _, rfl, l.m, (S : Int), rfl, rfl, _, rfl, ite2 (fun hc => ?_) (fun hc => ?_)⟩
      · exact out (by rw [ew, if_pos (of_decide_eq_true hc)]) _ s1
      · have hc' : ¬ (S : Int) < l.m := fun z => hc (decide_eq_true z)
        rw [if_neg hc'] at ew
        refine ⟨Nat.zero_le _, fun c hcn => ?_⟩
        have hc0 : H c = none := s1.free hcn
        have sc1 := s1.trans (same_upd (o := .lst []) hcn)
        refine ⟨_, rfl, a0, _, 2, .int l.m, rfl, rfl, same_seqT sc1 hT0, atI_nat (j := 2) rfl, l.m, rfl, by omega, by omega, for_range (lo := 0) (n := l.m.toNat) (fun i σ H' => ∃ cs y6 y7 us, σ = [some (.ref r), some (.int S), some (.int t), some (.int g), some (.ref a0), some (.ref c), y6, y7] ∧
          grp ds S t g l.m i = some cs ∧ Same H H' ∧ H' c = some (.lst us) ∧ DpAll K (Off [c] (New H H')) us (cs.map pD)) ⟨[], none, none, [], rfl, rfl, sc1, upd_same, .nil⟩ ?_ ?_⟩
        · rintro i σ H' hi ⟨cs, y6, y7, us, rfl, eg, s2, ec, dU⟩
          obtain ⟨v1, hat1, hp1⟩ := rows (t + i)
          have et : ((t : Int) + (0 + (i : Int))) = ((t + i : Nat) : Int) := by omega
          have hat1' : atI rs (((t : Int) + (0 + (i : Int))) % (S : Int)) = some v1 := by rw [et]; exact hat1
          refine ⟨_, rfl, _, rfl, _, rfl, _, _, rfl, rfl, .inl ⟨_, rfl, _, rfl, _, _, rfl, rfl, hSi, r, rs, _, v1, rfl, rfl, s2.seq hrs, hat1', ?_⟩⟩
          refine ⟨_, rfl, v1, _, rfl, dp_same s2 _ _ hp1, fun H3 s3 => ⟨_, rfl, ?_⟩⟩
          have s23 : Same H H3 := s2.trans s3
          have bad : grp ds S t g l.m (i + 1) = none → ∀ H', Same H H' → Q .non H' := fun z H' s' => out (by rw [ew, grp_none z l.m.toNat (by omega)]) _ s'
          cases ee : asLog (ds.getD ((t + i) % S) .none) with
          | none =>
            refine iteT (iteT (bad ?_ _ s23))
            show (grp ds S t g l.m i).bind _ = none
            rw [eg]
            show (asLog (ds.getD ((t + i) % S) .none)).bind _ = none
            rw [ee]
            rfl
          | some l1 =>
            obtain ⟨_, k8, kg, ka, km, kh⟩ := asLog_some ee
            obtain ⟨a1, rfl, hTa⟩ := log_read hp1 ee
            have step : grp ds S t g l.m (i + 1) = if l1.g = g ∧ l1.a = (i : Int) ∧ l1.m = l.m then some (cs ++ [(l1.h, l1.cs)]) else none := by
              show (grp ds S t g l.m i).bind _ = _
              rw [eg]
              show (asLog (ds.getD ((t + i) % S) .none)).bind _ = _
              rw [ee]
              rfl
            refine iteF ⟨_, rfl, 3, rfl, ?_⟩
            dsimp only [tNoPart]
            refine slA_use (K := K) (a := a1) (lo := none) (hi := some 3) (same_seqT s23 hTa) fun p H4 s4 h4 => ?_
            have e3' : cutV (l1.all.map V.int) none (some (3 : Int)) = [l1.g, l1.a, l1.m].map V.int := cut_to _ 3
            rw [e3'] at h4
            have s04 := s23.trans s4
            refine ⟨p, _, rfl, .inr h4, fun q1 hq1 => ?_⟩
            have s5 := same_upd (o := .lst ([l1.g, l1.a, l1.m].map V.int)) hq1
            have s05' := s04.trans s5
            refine ⟨_, rfl, _, rfl, _, rfl, a0, _, 2, .int l.m, rfl, rfl, same_seqT s05' hT0, atI_nat (j := 2) rfl, (by show 3 ≤ sizeLine; decide), fun q hq => ?_⟩
            have s6 := same_upd (o := .lst [.int g, .int (0 + (i : Int)), .int l.m]) hq
            refine ⟨_, _, .lst (SqL.of (s6 _ _ upd_same)) (dps_ints [l1.g, l1.a, l1.m]), .lst (SqL.of upd_same) (dps_ints [g, 0 + (i : Int), l.m]), shapedL_ints _, shapedL_ints _, _, rfl, ?_⟩
            rw [eqvL_ints]
            have s36 := ((s3.trans s4).trans s5).trans s6
            have s05 := s2.trans s36
            by_cases hcc : l1.g = g ∧ l1.a = (i : Int) ∧ l1.m = l.m
            · have ed : ([l1.g, l1.a, l1.m] = [g, 0 + (i : Int), l.m]) := by rw [hcc.1, hcc.2.1, hcc.2.2, Int.zero_add]
              rw [decide_eq_true ed]
              have ec5 := s36 _ _ ec
              refine iteF ⟨_, rfl, .inl ⟨rfl, _, SqL.of ec5⟩, _, rfl, a1, _, 3, .int l1.h, rfl, rfl, same_seqT s05 hTa, atI_nat (j := 3) rfl, _, rfl, 4, rfl, ?_⟩
              dsimp only [tNoPart]
              have e4' : cutV (l1.all.map V.int) (some (4 : Int)) none = l1.cs.map V.int := cut_from _ 4
              refine slA_new (K := K) (a := a1) (lo := some 4) (hi := none) (same_seqT s05 hTa) (by rw [e4', List.length_map, List.length_map]; show l1.cs.length ≠ l1.cs.length + 1 + 1 + 1 + 1; omega) fun p2 hp2 => ?_
              have s7 := same_upd (o := .tup (cutV (l1.all.map V.int) (some (4 : Int)) none)) hp2
              have np2c : p2 ≠ c := fun z => by
                rw [z, ec5] at hp2
                cases hp2
              refine ⟨(by show 2 ≤ sizeLine; decide), fun u hu => ?_⟩
              have s8 := same_upd (o := .tup [.int l1.h, .ref p2]) hu
              have s38 := s36.trans (s7.trans s8)
              have ec7 := s38 _ _ ec
              have nuc : u ≠ c := fun z => by
                rw [z, s7 _ _ ec5] at hu
                cases hu
              have hul : us.length = i := by
                rw [dps_len dU, List.length_map, grp_len eg]
              refine ⟨c, us, .ref u, rfl, rfl, ec7, small1000 (by omega), cs ++ [(l1.h, l1.cs)], _, _, us ++ [.ref u], rfl, ?_, fun b o z => ?_, upd_same, ?_⟩
              · rw [step, if_pos hcc]
              · rw [upd_ne (ne_of_none z hc0)]
                exact s38 _ _ (s2 _ _ z)
              · rw [new_upd (by simp), List.map_append]
                refine dps_app (dps_same (off_same (new_same s38)) _ _ dU) (.cons ?_ .nil)
                have hu0 : H u = none := (s05.trans s7).free hu
                have hp20 : H p2 = none := s05.free hp2
                refine pD_mk (c := (l1.h, l1.cs)) (e := p2) (SqT.of ?_) ?_
                · rw [off_out (by simp [nuc]), new_at hu0, upd_same]
                · refine SqT.of ?_
                  rw [off_out (by simp [np2c]), new_at hp20]
                  refine s8 _ _ ?_
                  rw [upd_same, e4']
            · have ed : ¬ ([l1.g, l1.a, l1.m] = [g, 0 + (i : Int), l.m]) := fun z => hcc (by
                simp only [List.cons.injEq, Int.zero_add, and_true] at z
                exact z)
              rw [decide_eq_false ed]
              refine iteT (bad ?_ _ s05)
              rw [step, if_neg hcc]
        · rintro σ H' ⟨cs, y6, y7, us, rfl, eg, s2, ec, dU⟩
          refine ⟨_, rfl, c, us, rfl, .inl ⟨SqL.of ec, fun q hq => k _ _ (s2.trans (same_upd hq)) ?_⟩⟩
          rw [ew, eg]
          exact .tup (SqT.of (by rw [new_at (s2.free hq), upd_same])) (dps_same ((off_le).trans (new_same (same_upd hq))) _ _ dU)
end
end Pf

set_option Elab.async false
set_option linter.all false
set_option maxRecDepth 100000
set_option maxHeartbeats 4000000
namespace Pf
open PySem PySem.Spec PyProof.Rows L2
theorem scLgrps : FnScope ["row", "slots", "head", "group", "slot", "found", "used", "changes"] ["row", "slots", "head"] (defScope sLgrps) := ⟨rfl, rfl, rfl, by decide +kernel, rfl, by decide +kernel, by decide +kernel⟩
theorem scChg : FnScope ["draw", "most", "plates", "plate", "at"] ["draw", "most"] (defScope sChg) := ⟨rfl, rfl, rfl, by decide +kernel, rfl, by decide +kernel, by decide +kernel⟩
section
variable {P : Program} {w : World} {K : PySem.W.Frag} {mg : Str → Option Value} {base : Heap} {C : Addr}
def spLgrps (K : PySem.W.Frag) : Sp := fun vs H Q _ => ∃ (r hd : Addr) (S t : Nat) (g n : Int) (rs : List V) (ds : List PyData), vs = [.ref r, .int S, .ref hd] ∧ SqL K H r rs ∧ DpAll K H rs ds ∧ ds.length = S ∧ 0 < S ∧ S ≤ 900 ∧ SqT K H hd [.int n, .int g, .int t] ∧
  ∀ v H', Same H H' → Dp K (New H H') v (.tuple ((rgs ds S (S + 1) 0 t g).map gD)) → Q v H'
def lgW (K : PySem.W.Frag) (H : Hp) (r hd c : Addr) (S : Nat) (ds : List PyData) (full : List Gr) (m : Nat) (σ : L2.St) (H' : Hp) : Prop :=
  ∃ acc used t g us y, σ = [some (.ref r), some (.int S), some (.ref hd), some (.int g), some (.int ((t : Nat) : Int)), some (.ref c), some (.int ((used : Nat) : Int)), y] ∧ acc ++ rgs ds S m used t g = full ∧ S < used + m ∧ used ≤ S ∧ acc.length ≤ used ∧
    Same H H' ∧ H' c = some (.lst us) ∧ DpAll K (Off [c] (New H H')) us (acc.map gD)
theorem ok_lgrps {f fG : Addr} {fd fdG : FuncData} (F : Fun K "_law_groups" "_law_groups" sLgrps f fd) (GG : FnOk P w K mg base CX0 2 fG fdG ["row", "slots", "slot", "group"] (spLgrp K)) (kG : PySem.W.keepIn K (.ref fG) = true) (gG : mg "_law_group" = some (.ref fG)) (bG : Binds K fdG ["row", "slots", "slot", "group"] [])
    (ml : mg "len" = none) (mt : mg "tuple" = none) : FnOk P w K mg base CX0 3 f fd ["row", "slots", "head"] (spLgrps K) := by
  refine F.ok scLgrps (fun vs H Q E h => ?_) (fun cdv A outer s H vs Q E hr h => ?_)
  · obtain ⟨r, hd, S, t, g, n, rs, ds, rfl, _⟩ := h
    rfl
  · obtain ⟨r, hd, S, t, g, n, rs, ds, rfl, hrs, hds, hdl, hS, hS2, hh, k⟩ := h
    refine ⟨_, pss_cons (ps_asg (pe_tup (pa_cons (pe_ix ix_tup (pv 2) pe_int (fun _ _ => rfl)) (pa_cons (pe_ix ix_tup (pv 2) pe_int (fun _ _ => rfl)) (pa_cons (pe_lst pa_nil) (pa_cons pe_int pa_nil)))))
        (pg_tup rfl (pgs_cons (pg_name (i := 3) scLgrps.nd rfl (.inl rfl)) (pgs_cons (pg_name (i := 4) scLgrps.nd rfl (.inl rfl)) (pgs_cons (pg_name (i := 5) scLgrps.nd rfl (.inl rfl)) (pgs_cons (pg_name (i := 6) scLgrps.nd rfl (.inl rfl)) pgs_nil))))))
      (pss_one (ps_while PassesOwn.never (pt_val pe_bl)
        (pss_cons (ps_set (i := 7) scLgrps.nd rfl (.inl rfl) (pe_call GG hr rfl gG kG bG .nil pass0 (pa_cons (pv 0) (pa_cons (pv 1) (pa_cons (pv 4) (pa_cons (pv 3) pa_nil))))))
        (pss_cons (ps_if (PW.pt (pw_or (pt_cmpR op_isN (pv 7) pe_non (nomark _)) (pw_or1 (pt_cmpR op_gt (pe_op op_add (pv 6) (pe_callB call_len_seq (by rfl) ml boot_len (pa_cons (pv 7) pa_nil))) (pv 1) (nomark _)))))
          (pss_one (ps_ret (pe_callTy call_tuple_of (by rfl) mt boot_tuple (pa_cons (pv 5) pa_nil)))) pss_nil)
        (pss_cons (ps_expr (pe_bm PySem.F.plainAttrs_list PySem.F.slot_list_append PySem.F.type_list_append mt_append (pv 5) (pa_cons (pe_tup (pa_cons (pv 3) (pa_cons (pv 4) (pa_cons (pv 7) pa_nil)))) pa_nil)))
        (pss_one (ps_par3 rfl scLgrps.nd (i := 3) (j := 4) (l := 6) rfl rfl rfl (by decide) (by decide) (by decide) rfl rfl rfl (pa_cons (pe_op op_add (pv 3) pe_int) (pa_cons (pe_op op_add (pv 4) (pe_callB call_len_seq (by rfl) ml boot_len (pa_cons (pv 7) pa_nil))) (pa_cons (pe_op op_add (pv 6) (pe_callB call_len_seq (by rfl) ml boot_len (pa_cons (pv 7) pa_nil))) pa_nil))) (by rfl)))))))), ?_⟩
    refine ⟨_, rfl, hd, _, 1, .int g, rfl, rfl, hh, rfl, _, rfl, hd, _, 2, .int t, rfl, rfl, hh, rfl, Nat.zero_le _, fun c hc => ⟨(by show 4 ≤ sizeLine; decide), fun tp htp => ?_⟩⟩
    have s1 := same_upd (o := .lst []) hc
    have s2 := same_upd (o := .tup [.int g, .int (t : Nat), .ref c, .int 0]) htp
    refine ⟨tp, _, rfl, SqT.of upd_same, rfl, _, _, rfl, _, _, rfl, _, _, rfl, _, _, rfl, rfl, ?_⟩
    refine ⟨lgW K H r hd c S ds (rgs ds S (S + 1) 0 t g), ⟨S + 1, [], 0, t, g, [], none, rfl, rfl, by omega, by omega, Nat.le_refl _, s1.trans s2, s2 _ _ upd_same, .nil⟩, ?_⟩
    rintro m σ H' ⟨acc, used, t', g', us, y, rfl, er, hm, hu, hal, s, ec, dU⟩
    obtain ⟨m', rfl⟩ : ∃ m', m = m' + 1 := ⟨m - 1, by omega⟩
    refine ⟨_, rfl, ?_⟩
    refine iteT ⟨lgW K H r hd c S ds (rgs ds S (S + 1) 0 t g) m', fun _ _ z => ⟨m', by omega, z⟩, ?_⟩
    refine ⟨_, rfl, _, rfl, _, rfl, _, rfl, r, S, t', g', rs, ds, rfl, s.seq hrs, dps_same s _ _ hds, hdl, hS, hS2, fun v H1 sv hv => ?_⟩
    have ec1 := sv _ _ ec
    have s01 := s.trans sv
    have fin : acc = rgs ds S (S + 1) 0 t g → ∀ q, H1 q = none → Q (.ref q) (upd H1 q (.tup us)) := fun ea q hq => by
      refine k _ _ (s01.trans (same_upd hq)) ?_
      rw [← ea]
      exact .tup (SqT.of (by rw [new_at (s01.free hq), upd_same])) (dps_same ((off_le).trans (new_same (sv.trans (same_upd hq)))) _ _ dU)
    refine ⟨_, rfl, rfl, _, rfl, ?_⟩
    cases ew : wg ds S t' g' with
    | none =>
      rw [ew] at hv
      cases hv
      refine iteT (iteT ⟨_, rfl, c, us, rfl, .inl ⟨SqL.of ec1, fin ?_⟩⟩)
      rw [← er]
      show acc = acc ++ (match wg ds S t' g' with | none => [] | some cs => _)
      rw [ew, List.append_nil]
    | some cs =>
      rw [ew] at hv
      obtain ⟨av, xs, rfl, hav, hxl, _⟩ := ch_read (show Dp K _ v (chD cs) from hv)
      have hav1 : SqT K H1 av xs := same_seqT new_le hav
      have c0 := wg_len ew
      have er2 : acc ++ (if used + cs.length ≤ S then (g', t', cs) :: rgs ds S m' (used + cs.length) (t' + cs.length) (g' + 1) else []) = rgs ds S (S + 1) 0 t g := by
        rw [← er]
        show _ = acc ++ (match wg ds S t' g' with | none => [] | some cs => if used + cs.length ≤ S then (g', t', cs) :: rgs ds S m' (used + cs.length) (t' + cs.length) (g' + 1) else [])
        rw [ew]
      refine iteF ⟨_, rfl, _, rfl, av, xs, rfl, .inr hav1, _, _, rfl, rfl, _, rfl, _, _, rfl, rfl, _, rfl, ite2 (fun hcnd => ?_) (fun hcnd => ?_)⟩
      · have hfit : ¬ used + cs.length ≤ S := by
          have := of_decide_eq_true hcnd
          rw [hxl] at this
          omega
        rw [if_neg hfit, List.append_nil] at er2
        exact ⟨_, rfl, c, us, rfl, .inl ⟨SqL.of ec1, fin er2⟩⟩
      · have hfit : used + cs.length ≤ S := by
          by_cases z : used + cs.length ≤ S
          · exact z
          · exact absurd (decide_eq_true (by rw [hxl]; omega)) hcnd
        rw [if_pos hfit] at er2
        refine ⟨_, rfl, .inl ⟨rfl, _, SqL.of ec1⟩, _, rfl, _, rfl, _, rfl, (by show 3 ≤ sizeLine; decide), fun u hu' => ?_⟩
        have s4 := same_upd (o := .tup [.int g', .int (t' : Nat), .ref av]) hu'
        have nuc : u ≠ c := fun z => by
          rw [z, ec1] at hu'
          cases hu'
        have hul : us.length ≤ 1000 := by
          rw [dps_len dU, List.length_map]
          omega
        refine ⟨c, us, .ref u, rfl, rfl, s4 _ _ ec1, small1000 hul, ?_⟩
        have s34 : Same H' (upd H1 u (.tup [.int g', .int (t' : Nat), .ref av])) := sv.trans s4
        have s05 : Same H (upd (upd H1 u (.tup [.int g', .int (t' : Nat), .ref av])) c (.lst (us ++ [.ref u]))) := fun b o z => by
          rw [upd_ne (ne_of_none z hc)]
          exact s34 _ _ (s _ _ z)
        have hvO : Dp K (Off [c] (New H H1)) (.ref av) (optD (some cs)) := dp_same (new_step s (by simp [ec])) _ _ hv
        obtain ⟨_, _, e0, hav0, _, _⟩ := ch_read (show Dp K _ _ (chD cs) from hvO)
        have hav5 : SqT K (upd (upd H1 u (.tup [.int g', .int (t' : Nat), .ref av])) c (.lst (us ++ [.ref u]))) av xs := by
          refine same_seqT (H := New H' H1) (fun b o z => ?_) hav
          obtain ⟨z1, z2⟩ := new_some z
          rw [upd_ne (fun y => by rw [y, ec] at z1; cases z1)]
          exact s4 _ _ z2
        refine ⟨_, rfl, _, _, rfl, rfl, _, rfl, _, rfl, av, xs, rfl, .inr hav5, _, _, rfl, rfl, _, rfl, _, rfl, av, xs, rfl, .inr hav5, _, _, rfl, rfl, _, _, _, rfl, ?_⟩
        have et : (t' : Int) + (xs.length : Nat) = ((t' + cs.length : Nat) : Int) := by omega
        have eu : (used : Int) + (xs.length : Nat) = ((used + cs.length : Nat) : Int) := by omega
        refine ⟨acc ++ [(g', t', cs)], used + cs.length, t' + cs.length, g' + 1, us ++ [.ref u], some (.ref av), by rw [← et, ← eu]; rfl, ?_, by omega, hfit, ?_, s05, upd_same, ?_⟩
        · rw [← er2, List.append_assoc]
          rfl
        · rw [List.length_append]
          show acc.length + 1 ≤ _
          omega
        · rw [new_upd (by simp), List.map_append]
          refine dps_app (dps_same (off_same (new_same s34)) _ _ dU) (.cons ?_ .nil)
          refine .tup (SqT.of (xs := [.int g', .int (t' : Nat), .ref av]) ?_) (.cons (.int _) (.cons (.int _) (.cons (dp_same (off_same (new_same s4)) _ _ hvO) .nil)))
          rw [off_out (by simp [nuc]), new_at (s01.free hu'), upd_same]
theorem But.put {cs : List Addr} {H H' : Hp} {p : Addr} {o : HO} (s : But cs H H') (h : H p = none) : But cs H (upd H' p o) := fun b u z => by
  rw [upd_ne (fun y => by rw [y] at z; exact absurd (off_le _ _ z) (by rw [h]; simp))]
  exact s _ _ z
theorem But.then {cs : List Addr} {H H1 H2 : Hp} (s : But cs H H1) (s' : Same H1 H2) : But cs H H2 := Same.trans s s'
theorem But.trans {cs : List Addr} {H H1 H2 : Hp} (s : But cs H H1) (s' : But cs H1 H2) : But cs H H2 := fun b o z => by
  have hb : b ∉ cs := fun y => by rw [off_in y] at z; cases z
  exact s'.at (s _ _ z) hb
theorem new_but {cs : List Addr} {H H1 H2 : Hp} (s : But cs H1 H2) (h : ∀ c ∈ cs, H c ≠ none) : Same (New H H1) (New H H2) := fun b o e => by
  obtain ⟨e1, e2⟩ := new_some e
  rw [new_at e1]
  exact s.at e2 (fun z => h b z e1)
theorem But.free {cs : List Addr} {H H' : Hp} {p : Addr} (s : But cs H H') (h : H' p = none) (n : p ∉ cs) : H p = none := by
  cases e : H p with
  | none => rfl
  | some o => rw [s.at e n] at h; cases h
theorem ttrue_go {σ : L2.St} {H : Hp} {A B : Hp → Prop} (h : A H) : tB (tC (.bl true)) σ H (fun b H3 => if b = true then A H3 else B H3) := ⟨true, rfl, by show (if true = true then A H else B H); rw [if_pos rfl]; exact h⟩
/-! ### drawn changes -/
def spChg (K : PySem.W.Frag) : Sp := fun vs H Q _ => ∃ (a sc : Addr) (ns : List Int) (m : Nat), vs = [.ref a, .int (m : Int)] ∧ DrawAt K H a sc ns ∧ 0 < m ∧ m ≤ 900 ∧
  ∀ v H' cs, But [a] H H' → DrawAt K H' a sc ns → Dp K (New H H') v (chD cs) → cs.length ≤ m → cs.length ≤ 6 → (∀ c ∈ cs, c.2.length = 8 ∧ 0 ≤ c.1) → Q v H'
theorem ok_chg {f fT : Addr} {fd fdT : FuncData} (F : Fun K "_law_changes" "_law_changes" sChg f fd) (GT : FnOk P w K mg base CX0 2 fT fdT ["draw", "many"] (spTake K)) (kT : PySem.W.keepIn K (.ref fT) = true) (gT : mg "_law_take" = some (.ref fT))
    (bT : Binds K fdT ["draw", "many"] []) (mr : mg "range" = none) (mt : mg "tuple" = none) : FnOk P w K mg base CX0 3 f fd ["draw", "most"] (spChg K) := by
  refine F.ok scChg (fun vs H Q E h => ?_) (fun cdv A outer s H vs Q E hr h => ?_)
  · obtain ⟨a, sc, ns, m, rfl, _⟩ := h
    rfl
  · obtain ⟨a, sc, ns, m, rfl, D, hm0, hm1, k⟩ := h
    refine ⟨_, pss_cons (ps_set (i := 2) scChg.nd rfl (.inl rfl) (pe_slice sl_list
        (pe_lc (own := [("plate", 3)]) (g := gName 3) (tt := tTest (tOp rEq (tCall (spTake K) [] E0 (tCons (tVar 0) (tCons (tC (.int 2)) tNil))) (tC (.int 0)))) (te := tVar 3) rfl scChg.nd (pi_range1 (by rfl) mr (pa_cons pe_int pa_nil)) (blkOk_by (N := ["draw", "most", "plates", "plate", "at"]) (sc := defScope sChg) (by decide +kernel))
          (fun _ _ _ _ _ => pg_name (i := 3) scChg.nd rfl (Or.inl rfl)) (fun _ _ _ _ _ => pts_one (pt_cmpR op_eq (pe_call GT hr rfl gT kT bT .nil pass0 (pa_cons (pv 0) (pa_cons pe_int pa_nil))) pe_int (nomark _))) (fun _ _ _ _ _ => pv 3))
        po_none (po_some (pv 1))))
      (pss_one (ps_ret (pe_callTy call_tuple_of (by rfl) mt boot_tuple (pa_cons
        (pe_lc (own := [("plate", 3)]) (g := gName 3) (tt := tB (tC (.bl true))) (te := tTup (tCons (tVar 3) (tCons (tCB (fun xs H Q => ∃ p ys, xs = [.ref p] ∧ ((SqL K H p ys ∧ ∀ l, H l = none → Q (.ref l) (upd H l (.tup ys))) ∨ (SqT K H p ys ∧ Q (.ref p) H))) (tCons
              (tLc (iRng1 (tCons (tC (.int 8)) tNil)) (gName 4) tYes (tCall (spTake K) [] E0 (tCons (tVar 0) (tCons (tC (.int 9)) tNil))) [4]) tNil)) tNil))) rfl scChg.nd (pi_list (pv 2)) (blkOk_by (N := ["draw", "most", "plates", "plate", "at"]) (sc := defScope sChg) (by decide +kernel))
          (fun _ _ _ _ _ => pg_name (i := 3) scChg.nd rfl (Or.inl rfl)) (fun _ _ _ _ _ => pts_one (pt_val pe_bl))
          (fun _ _ _ _ _ => pe_tup (pa_cons (pv 3) (pa_cons (pe_callTy call_tuple_of (by rfl) mt boot_tuple (pa_cons
            (pe_lc (own := [("at", 4)]) (g := gName 4) (tt := tYes) (te := tCall (spTake K) [] E0 (tCons (tVar 0) (tCons (tC (.int 9)) tNil))) rfl scChg.nd (pi_range1 (by rfl) mr (pa_cons pe_int pa_nil)) (blkOk_by (N := ["draw", "most", "plates", "plate", "at"]) (sc := relS { kind := .function, names := [(".0", .local), ("plate", .local), ("tuple", .globalImplicit), ("range", .globalImplicit), ("draw", .free)], isGenerator := false, isCoroutine := false } (defScope sChg)) (by decide +kernel))
              (fun _ _ _ _ _ => pg_name (i := 4) scChg.nd rfl (Or.inl rfl)) (fun _ _ _ _ _ => pts_nil) (fun _ _ _ _ _ => pe_call GT hr rfl gT kT bT .nil pass0 (pa_cons (pv 0) (pa_cons pe_int pa_nil)))) pa_nil)) pa_nil)))) pa_nil)))), ?_⟩
    have ha : H a ≠ none := by
      obtain ⟨⟨i, e⟩, _⟩ := D
      rw [e]
      simp
    have nea : ∀ {p : Addr}, H p = none → p ≠ a := fun h z => ha (z ▸ h)
    refine ⟨6, rfl, by decide, by decide, fun D0 hD0 => lc_range (lo := 0) (n := (6 : Int).toNat) (fun i H' => ∃ ps : List Int, But [a] H H' ∧ DrawAt K H' a sc ns ∧ H' D0 = some (.lst (ps.map V.int)) ∧ ps.length ≤ i ∧ ∀ p ∈ ps, 0 ≤ p)
      ⟨[], .of (same_upd hD0), D.same (same_upd hD0), upd_same, Nat.le_refl _, fun p z => by cases z⟩ ?_ ?_⟩
    · rintro i H' hi ⟨ps, s1, D1, e1, hl, hp⟩
      refine ⟨rfl, _, rfl, a, sc, ns, 2, rfl, D1, by decide, fun r H2 r0 r1 s2 D2 => ⟨rfl, _, rfl, ite2 (fun hc => ?_) (fun hc => ?_)⟩⟩
      · have e2 := s2.at e1 (by simp [nea hD0])
        refine ⟨_, rfl, _, e2, ?_, ps ++ [0 + (i : Int)], (s1.trans s2).put hD0, ?_, ?_, ?_, ?_⟩
        · rw [List.length_map]
          exact small1000 (by have : (6 : Int).toNat = 6 := rfl; omega)
        · obtain ⟨j, ej⟩ := D2.1
          exact D.next ((s1.trans s2).put hD0) ⟨j, by rw [upd_ne (nea hD0).symm]; exact ej⟩
        · rw [upd_same, List.map_append]
          rfl
        · rw [List.length_append]
          show ps.length + 1 ≤ i + 1
          omega
        · intro p z
          rcases List.mem_append.mp z with z | z
          · exact hp p z
          · have : p = 0 + (i : Int) := by simpa using z
            omega
      · exact ⟨ps, s1.trans s2, D2, s2.at e1 (by simp [nea hD0]), by omega, hp⟩
    · rintro H1 ⟨ps, s1, D1, e1, hl, hp⟩
      have hl6 : ps.length ≤ 6 := hl
      refine ⟨_, rfl, (m : Int), rfl, D0, _, rfl, SqL.of e1, fun p1 hp1 => ?_⟩
      have ecut : cutV (ps.map V.int) none (some (m : Int)) = (ps.take m).map V.int := by rw [cut_to, List.map_take]
      rw [ecut]
      generalize hqs : ps.take m = qs
      have hq1 : qs.length ≤ m := by rw [← hqs, List.length_take]; omega
      have hq6 : qs.length ≤ 6 := by rw [← hqs, List.length_take]; omega
      have hq0 : ∀ q ∈ qs, 0 ≤ q := fun q z => hp q (List.mem_of_mem_take (by rw [hqs]; exact z))
      have sp := same_upd (o := .lst (qs.map V.int)) hp1
      have s1' : But [a] H (upd H1 p1 (.lst (qs.map V.int))) := s1.then sp
      have hp1a : p1 ≠ a := fun z => by
        obtain ⟨j, ej⟩ := D1.1
        rw [z, ej] at hp1
        cases hp1
      have hp10 : H p1 = none := s1.free hp1 (by simp [hp1a])
      refine ⟨_, rfl, p1, rfl, ⟨_, SqL.of upd_same⟩, fun E1 hE1 => lc_list (K := K) (a := p1) (xs := qs.map V.int) (fun i H' => ∃ (us : List V) (cs : List Ch), But [a] H H' ∧ DrawAt K H' a sc ns ∧ H' p1 = some (.lst (qs.map V.int)) ∧ H' E1 = some (.lst us) ∧
        DpAll K (Off [E1] (New H H')) us (cs.map pD) ∧ cs.length = i ∧ ∀ c ∈ cs, c.2.length = 8 ∧ 0 ≤ c.1) ?_ (fun i H' _ z => by obtain ⟨_, _, _, _, z, _⟩ := z; exact SqL.of z) ?_ ?_⟩
      · have sE := same_upd (o := .lst []) hE1
        exact ⟨[], [], s1'.then sE, (D1.same sp).same sE, sE _ _ upd_same, upd_same, .nil, rfl, fun c z => by cases z⟩
      · have hE1a : E1 ≠ a := fun z => by
          obtain ⟨j, ej⟩ := (D1.same sp).1
          rw [z, ej] at hE1
          cases hE1
        have hE10 : H E1 = none := s1'.free hE1 (by simp [hE1a])
        rintro i x H' hi ⟨us, cs, s2, D2, ep, eE, dU, hcl, hcs⟩
        rw [List.getElem?_map] at hi
        obtain ⟨q, hq⟩ : ∃ q, qs[i]? = some q := by
          cases e : qs[i]? with
          | none => rw [e] at hi; cases hi
          | some q => exact ⟨q, rfl⟩
        rw [hq] at hi
        cases (Option.some.inj hi)
        have hil : i < qs.length := (List.getElem?_eq_some_iff.mp hq).1
        refine ⟨rfl, ttrue_go ?_⟩
        refine ⟨_, rfl, 8, rfl, by decide, by decide, fun E2 hE2 => lc_range (lo := 0) (n := (8 : Int).toNat) (fun j H3 => ∃ ks : List Int, But [a] H' H3 ∧ DrawAt K H3 a sc ns ∧ H3 E2 = some (.lst (ks.map V.int)) ∧ ks.length = j)
          ⟨[], .of (same_upd hE2), D2.same (same_upd hE2), upd_same, rfl⟩ ?_ ?_⟩
        · have hE2a : E2 ≠ a := fun z => by
            obtain ⟨j, ej⟩ := D2.1
            rw [z, ej] at hE2
            cases hE2
          rintro j H3 hj ⟨ks, s3, D3, e3, hk⟩
          refine ⟨rfl, tyes_go ?_⟩
          refine ⟨_, rfl, a, sc, ns, 9, rfl, D3, by decide, fun r H4 r0 r1 s4 D4 => ⟨_, s4.at e3 (by simp [hE2a]), ?_, ks ++ [r], (s3.trans s4).put hE2, ?_, ?_, ?_⟩⟩
          · rw [List.length_map]
            exact small1000 (by have : (8 : Int).toNat = 8 := rfl; omega)
          · obtain ⟨y, ey⟩ := D4.1
            exact D2.next ((s3.trans s4).put hE2) ⟨y, by rw [upd_ne hE2a.symm]; exact ey⟩
          · rw [upd_same, List.map_append]
            rfl
          · rw [List.length_append, hk]
            rfl
        · rintro H3 ⟨ks, s3, D3, e3, hk⟩
          have hk8 : ks.length = 8 := hk
          refine ⟨E2, _, rfl, .inl ⟨SqL.of e3, fun l hl => ⟨(by show 2 ≤ sizeLine; decide), fun u hu => ?_⟩⟩⟩
          have s4 := same_upd (o := .tup (ks.map V.int)) hl
          have s5 := same_upd (o := .tup [.int q, .ref l]) hu
          have s45 := s4.trans s5
          have eE3 := s3.at eE (by simp [hE1a])
          have nuE : u ≠ E1 := fun z => by
            rw [z, s4 _ _ eE3] at hu
            cases hu
          have nlE : l ≠ E1 := fun z => by
            rw [z, eE3] at hl
            cases hl
          have sH3 : But [a] H H3 := s2.trans s3
          have nla : l ≠ a := fun z => by
            obtain ⟨y, ey⟩ := D3.1
            rw [z, ey] at hl
            cases hl
          have nua : u ≠ a := fun z => by
            obtain ⟨y, ey⟩ := (D3.same s4).1
            rw [z, ey] at hu
            cases hu
          have hl0 : H l = none := sH3.free hl (by simp [nla])
          have hu0 : H u = none := (sH3.then s4).free hu (by simp [nua])
          have hul : us.length = i := by rw [dps_len dU, List.length_map, hcl]
          have sF : But [a] H (upd (upd (upd H3 l (.tup (ks.map V.int))) u (.tup [.int q, .ref l])) E1 (.lst (us ++ [.ref u]))) := (sH3.then s45).put hE10
          refine ⟨us, s45 _ _ eE3, small1000 (by omega), us ++ [.ref u], cs ++ [(q, ks)], sF, ?_, ?_, upd_same, ?_, ?_, ?_⟩
          · obtain ⟨y, ey⟩ := (D3.same s45).1
            exact D.next sF ⟨y, by rw [upd_ne hE1a.symm]; exact ey⟩
          · have hpE : p1 ≠ E1 := fun z => by
              rw [← z, upd_same] at hE1
              cases hE1
            rw [upd_ne hpE]
            exact s45 _ _ (s3.at ep (by simp [hp1a]))
          · rw [new_upd (by simp), List.map_append]
            refine dps_app (dps_same (off_same ((new_but s3 (by simpa using ha)).trans (new_same s45))) _ _ dU) (.cons ?_ .nil)
            refine pD_mk (c := (q, ks)) (e := l) (SqT.of ?_) (SqT.of ?_)
            · rw [off_out (by simp [nuE]), new_at hu0, upd_same]
            · rw [off_out (by simp [nlE]), new_at hl0]
              exact s5 _ _ upd_same
          · rw [List.length_append, hcl]
            rfl
          · intro c z
            rcases List.mem_append.mp z with z | z
            · exact hcs c z
            · have : c = (q, ks) := by simpa using z
              rw [this]
              exact ⟨hk8, hq0 q (List.mem_of_getElem? hq)⟩
      · rintro H' ⟨us, cs, s2, D2, ep, eE, dU, hcl, hcs⟩
        rw [List.length_map] at hcl
        refine ⟨E1, us, rfl, .inl ⟨SqL.of eE, fun l hl => ?_⟩⟩
        have s3 := same_upd (o := .tup us) hl
        have nla : l ≠ a := fun z => by
          obtain ⟨y, ey⟩ := D2.1
          rw [z, ey] at hl
          cases hl
        refine k _ _ cs (s2.then s3) (D2.same s3) ?_ (by omega) (by omega) hcs
        exact .tup (SqT.of (by rw [new_at (s2.free hl (by simp [nla])), upd_same])) (dps_same ((off_le).trans (new_same s3)) _ _ dU)
end
end Pf

set_option Elab.async false
set_option linter.all false
set_option maxRecDepth 100000
set_option maxHeartbeats 8000000
namespace Pf
open PySem PySem.Spec PyProof.Rows L2
/-- a def that keeps its promise, by its name -/
structure Df (P : Program) (w : World) (K : PySem.W.Frag) (mg : Str → Option Value) (base : Heap) (k : Nat) (x : Str) (ps : List Str) (sp : Sp) (f : Addr) (fd : FuncData) : Prop where
  G : FnOk P w K mg base CX0 k f fd ps sp
  kp : PySem.W.keepIn K (.ref f) = true
  g : mg x = some (.ref f)
  b : Binds K fd ps []
abbrev NL : List Str := ["script", "draw", "slots", "row", "slot", "group", "head", "turn", "changes", "rows", "at", "due", "value", "disk", "seen", "number", "pair", "one"]
theorem scLaw : FnScope NL ["script"] (defScope sLaw) := ⟨rfl, rfl, rfl, by decide +kernel, rfl, by decide +kernel, by decide +kernel⟩
structure LTxt (mg : Str → Option Value) : Prop where
  range : mg "range" = none
  enumerate : mg "enumerate" = none
  int : mg "int" = none
  len : mg "len" = none
  list : mg "list" = none
  tuple : mg "tuple" = none
  max : mg "max" = none
/-! ### shapes -/
theorem lay_pDs : ∀ cs : List Ch, PyData.canLayAll0 (cs.map pD) = true
  | [] => by simp [PyData.canLayAll0]
  | c :: cs => by simp [PyData.canLayAll0, PyData.canLay0, pD, lay_ints, lay_pDs cs]
theorem dep_pDs : ∀ cs : List Ch, PyData.depthAll (cs.map pD) ≤ 2
  | [] => by simp [PyData.depthAll]
  | c :: cs => by
    have := dep_pDs cs
    simp only [List.map_cons, PyData.depthAll, pD, PyData.depth, dep_ints]
    omega
theorem lay_rowDs : ∀ ns : List (List Int), PyData.canLayAll0 (ns.map rowD) = true
  | [] => by simp [PyData.canLayAll0]
  | c :: cs => by simp [PyData.canLayAll0, PyData.canLay0, rowD, lay_ints, lay_rowDs cs]
theorem dep_rowDs : ∀ ns : List (List Int), PyData.depthAll (ns.map rowD) ≤ 1
  | [] => by simp [PyData.depthAll]
  | c :: cs => by
    have := dep_rowDs cs
    simp only [List.map_cons, PyData.depthAll, rowD, PyData.depth, dep_ints]
    omega
theorem shaped_ch (cs : List Ch) : SeqAt.shaped (chD cs) = true := shaped_tup (lay_pDs cs) (Nat.le_trans (dep_pDs cs) (by decide))
theorem shaped_opt : ∀ o : Option (List Ch), SeqAt.shaped (optD o) = true
  | none => by
    show (PyData.canLay0 .none && decide (PyData.depth .none ≤ 64)) = true
    simp [PyData.canLay0, PyData.depth]
  | some cs => shaped_ch cs
theorem lay_gDs : ∀ zs : List Gr, PyData.canLayAll0 (zs.map gD) = true
  | [] => by simp [PyData.canLayAll0]
  | c :: cs => by simp [PyData.canLayAll0, PyData.canLay0, gD, chD, lay_pDs, lay_gDs cs]
theorem dep_gDs : ∀ zs : List Gr, PyData.depthAll (zs.map gD) ≤ 4
  | [] => by simp [PyData.depthAll]
  | c :: cs => by
    have h1 := dep_gDs cs
    have h2 := dep_pDs c.2.2
    simp only [List.map_cons, PyData.depthAll, gD, chD, PyData.depth]
    omega
theorem shaped_gs (zs : List Gr) : SeqAt.shaped (.tuple (zs.map gD)) = true := shaped_tup (lay_gDs zs) (Nat.le_trans (dep_gDs zs) (by decide))
theorem eqv_self {d : PyData} (h : SeqAt.shaped d = true) : PyData.eqv d d = true := PySem.SeqAt.eqv_refl d (SeqAt.canLay_of_shaped h)
theorem eqv_ch_nil : ∀ cs : List Ch, PyData.eqv (chD cs) (.tuple []) = decide (cs = [])
  | [] => by simp [chD, PyData.eqv, PyData.eqvAll]
  | c :: cs => by simp [chD, PyData.eqv, PyData.eqvAll]
theorem shaped_nil : SeqAt.shaped (.tuple []) = true := shaped_ints []
/-! ### what a row of the law's may hold -/
def flatD : PyData → Bool
  | .int _ => true
  | .bool _ => true
  | .str x => decide (x = "2")
  | _ => false
def okD (k : Nat) (d : PyData) : Prop := d = .none ∨ d = .tuple [] ∨ ∃ es, (d = .tuple es ∨ d = .list es) ∧ es.all flatD = true ∧ k ≤ es.length ∧ es.length ≤ 12
theorem okD.mono {k j : Nat} {d : PyData} (h : okD k d) (l : j ≤ k) : okD j d := by
  rcases h with h | h | ⟨es, h1, h2, h3, h4⟩
  · exact .inl h
  · exact .inr (.inl h)
  · exact .inr (.inr ⟨es, h1, h2, by omega, h4⟩)
theorem lay_flat : ∀ {es : List PyData}, es.all flatD = true → PyData.canLayAll0 es = true
  | [], _ => by simp [PyData.canLayAll0]
  | e :: es, h => by
    rw [List.all_cons, Bool.and_eq_true] at h
    have h2 := lay_flat h.2
    have h1 : e.canLay0 = true := by
      cases e with
      | int i => simp [PyData.canLay0]
      | bool b => simp [PyData.canLay0]
      | str x =>
        have hx : x = "2" := of_decide_eq_true h.1
        subst hx
        simp only [PyData.canLay0]
        decide +kernel
      | _ => cases h.1
    simp only [PyData.canLayAll0, h1, h2, Bool.and_self]
theorem dep_flat : ∀ {es : List PyData}, es.all flatD = true → PyData.depthAll es = 0
  | [], _ => by simp [PyData.depthAll]
  | e :: es, h => by
    rw [List.all_cons, Bool.and_eq_true] at h
    have h2 := dep_flat h.2
    have h1 : e.depth = 0 := by
      cases e with
      | int i => simp [PyData.depth]
      | bool b => simp [PyData.depth]
      | str x => simp [PyData.depth]
      | _ => cases h.1
    simp only [PyData.depthAll, h1, h2]
    rfl
theorem okD.shaped {k : Nat} {d : PyData} (h : okD k d) : SeqAt.shaped d = true := by
  rcases h with rfl | rfl | ⟨es, h1 | h1, h2, _⟩
  · exact shaped_opt none
  · exact shaped_nil
  · rw [h1]
    exact shaped_tup (lay_flat h2) (by rw [dep_flat h2]; decide)
  · rw [h1]
    exact shaped_list (lay_flat h2) (by rw [dep_flat h2]; decide)
/-! ### the greatest group -/
def seenI (ds : List PyData) : List Int := ds.filterMap fun d => (asLog d).map (·.g)
theorem last_go : ∀ (ds : List PyData) (m : Int), (∀ y ∈ seenI ds ++ [m], y ≤ ds.foldl (fun m d => match asLog d with | some l => max m l.g | none => m) m) ∧ (ds.foldl (fun m d => match asLog d with | some l => max m l.g | none => m) m) ∈ seenI ds ++ [m]
  | [], m => by simp [seenI]
  | d :: ds, m => by
    cases e : asLog d with
    | none =>
      have e1 : seenI (d :: ds) = seenI ds := by simp [seenI, e]
      rw [e1, List.foldl_cons, e]
      exact last_go ds m
    | some l =>
      have e1 : seenI (d :: ds) = l.g :: seenI ds := by simp [seenI, e]
      rw [e1, List.foldl_cons, e]
      obtain ⟨h1, h2⟩ := last_go ds (max m l.g)
      have h3 := h1 (max m l.g) (by simp)
      refine ⟨fun y hy => ?_, ?_⟩
      · simp only [List.cons_append, List.mem_cons, List.mem_append, List.not_mem_nil, or_false] at hy
        rcases hy with rfl | hy | rfl
        · exact Int.le_trans (Int.le_max_right _ _) h3
        · exact h1 y (by simp [hy])
        · exact Int.le_trans (Int.le_max_left _ _) h3
      · simp only [List.mem_append, List.mem_cons, List.not_mem_nil, or_false] at h2
        rcases h2 with h2 | h2
        · simp only [List.cons_append, List.mem_cons, List.mem_append]
          exact .inr (.inl h2)
        · show List.foldl _ (max m l.g) ds ∈ _
          rw [h2]
          simp only [List.cons_append, List.mem_cons, List.mem_append, List.not_mem_nil, or_false]
          rcases Int.le_total m l.g with z | z
          · exact .inl (Int.max_eq_right z)
          · exact .inr (.inr (Int.max_eq_left z))
theorem last_max {ds : List PyData} {m : Int} (h1 : m ∈ seenI ds ++ [-1]) (h2 : ∀ y, y ∈ seenI ds ++ [-1] → y ≤ m) : lastI ds = m := by
  obtain ⟨g1, g2⟩ := last_go ds (-1)
  exact Int.le_antisymm (h2 _ g2) (g1 _ h1)
/-! ### what is written on a fresh disk -/
def lvOf (rs : List V) (i : Nat) : List (Int × V) := (List.range i).map fun (j : Nat) => ((2 + (j : Int) : Int), rs.getD j .non)
theorem lv_now (sv : List V) (rs : List V) : ∀ (i j : Nat), j < i → nowV sv (lvOf rs i) (2 + (j : Int)) = rs.getD j .non
  | 0, j, h => by omega
  | i + 1, j, h => by
    have e : lvOf rs (i + 1) = lvOf rs i ++ [((2 + (i : Int) : Int), rs.getD i .non)] := by
      unfold lvOf
      rw [List.range_succ, List.map_append]
      rfl
    unfold nowV
    rw [e, List.foldl_append]
    by_cases hj : j = i
    · subst hj
      simp
    · have ih := lv_now sv rs i j (by omega)
      unfold nowV at ih
      rw [ih]
      show (if (2 + (i : Int)) = 2 + (j : Int) then _ else _) = _
      rw [if_neg (by omega)]
end Pf

set_option Elab.async false
set_option linter.all false
set_option maxRecDepth 100000
set_option maxHeartbeats 8000000
namespace Pf
open PySem PySem.Spec PyProof.Rows L2
abbrev stL (j : Nat) : Stmt := (defBody sLaw).getD j (.Pass ⟨0, 0, 0, 0⟩)
abbrev XL (P : Program) (w : World) (K : PySem.W.Frag) (mg : Str → Option Value) (base : Heap) (f : Addr) (cdv : Value) (A : Around) (outer : List Env) (s : Shared) (H0 : Hp) (E : XK) : Cx :=
  (cxOf CX0 P w K mg base NL "law" (defScope sLaw) f cdv A outer s H0 E).nox
/-- the row of the law's: what stands in it, apart from the drawing and the row itself -/
structure RowSt (K : PySem.W.Frag) (a : Addr) (ns : List Int) (k : Nat) (da r : Addr) (S : Nat) (rs : List V) (ds : List PyData) (H : Hp) : Prop where
  dr : DrawAt K H da a ns
  er : H r = some (.lst rs)
  ne : da ≠ r
  dp : DpAll K (Off [da, r] H) rs ds
  len : ds.length = S
  pos : 0 < S
  le : S ≤ 8
  ok : ∀ d ∈ ds, okD k d
  sc : SqL K (Off [da, r] H) a (ns.map V.int)
section
variable {K : PySem.W.Frag} {a : Addr} {ns : List Int} {k : Nat} {da r : Addr} {S : Nat} {rs : List V} {ds : List PyData} {H H' : Hp}
theorem RowSt.draw (R : RowSt K a ns k da r S rs ds H) (s : But [da] H H') (D : DrawAt K H' da a ns) : RowSt K a ns k da r S rs ds H' :=
  ⟨D, s.at R.er (by simp [R.ne.symm]), R.ne, dps_same (s.off (by simp)) _ _ R.dp, R.len, R.pos, R.le, R.ok, (s.off (by simp)).seq R.sc⟩
theorem RowSt.same (R : RowSt K a ns k da r S rs ds H) (s : Same H H') : RowSt K a ns k da r S rs ds H' := R.draw (.of s) (R.dr.same s)
theorem RowSt.nda (R : RowSt K a ns k da r S rs ds H) : H da ≠ none := by
  obtain ⟨i, e⟩ := R.dr.1
  rw [e]
  simp
theorem RowSt.nr (R : RowSt K a ns k da r S rs ds H) : H r ≠ none := by
  rw [R.er]
  simp
theorem RowSt.rl (R : RowSt K a ns k da r S rs ds H) : rs.length = S := by rw [dps_len R.dp, R.len]
end
/-- a tuple that is read stands where no list stands -/
theorem sqT_off {K : PySem.W.Frag} {H : Hp} {p : Addr} {xs : List V} {cs : List Addr} (h : SqT K H p xs) (n : ∀ c ∈ cs, ∃ l, H c = some (.lst l)) : SqT K (Off cs H) p xs := by
  rcases h with (h | ⟨o, h⟩) | h
  · refine .inl (.inl ?_)
    rw [off_out]
    · exact h
    · intro z
      obtain ⟨l, e⟩ := n p z
      rw [h] at e
      cases e
  · refine .inl (.inr ⟨o, ?_⟩)
    rw [off_out]
    · exact h
    · intro z
      obtain ⟨l, e⟩ := n p z
      rw [h] at e
      cases e
  · exact .inr h
theorem rowD_read {K : PySem.W.Frag} {H : Hp} {v : V} {ns : List Int} (h : Dp K H v (rowD ns)) : ∃ a, v = .ref a ∧ SqT K H a (ns.map V.int) := by
  have h' : Dp K H v (.tuple (ns.map PyData.int)) := h
  cases h' with
  | tup hs ha => exact ⟨_, rfl, dps_inv ha ▸ hs⟩
theorem ixN_nat {n j : Nat} (h : j < n) : ixN n (j : Int) = some j := by
  unfold ixN
  rw [if_pos (by omega), if_pos (by omega)]
  rfl
theorem row_ok {g : Int} {i m : Nat} {c : Ch} (h : c.2.length = 8) : okD 12 (rowD (rowN g i m c)) := by
  refine .inr (.inr ⟨_, .inl rfl, ?_, ?_, ?_⟩)
  · rw [List.all_map]
    exact List.all_eq_true.mpr fun x _ => rfl
  · rw [List.length_map]
    show 12 ≤ c.2.length + 1 + 1 + 1 + 1
    omega
  · rw [List.length_map]
    show c.2.length + 1 + 1 + 1 + 1 ≤ 12
    omega
/-- the law's slots behind its beginning -/
def I5 (K : PySem.W.Frag) (a : Addr) (ns : List Int) (k : Nat) (σ : L2.St) (H : Hp) : Prop :=
  ∃ (da r hd : Addr) (S t t0 : Nat) (g g0 : Int) (rs : List V) (ds : List PyData) (y7 y8 y9 y10 y11 y12 : Option V),
    σ = [some (.ref a), some (.ref da), some (.int S), some (.ref r), some (.int t), some (.int g), some (.ref hd), y7, y8, y9, y10, y11, y12, none, none, none, none, none] ∧ RowSt K a ns k da r S rs ds H ∧
    SqT K (Off [da, r] H) hd [.int 0, .int g0, .int t0] ∧ 0 ≤ g ∧ 0 ≤ g0
section
variable {P : Program} {w : World} {K : PySem.W.Frag} {mg : Str → Option Value} {base : Heap} {C : Addr} {f : Addr} {cdv : Value} {A : Around} {outer : List Env} {s : Shared} {H0 : Hp} {E : XK} {a : Addr} {ns : List Int}
theorem p5 {fP fCh fRows : Addr} {dP dCh dRows : FuncData} (hr : Room 5 (XL P w K mg base f cdv A outer s H0 E).A) (B : LTxt mg)
    (DP : Df P w K mg base 3 "_law_pick" ["draw", "items"] (spPick K) fP dP) (DCh : Df P w K mg base 3 "_law_changes" ["draw", "most"] (spChg K) fCh dCh)
    (DRows : Df P w K mg base 1 "log_rows" ["group", "changes"] (spRows K) fRows dRows) :
    ∃ t, PS (XL P w K mg base f cdv A outer s H0 E) (stL 4) t ∧ ∀ D σ H, I5 K a ns 12 σ H → (∀ σ' H', I5 K a ns 12 σ' H' → D.nx σ' H') → t D σ H := by
  have h1 : Room 1 _ := hr.mono (by decide)
  have h3 : Room 3 _ := hr.mono (by decide)
  have nd := scLaw.nd
  refine ⟨_, ps_for PassesOwn.never rfl (pi_range1 (by rfl) B.range (pa_cons (pe_call DP.G h3 rfl DP.g DP.kp DP.b .nil pass0 (pa_cons (pv 1) (pa_cons (pe_lst (pa_cons pe_int (pa_cons pe_int (pa_cons pe_int pa_nil)))) pa_nil))) pa_nil)) (pg_name (i := 7) nd rfl (.inl rfl))
        (pss_cons (ps_set (i := 8) nd rfl (.inr rfl) (pe_call DCh.G h3 rfl DCh.g DCh.kp DCh.b .nil pass0 (pa_cons (pv 1) (pa_cons (pv 2) pa_nil))))
        (pss_one (ps_if (pt_cmpR (op_neD hr.units) (pv 8) (pe_tup pa_nil) (nomark _))
          (pss_cons (ps_set (i := 9) nd rfl (.inl rfl) (pe_call DRows.G h1 rfl DRows.g DRows.kp DRows.b .nil pass0 (pa_cons (pv 5) (pa_cons (pv 8) pa_nil))))
          (pss_cons (ps_setLc (i := 11) (own := [("at", 10), ("pair", 16)]) (g := gTup K 2 (gCons (gName 10) (gCons (gName 16) gNil))) (tt := tYes) (te := tOp (rCatA K) (tTup (tCons (tVar 5) (tCons (tVar 10) (tCons (tCB (rLenS K) (tCons (tVar 8) tNil)) (tCons (tOp (rIxT K) (tVar 16) (tC (.int 0))) tNil))))) (tOp (rIxT K) (tVar 16) (tC (.int 1))))
              rfl nd rfl rfl (sw_true rfl rfl rfl (by decide +kernel)) (pi_enumT (by rfl) B.enumerate (pa_cons (pv 8) pa_nil)) (blkOk_by (N := NL) (sc := defScope sLaw) (by decide +kernel))
              (fun _ _ _ _ _ => pg_tup rfl (pgs_cons (pg_name (i := 10) nd rfl (.inl rfl)) (pgs_cons (pg_name (i := 16) nd rfl (.inl rfl)) pgs_nil))) (fun _ _ _ _ _ => pts_nil)
              (fun _ _ _ _ _ => pe_op op_catA (pe_tup (pa_cons (pv 5) (pa_cons (pv 10) (pa_cons (pe_callB call_len_seq (by rfl) B.len boot_len (pa_cons (pv 8) pa_nil)) (pa_cons (pe_ix ix_tup (pv 16) pe_int (fun _ _ => rfl)) pa_nil))))) (pe_ix ix_tup (pv 16) pe_int (fun _ _ => rfl))))
          (pss_cons (ps_if (pt_cmpR (op_neD hr.units) (pe_lc (own := [("one", 17)]) (g := gName 17) (tt := tYes) (te := tCB (fun xs H Q => ∃ p ys, xs = [.ref p] ∧ ((SqL K H p ys ∧ ∀ l, H l = none → Q (.ref l) (upd H l (.tup ys))) ∨ (SqT K H p ys ∧ Q (.ref p) H))) (tCons (tVar 17) tNil))
              rfl nd (pi_list (pv 9)) (blkOk_by (N := NL) (sc := defScope sLaw) (by decide +kernel)) (fun _ _ _ _ _ => pg_name (i := 17) nd rfl (.inl rfl)) (fun _ _ _ _ _ => pts_nil) (fun _ _ _ _ _ => pe_callTy call_tuple_of (by rfl) B.tuple boot_tuple (pa_cons (pv 17) pa_nil))) (pv 11) (nomark _)) (pss_one (ps_ret pe_bl)) pss_nil)
          (pss_cons (ps_for PassesOwn.never rfl (pi_enum (by rfl) B.enumerate (pa_cons (pv 11) pa_nil)) (pg_tup rfl (pgs_cons (pg_name (i := 10) nd rfl (.inl rfl)) (pgs_cons (pg_name (i := 12) nd rfl (.inl rfl)) pgs_nil)))
            (pss_one (ps_asg (pv 12) (pg_sub (pv 3) (pe_op op_mod (pe_callTy call_int1 (by rfl) B.int boot_int (pa_cons (pe_op op_add (pv 4) (pv 10)) pa_nil)) (pv 2)) set_list))))
          (pss_one (ps_asg (pe_tup (pa_cons (pe_op op_add (pv 5) pe_int) (pa_cons (pe_op op_add (pv 4) (pe_callB call_len_seq (by rfl) B.len boot_len (pa_cons (pv 8) pa_nil))) pa_nil))) (pg_tup rfl (pgs_cons (pg_name (i := 5) nd rfl (.inr rfl)) (pgs_cons (pg_name (i := 4) nd rfl (.inl rfl)) pgs_nil)))))))))
          pss_nil))), fun D σ H hI nx => ?_⟩
  obtain ⟨da, r, hd, S, t, t0, g, g0, rs, ds, y7, y8, y9, y10, y11, y12, rfl, R, hh, hg, hg0⟩ := hI
  refine ⟨_, rfl, (by show 3 ≤ sizeLine; decide), fun l hl => ?_⟩
  have nld : l ≠ da := fun z => R.nda (z ▸ hl)
  have sl := same_upd (o := .lst [.int 1, .int 3, .int 5]) hl
  refine ⟨da, l, a, ns, _, rfl, R.dr.same sl, upd_same, nld, by simp, fun v Hv hv sv Dv => ?_⟩
  obtain ⟨j, rfl, hj0, hj1⟩ : ∃ j : Int, v = .int j ∧ 0 ≤ j ∧ j ≤ 5 := by
    simp only [List.mem_cons, List.not_mem_nil, or_false] at hv
    rcases hv with rfl | rfl | rfl <;> exact ⟨_, rfl, by decide, by decide⟩
  refine ⟨j, rfl, by omega, by omega, for_range (lo := 0) (n := j.toNat) (fun i σ H' => I5 K a ns 12 σ H') ?_ ?_ (fun σ' H' z => nx σ' H' z)⟩
  · have sB : But [da] H Hv := (But.of sl).trans sv
    exact ⟨da, r, hd, S, t, t0, g, g0, rs, ds, y7, y8, y9, y10, y11, y12, rfl, R.draw sB Dv, same_seqT (sB.off (by simp)) hh, hg, hg0⟩
  clear hh R hg hg0 sv Dv sl nld hl hv
  rintro i0 σ H hi ⟨da, r, hd, S, t, t0, g, g0, rs, ds, y7, y8, y9, y10, y11, y12, rfl, R, hh, hg, hg0⟩
  refine ⟨_, rfl, _, rfl, da, a, ns, S, rfl, R.dr, R.pos, Nat.le_trans R.le (by decide), fun v H1 cs s1 D1 hv hl hl6 hc => ?_⟩
  have R1 := R.draw s1 D1
  have hh1 : SqT K (Off [da, r] H1) hd [.int 0, .int g0, .int t0] := same_seqT (s1.off (by simp)) hh
  have hvO : Dp K (Off [da, r] H1) v (chD cs) := dp_same (new_off (by simp [R.nda, R.nr])) _ _ hv
  have h8 : ∀ c ∈ cs, c.2.length = 8 := fun c z => (hc c z).1
  clear hv s1 hh R
  refine ⟨_, rfl, Nat.zero_le _, fun e he => ?_⟩
  have se := same_upd (o := .tup []) he
  refine ⟨chD cs, .tuple [], dp_same ((off_le).trans se) _ _ hvO, .tup (SqT.of upd_same) .nil, shaped_ch cs, shaped_nil, _, rfl, ?_⟩
  rw [eqv_ch_nil]
  by_cases hcs : cs = []
  · rw [decide_eq_true hcs]
    exact iteF ⟨da, r, hd, S, t, t0, g, g0, rs, ds, _, _, _, _, _, _, rfl, R1.same se, same_seqT (off_same se) hh1, hg, hg0⟩
  · rw [decide_eq_false hcs]
    refine iteT ?_
    refine ⟨_, rfl, _, rfl, g, v, cs, rfl, dp_same ((off_le).trans se) _ _ hvO, h8, by omega, fun H3 p us s3 hp e3 dU => ?_⟩
    have b3 : But [da, r] H1 H3 := (But.of se).trans (.of s3)
    obtain ⟨av, xs, rfl, hav, hxl, hxs⟩ := ch_read hvO
    have hav3 : SqT K H3 av xs := same_seqT b3 hav
    have R3 := (R1.same se).same s3
    refine ⟨_, rfl, av, xs, rfl, hav3, fun Dd hDd => lc_it (walk_enumT (K := K) (a := av) (xs := xs)) (fun i H' => ∃ us, Same H3 H' ∧ H' Dd = some (.lst us) ∧ DpAll K (Off [Dd] H') us (((rowsN g cs.length 0 cs).take i).map rowD))
        ⟨[], same_upd hDd, upd_same, .nil⟩ (fun i H' _ z => same_seqT z.choose_spec.1 hav3) ?_ ?_⟩
    · rintro i x Ha Hb hi ⟨us2, s4, e4, dU4⟩ ⟨T, x0, x1, rfl, nT, rfl, e0, ex⟩
      cases (Option.some.inj e0)
      obtain ⟨d', hd', hp⟩ := dps_get hxs ex
      rw [List.getElem?_map] at hd'
      have hil : i < cs.length := by omega
      rw [List.getElem?_eq_getElem hil] at hd'
      cases (Option.some.inj hd')
      obtain ⟨a1, c1, rfl, q1, q2⟩ := pD_read hp
      have s12 : Same Ha (upd Ha T (.tup [.int (i : Nat), .ref a1])) := same_upd nT
      have s02 := s4.trans s12
      have c8 : cs[i].2.length = 8 := h8 _ (List.getElem_mem hil)
      have q1' := same_seqT (b3.then s02) q1
      have q2' := same_seqT (b3.then s02) q2
      refine ⟨T, _, rfl, SqT.of upd_same, rfl, _, _, rfl, _, _, rfl, rfl, rfl, tyes_go ?_⟩
      refine ⟨_, rfl, _, rfl, _, rfl, av, xs, rfl, .inr (same_seqT s02 hav3), _, rfl, a1, _, 0, _, rfl, rfl, q1', rfl, (by show 4 ≤ sizeLine; decide), fun u hu => ?_⟩
      have s5 := same_upd (o := .tup [.int g, .int (i : Nat), .int (xs.length : Nat), .int cs[i].1]) hu
      refine ⟨_, rfl, a1, _, 1, _, rfl, rfl, same_seqT s5 q1', rfl, u, c1, _, _, rfl, rfl, SqT.of upd_same, same_seqT s5 q2', ?_, fun z => absurd z (by simp), fun _ z => ?_, fun _ _ c hc' => ?_⟩
      · rw [List.length_map, c8]
        show 4 + 8 ≤ sizeLine
        decide
      · rw [List.map_eq_nil_iff] at z
        rw [z] at c8
        cases c8
      · have s6 := same_upd (o := .tup ([V.int g, .int (i : Nat), .int (xs.length : Nat), .int cs[i].1] ++ cs[i].2.map V.int)) hc'
        have s46 := (s12.trans s5).trans s6
        have hcD : c ≠ Dd := fun z => by
          rw [z, s5 _ _ (s12 _ _ e4)] at hc'
          cases hc'
        have hul : us2.length ≤ 1000 := by
          rw [dps_len dU4, List.length_map, List.length_take]
          omega
        refine ⟨us2, s46 _ _ e4, small1000 hul, us2 ++ [.ref c], fun b o z => ?_, upd_same, ?_⟩
        · rw [upd_ne (ne_of_none z hDd)]
          exact s46 _ _ (s4 _ _ z)
        · rw [off_upd (by simp), List.take_add_one, rowsN_get, List.getElem?_eq_getElem hil, List.map_append]
          refine dps_app (dps_same (off_same s46) _ _ dU4) (.cons ?_ .nil)
          refine ints_mk (ns := rowN g (0 + i) cs.length cs[i]) (SqT.of ?_)
          rw [off_out (by simp [hcD]), upd_same]
          have e0i : 0 + i = i := by omega
          rw [e0i, hxl]
          rfl
    · rintro H5 ⟨us2, s5, e5, dU5⟩
      have et : (rowsN g cs.length 0 cs).take xs.length = rowsN g cs.length 0 cs := List.take_of_length_le (by rw [rowsN_len, hxl]; exact Nat.le_refl _)
      rw [et] at dU5
      have R5 := R3.same s5
      have e35 := s5 _ _ e3
      have dU35 : DpAll K (Off [p] H5) us ((rowsN g cs.length 0 cs).map rowD) := dps_same (off_same s5) _ _ dU
      have hul : us.length ≤ 1000 := by rw [dps_len dU, List.length_map, rowsN_len]; omega
      -- if [tuple(one) for one in rows] != due: return False
      refine ⟨_, rfl, p, rfl, ⟨_, SqL.of e35⟩, fun Ee hEe => lc_list (K := K) (a := p) (xs := us) (fun i H' => Same H5 H' ∧ H' Ee = some (.lst (us.take i))) ⟨same_upd hEe, by rw [upd_same]; rfl⟩ (fun i H' _ z => z.1.seq (SqL.of e35)) ?_ ?_⟩
      · rintro i x H' hx ⟨s6, e6⟩
        obtain ⟨d', hd', hp'⟩ := dps_get dU35 hx
        rw [List.getElem?_map] at hd'
        obtain ⟨n', hn'⟩ : ∃ n', d' = rowD n' := by
          cases e : (rowsN g cs.length 0 cs)[i]? with
          | none => rw [e] at hd'; cases hd'
          | some n' => rw [e] at hd'; exact ⟨n', (Option.some.inj hd').symm⟩
        subst hn'
        obtain ⟨q, rfl, hq⟩ := rowD_read hp'
        refine ⟨rfl, tyes_go ?_⟩
        refine ⟨_, rfl, q, _, rfl, .inr ⟨same_seqT ((off_le).trans s6) hq, us.take i, e6, ?_, fun b o z => ?_, ?_⟩⟩
        · rw [List.length_take]
          exact small1000 (by omega)
        · rw [upd_ne (ne_of_none z hEe)]
          exact s6 _ _ z
        · rw [upd_same, List.take_add_one, hx]
          rfl
      · rintro H6 ⟨s6, e6⟩
        rw [List.take_length] at e6
        have e56 := s6 _ _ e5
        have sh : SeqAt.shaped (.list ((rowsN g cs.length 0 cs).map rowD)) = true := shaped_list (lay_rowDs _) (Nat.le_trans (dep_rowDs _) (by decide))
        refine ⟨_, rfl, _, _, .lst (SqL.of e6) (dps_same ((off_le).trans s6) _ _ dU35), .lst (SqL.of e56) (dps_same ((off_le).trans s6) _ _ dU5), sh, sh, _, rfl, ?_⟩
        rw [eqv_self sh]
        refine iteF ?_
        have R6 := R5.same s6
        have lists : ∀ c ∈ [da, r], ∃ l, H6 c = some (.lst l) := by
          obtain ⟨i', ei⟩ := R6.dr.1
          intro c z
          simp only [List.mem_cons, List.not_mem_nil, or_false] at z
          rcases z with rfl | rfl
          · exact ⟨_, ei⟩
          · exact ⟨_, R6.er⟩
        have due : ∀ (i : Nat) (x : V), us2[i]? = some x → ∃ c, cs[i]? = some c ∧ Dp K (Off [da, r] H6) x (rowD (rowN g (0 + i) cs.length c)) := fun i x hx => by
          obtain ⟨d', hd', hp'⟩ := dps_get dU5 hx
          rw [List.getElem?_map, rowsN_get] at hd'
          cases e : cs[i]? with
          | none => rw [e] at hd'; cases hd'
          | some c =>
            rw [e] at hd'
            cases (Option.some.inj hd')
            obtain ⟨q, rfl, hq⟩ := rowD_read hp'
            exact ⟨c, rfl, ints_mk (sqT_off (same_seqT ((off_le).trans s6) hq) lists)⟩
        have nDd : Dd ∉ [da, r] := fun z => by
          have : H3 Dd ≠ none := by
            simp only [List.mem_cons, List.not_mem_nil, or_false] at z
            rcases z with rfl | rfl
            · exact R3.nda
            · exact R3.nr
          exact this hDd
        -- for at, value in enumerate(due): row[int(slot + at) % slots] = value
        refine ⟨_, rfl, Dd, us2, rfl, SqL.of e56, for_it (walk_enum (K := K) (a := Dd) (xs := us2)) (fun i σ H' => ∃ rs ds y10 y12, σ = [some (.ref a), some (.ref da), some (.int S), some (.ref r), some (.int t), some (.int g), some (.ref hd), some (.int (0 + (i0 : Int))), some (.ref av), some (.ref p), y10, some (.ref Dd), y12, none, none, none, none, none] ∧
          RowSt K a ns 12 da r S rs ds H' ∧ But [da, r] H6 H') ⟨rs, ds, _, _, rfl, R6, .of (Same.refl _)⟩ (fun i σ H' _ z => by obtain ⟨_, _, _, _, _, _, z⟩ := z; exact SqL.of (z.at e56 nDd)) ?_ ?_⟩
        · rintro i x σ Ha Hb hi ⟨rs, ds, y10, y12, rfl, Ra, ba⟩ ⟨T, x0, x1, rfl, nT, rfl, e0, ex⟩
          cases (Option.some.inj e0)
          obtain ⟨c, hcc, hpx⟩ := due i x1 ex
          have sT := same_upd (o := .tup [.int (i : Nat), x1]) nT
          have Rb := Ra.same sT
          have em : ((t : Int) + (i : Nat)) % (S : Int) = (((t + i) % S : Nat) : Int) := by norm_cast
          have hjl : (t + i) % S < rs.length := by rw [Ra.rl]; exact Nat.mod_lt _ Ra.pos
          refine ⟨T, _, rfl, SqT.of upd_same, rfl, _, _, rfl, _, _, rfl, rfl, ?_⟩
          refine ⟨_, rfl, _, rfl, _, rfl, _, rfl, _, _, rfl, rfl, .inl ⟨_, rfl, _, rfl, _, _, rfl, rfl, by have := Ra.pos; omega, r, rs, _, (t + i) % S, rfl, rfl, Rb.er, by rw [em]; exact ixN_nat hjl, ?_⟩⟩
          have bb : But [da, r] H6 (upd (upd Ha T (.tup [.int (i : Nat), x1])) r (.lst (rs.set ((t + i) % S) x1))) := fun b o z => by
            have hb : b ∉ [da, r] := fun y => by rw [off_in y] at z; cases z
            rw [upd_ne (fun y => hb (by rw [y]; simp))]
            exact sT _ _ (ba _ _ z)
          have eO : Off [da, r] (upd (upd Ha T (.tup [.int (i : Nat), x1])) r (.lst (rs.set ((t + i) % S) x1))) = Off [da, r] (upd Ha T (.tup [.int (i : Nat), x1])) := off_upd (by simp)
          refine ⟨rs.set ((t + i) % S) x1, ds.set ((t + i) % S) (rowD (rowN g (0 + i) cs.length c)), some (.int (i : Nat)), some x1, rfl, ⟨?_, upd_same, Ra.ne, ?_, by rw [List.length_set]; exact Ra.len, Ra.pos, Ra.le, ?_, by rw [eO]; exact Rb.sc⟩, bb⟩
          · obtain ⟨i', ei⟩ := Rb.dr.1
            refine ⟨⟨i', by rw [upd_ne Ra.ne]; exact ei⟩, ?_, Ra.dr.2.2⟩
            refine Same.seq (off_more (cs := [da, r]) (ds := [da]) (by simp)) ?_
            rw [eO]
            exact Rb.sc
          · rw [eO]
            refine dps_set _ Rb.dp ?_
            refine dp_same ?_ _ _ hpx
            have := bb.off (ds := [da, r]) (fun c z => z)
            rw [eO] at this
            exact this
          · intro d hd
            rcases List.mem_or_eq_of_mem_set hd with hd | rfl
            · exact Ra.ok d hd
            · exact row_ok (h8 c (List.mem_of_getElem? hcc))
        · rintro σ H7 ⟨rs, ds, y10, y12, rfl, R7, b7⟩
          have hav7 : SqT K H7 av xs := by
            have : SqT K (Off [da, r] H6) av xs := sqT_off (same_seqT (s5.trans s6) hav3) lists
            exact same_seqT b7 this
          refine ⟨_, rfl, _, _, rfl, rfl, _, rfl, _, rfl, av, xs, rfl, .inr hav7, _, _, rfl, rfl, (by show 2 ≤ sizeLine; decide), fun tp htp => ?_⟩
          have stp := same_upd (o := .tup [.int (g + 1), .int ((t : Int) + (xs.length : Nat))]) htp
          refine ⟨tp, _, rfl, SqT.of upd_same, rfl, _, _, rfl, _, _, rfl, rfl, ?_⟩
          have et' : (t : Int) + (xs.length : Nat) = ((t + cs.length : Nat) : Int) := by omega
          have b17 : But [da, r] H1 H6 := (b3.then s5).then s6
          have hh7 : SqT K (Off [da, r] H7) hd [.int 0, .int g0, .int t0] := same_seqT ((b17.off (fun c z => z)).trans (b7.off (fun c z => z))) hh1
          exact ⟨da, r, hd, S, t + cs.length, t0, g + 1, g0, rs, ds, _, _, _, _, _, _, by rw [← et']; rfl, R7.same stp, same_seqT (off_same stp) hh7, by omega, hg0⟩
end
end Pf

set_option Elab.async false
set_option linter.all false
set_option maxRecDepth 100000
set_option maxHeartbeats 8000000
namespace Pf
open PySem PySem.Spec PyProof.Rows L2
abbrev body6 : List Stmt := match stL 5 with
  | .For _ _ b _ _ => b
  | _ => []
theorem off_add {cs : List Addr} {H1 H2 : Hp} {v : Addr} (s : Same (Off cs H1) H2) (h : H1 v = none) : Same (Off cs H1) (Off (v :: cs) H2) := fun b o e => by
  have hb : b ∉ cs := fun y => by rw [off_in y] at e; cases e
  have e2 := e
  rw [off_out hb] at e2
  rw [off_out]
  · exact s _ _ e
  · intro z
    rcases List.mem_cons.mp z with z | z
    · rw [z, h] at e2; cases e2
    · exact hb z
theorem flat_dp {K : PySem.W.Frag} {H H' : Hp} {v : V} {d : PyData} (f : flatD d = true) (h : Dp K H v d) : Dp K H' v d := by
  cases h with
  | int i => exact .int i
  | bl b => exact .bl b
  | str x => exact .str x
  | non => cases f
  | lst _ _ => cases f
  | tup _ _ => cases f
theorem flat_dps {K : PySem.W.Frag} {H H' : Hp} : ∀ {vs : List V} {es : List PyData}, es.all flatD = true → DpAll K H vs es → DpAll K H' vs es
  | [], _, _, h => by cases h; exact .nil
  | v :: vs, _, f, h => by
    cases h with
    | cons h1 h2 =>
      rw [List.all_cons, Bool.and_eq_true] at f
      exact .cons (flat_dp f.1 h1) (flat_dps f.2 h2)
theorem flat_set {es : List PyData} {d : PyData} (h : es.all flatD = true) (f : flatD d = true) (i : Nat) : (es.set i d).all flatD = true := by
  rw [List.all_eq_true] at h ⊢
  intro x hx
  rcases List.mem_or_eq_of_mem_set hx with hx | rfl
  · exact h x hx
  · exact f
/-- ahead of value[..] = .. in the law's second loop -/
def I6 (K : PySem.W.Frag) (a : Addr) (ns : List Int) (k : Nat) (σ : L2.St) (H : Hp) : Prop :=
  ∃ (da r hd vl : Addr) (S t t0 j : Nat) (g g0 : Int) (rs ws : List V) (ds es : List PyData) (y7 y8 y9 y11 : Option V),
    σ = [some (.ref a), some (.ref da), some (.int S), some (.ref r), some (.int t), some (.int g), some (.ref hd), y7, y8, y9, some (.int (j : Int)), y11, some (.ref vl), none, none, none, none, none] ∧ RowSt K a ns (k + 1) da r S rs ds H ∧ j < S ∧
    H vl = some (.lst ws) ∧ vl ≠ da ∧ vl ≠ r ∧ DpAll K H ws es ∧ es.all flatD = true ∧ k + 1 ≤ es.length ∧ es.length ≤ 12 ∧
    DpAll K (Off [vl, da, r] H) rs ds ∧ SqL K (Off [vl, da, r] H) a (ns.map V.int) ∧ SqT K (Off [vl, da, r] H) hd [.int 0, .int g0, .int t0] ∧ 0 ≤ g ∧ 0 ≤ g0
section
variable {P : Program} {w : World} {K : PySem.W.Frag} {mg : Str → Option Value} {base : Heap} {C : Addr} {f : Addr} {cdv : Value} {A : Around} {outer : List Env} {s : Shared} {H0 : Hp} {E : XK} {a : Addr} {ns : List Int}
theorem p6cd {fP fT : Addr} {dP dT : FuncData} (hr : Room 5 (XL P w K mg base f cdv A outer s H0 E).A) (B : LTxt mg)
    (DP : Df P w K mg base 3 "_law_pick" ["draw", "items"] (spPick K) fP dP) (DT : Df P w K mg base 2 "_law_take" ["draw", "many"] (spTake K) fT dT) :
    ∃ t, PSs (XL P w K mg base f cdv A outer s H0 E) (body6.drop 2) t ∧ ∀ (k : Nat) D σ H, 6 ≤ k → I6 K a ns k σ H → (∀ σ' H', I5 K a ns k σ' H' → D.nx σ' H') → t D σ H := by
  have h2 : Room 2 _ := hr.mono (by decide)
  have h3 : Room 3 _ := hr.mono (by decide)
  have nd := scLaw.nd
  refine ⟨_, pss_cons (ps_asg (pe_call DP.G h3 rfl DP.g DP.kp DP.b .nil pass0 (pa_cons (pv 1) (pa_cons (pe_lst (pa_cons pe_int (pa_cons pe_int (pa_cons pe_int (pa_cons pe_int (pa_cons (pe_un un_neg pe_int) (pa_cons (pe_un un_neg pe_int) (pa_cons pe_bl (pa_cons pe_str pa_nil))))))))) pa_nil)))
      (pg_sub (pv 12) (pe_call DT.G h2 rfl DT.g DT.kp DT.b .nil pass0 (pa_cons (pv 1) (pa_cons pe_int pa_nil))) set_list))
    (pss_one (ps_asg (pe_call DP.G h3 rfl DP.g DP.kp DP.b .nil pass0 (pa_cons (pv 1) (pa_cons (pe_lst (pa_cons (pe_callTy call_tuple_of (by rfl) B.tuple boot_tuple (pa_cons (pv 12) pa_nil)) (pa_cons (pe_callTy call_tuple_of (by rfl) B.tuple boot_tuple (pa_cons (pv 12) pa_nil))
        (pa_cons pe_non (pa_cons (pe_tup pa_nil) (pa_cons (pe_callTy call_tuple_of (by rfl) B.tuple boot_tuple (pa_cons (pe_slice sl_list (pv 12) (po_some pe_int) po_none) pa_nil)) (pa_cons (pv 12) pa_nil))))))) pa_nil)))
      (pg_sub (pv 3) (pv 10) set_list))), fun k D σ H hk hI nx => ?_⟩
  obtain ⟨da, r, hd, vl, S, t, t0, j, g, g0, rs, ws, ds, es, y7, y8, y9, y11, rfl, R, hj, ev, nvd, nvr, dw, fl, l1, l2, dr, scr, hh, hg, hg0⟩ := hI
  refine ⟨_, rfl, 1, rfl, 1, rfl, (by show 8 ≤ sizeLine; decide), fun l hl => ?_⟩
  have sl := same_upd (o := .lst [.int 0, .int 1, .int 2, .int 3, .int (-1), .int (-1), .bl true, .str "2"]) hl
  have nld : l ≠ da := fun z => R.nda (z ▸ hl)
  refine ⟨da, l, a, ns, _, rfl, R.dr.same sl, upd_same, nld, by simp, fun v H2 hv s2 D2 => ?_⟩
  obtain ⟨d', hd', fd'⟩ : ∃ d', Dp K H v d' ∧ flatD d' = true := by
    simp only [List.mem_cons, List.not_mem_nil, or_false] at hv
    rcases hv with rfl | rfl | rfl | rfl | rfl | rfl | rfl | rfl
    · exact ⟨_, .int _, rfl⟩
    · exact ⟨_, .int _, rfl⟩
    · exact ⟨_, .int _, rfl⟩
    · exact ⟨_, .int _, rfl⟩
    · exact ⟨_, .int _, rfl⟩
    · exact ⟨_, .int _, rfl⟩
    · exact ⟨_, .bl _, rfl⟩
    · exact ⟨_, .str _, by decide +kernel⟩
  refine ⟨_, rfl, _, rfl, da, a, ns, 4, rfl, D2, by decide, fun q H3 q0 q1 s3 D3 => ?_⟩
  have b3 : But [da] H H3 := (But.of sl).trans (s2.trans s3)
  have hwl : ws.length = es.length := dps_len dw
  have hq : q.toNat < ws.length := by omega
  have eq : ((q.toNat : Nat) : Int) = q := by omega
  have ev3 : H3 vl = some (.lst ws) := b3.at ev (by simp [nvd])
  refine ⟨vl, ws, q, q.toNat, rfl, rfl, ev3, by rw [← eq]; exact ixN_nat hq, ?_⟩
  -- what stands apart from value, draw and row
  have bO : Same (Off [vl, da, r] H) (Off [vl, da, r] (upd H3 vl (.lst (ws.set q.toNat v)))) := by
    rw [off_upd (by simp)]
    exact b3.off (by simp)
  generalize hW : ws.set q.toNat v = W at *
  have fW : (es.set q.toNat d').all flatD = true := flat_set fl fd' _
  have dW : ∀ H', DpAll K H' W (es.set q.toNat d') := fun H' => by
    rw [← hW]
    exact dps_set _ (flat_dps fl dw) (flat_dp fd' hd')
  have lW : (es.set q.toNat d').length = es.length := List.length_set
  generalize hE : es.set q.toNat d' = Es at *
  have hWl : W.length = Es.length := dps_len (dW H)
  have er4 : (upd H3 vl (.lst W)) r = some (.lst rs) := by
    rw [upd_ne nvr.symm]
    exact b3.at R.er (by simp [R.ne.symm])
  have D4 : DrawAt K (upd H3 vl (.lst W)) da a ns := by
    obtain ⟨i', ei⟩ := D3.1
    exact ⟨⟨i', by rw [upd_ne nvd.symm]; exact ei⟩, Same.seq (off_more (cs := [vl, da, r]) (ds := [da]) (by simp)) (bO.seq scr), R.dr.2.2⟩
  generalize hH4 : upd H3 vl (.lst W) = H4 at *
  have ev4 : H4 vl = some (.lst W) := by rw [← hH4, upd_same]
  -- row[at] = ..
  refine ⟨_, rfl, _, rfl, vl, W, rfl, .inl ⟨SqL.of ev4, fun t1 ht1 => ?_⟩⟩
  have s5 := same_upd (o := .tup W) ht1
  refine ⟨_, rfl, vl, W, rfl, .inl ⟨SqL.of (s5 _ _ ev4), fun t2 ht2 => ?_⟩⟩
  have s6 := same_upd (o := .tup W) ht2
  refine ⟨Nat.zero_le _, fun e he => ?_⟩
  have s7 := same_upd (o := .tup []) he
  refine ⟨_, rfl, 1, rfl, vl, W, rfl, SqL.of (s7 _ _ (s6 _ _ (s5 _ _ ev4))), fun p hp => ?_⟩
  have ec : cutV W (some (1 : Int)) none = W.drop 1 := cut_from W 1
  rw [ec]
  have s8 := same_upd (o := .lst (W.drop 1)) hp
  refine ⟨p, _, rfl, .inl ⟨SqL.of upd_same, fun t3 ht3 => ?_⟩⟩
  have s9 := same_upd (o := .tup (W.drop 1)) ht3
  refine ⟨_, rfl, (by show 6 ≤ sizeLine; decide), fun l' hl' => ?_⟩
  have s10 := same_upd (o := .lst [.ref t1, .ref t2, .non, .ref e, .ref t3, .ref vl]) hl'
  have s410 := ((((s5.trans s6).trans s7).trans s8).trans s9).trans s10
  have nld' : l' ≠ da := fun z => by
    obtain ⟨i', ei⟩ := D4.1
    rw [z, s9 _ _ (s8 _ _ (s7 _ _ (s6 _ _ (s5 _ _ ei))))] at hl'
    cases hl'
  refine ⟨da, l', a, ns, _, rfl, D4.same s410, upd_same, nld', by simp, fun x H5 hx s11 D5 => ?_⟩
  have b5 : But [da] H4 H5 := (But.of s410).trans s11
  have er5 : H5 r = some (.lst rs) := b5.at er4 (by simp [R.ne.symm])
  refine ⟨_, rfl, _, rfl, r, rs, _, j, rfl, rfl, er5, ixN_nat (by rw [R.rl]; exact hj), ?_⟩
  have eO : Off [da, r] (upd H5 r (.lst (rs.set j x))) = Off [da, r] H5 := off_upd (by simp)
  have sOO : Same (Off [vl, da, r] H) (Off [da, r] H5) := by
    refine bO.trans ?_
    refine (b5.off (ds := [vl, da, r]) (by simp)).trans (off_more fun c z => .inl (List.mem_cons_of_mem _ z))
  have lists : ∀ c ∈ [da, r], ∃ l, H5 c = some (.lst l) := by
    obtain ⟨i', ei⟩ := D5.1
    intro c z
    simp only [List.mem_cons, List.not_mem_nil, or_false] at z
    rcases z with rfl | rfl
    · exact ⟨_, ei⟩
    · exact ⟨_, er5⟩
  have tup5 : ∀ {q : Addr} {us : List V}, q ≠ da → H5 q = some (HO.tup us) → SqT K (Off [da, r] H5) q us := fun y z => sqT_off (SqT.of z) lists
  obtain ⟨i4, e4⟩ := D4.1
  have up : ∀ {q : Addr} {o : HO} {Ha : Hp}, Ha q = none → Ha da = some (.lst [.ref a, .int i4]) → q ≠ da := fun h h' z => by
    rw [z, h'] at h
    cases h
  have nt1 : t1 ≠ da := up (o := .tup []) ht1 e4
  have nt2 : t2 ≠ da := up (o := .tup []) ht2 (s5 _ _ e4)
  have ne' : e ≠ da := up (o := .tup []) he (s6 _ _ (s5 _ _ e4))
  have nt3 : t3 ≠ da := up (o := .tup []) ht3 (s8 _ _ (s7 _ _ (s6 _ _ (s5 _ _ e4))))
  have okW : okD k (.tuple Es) ∧ okD k (.list Es) ∧ okD k (.tuple (Es.drop 1)) := by
    refine ⟨.inr (.inr ⟨_, .inl rfl, fW, by omega, by omega⟩), .inr (.inr ⟨_, .inr rfl, fW, by omega, by omega⟩), .inr (.inr ⟨_, .inl rfl, ?_, ?_, ?_⟩)⟩
    · rw [List.all_eq_true] at fW ⊢
      exact fun x hx => fW x (List.mem_of_mem_drop hx)
    · rw [List.length_drop]; omega
    · rw [List.length_drop]; omega
  obtain ⟨dx, hdx, okx⟩ : ∃ dx, Dp K (Off [da, r] H5) x dx ∧ okD k dx := by
    simp only [List.mem_cons, List.not_mem_nil, or_false] at hx
    rcases hx with rfl | rfl | rfl | rfl | rfl | rfl
    · refine ⟨_, .tup (tup5 nt1 (s11.at (s10 _ _ (s9 _ _ (s8 _ _ (s7 _ _ (s6 _ _ upd_same))))) (by simp [nt1]))) (dW _), okW.1⟩
    · refine ⟨_, .tup (tup5 nt2 (s11.at (s10 _ _ (s9 _ _ (s8 _ _ (s7 _ _ upd_same)))) (by simp [nt2]))) (dW _), okW.1⟩
    · exact ⟨_, .non, .inl rfl⟩
    · exact ⟨_, .tup (tup5 ne' (s11.at (s10 _ _ (s9 _ _ (s8 _ _ upd_same))) (by simp [ne']))) .nil, .inr (.inl rfl)⟩
    · exact ⟨_, .tup (tup5 nt3 (s11.at (s10 _ _ upd_same) (by simp [nt3]))) (dps_drop 1 (dW _)), okW.2.2⟩
    · refine ⟨_, .lst (SqL.of ?_) (dW _), okW.2.1⟩
      rw [off_out (by simp [nvd, nvr])]
      exact b5.at ev4 (by simp [nvd])
  refine nx _ _ ⟨da, r, hd, S, t, t0, g, g0, rs.set j x, ds.set j dx, y7, y8, y9, _, y11, _, rfl, ⟨?_, upd_same, R.ne, ?_, by rw [List.length_set]; exact R.len, R.pos, R.le, ?_, by rw [eO]; exact sOO.seq scr⟩, by rw [eO]; exact same_seqT sOO hh, hg, hg0⟩
  · obtain ⟨i', ei⟩ := D5.1
    exact ⟨⟨i', by rw [upd_ne R.ne]; exact ei⟩, Same.seq (off_more (cs := [da, r]) (ds := [da]) (by simp)) (by rw [eO]; exact sOO.seq scr), R.dr.2.2⟩
  · rw [eO]
    exact dps_set _ (dps_same sOO _ _ dr) hdx
  · intro d hd
    rcases List.mem_or_eq_of_mem_set hd with hd | rfl
    · exact (R.ok d hd).mono (by omega)
    · exact okx
theorem p6 {fP fT : Addr} {dP dT : FuncData} (hr : Room 5 (XL P w K mg base f cdv A outer s H0 E).A) (B : LTxt mg)
    (DP : Df P w K mg base 3 "_law_pick" ["draw", "items"] (spPick K) fP dP) (DT : Df P w K mg base 2 "_law_take" ["draw", "many"] (spTake K) fT dT) :
    ∃ t, PS (XL P w K mg base f cdv A outer s H0 E) (stL 5) t ∧ ∀ D σ H, I5 K a ns 12 σ H → (∀ σ' H', I5 K a ns 0 σ' H' → D.nx σ' H') → t D σ H := by
  have h2 : Room 2 _ := hr.mono (by decide)
  have h3 : Room 3 _ := hr.mono (by decide)
  have nd := scLaw.nd
  obtain ⟨tcd, pcd, qcd⟩ := p6cd (a := a) (ns := ns) hr B DP DT
  refine ⟨_, ps_for PassesOwn.never rfl (pi_range1 (by rfl) B.range (pa_cons (pe_call DP.G h3 rfl DP.g DP.kp DP.b .nil pass0 (pa_cons (pv 1) (pa_cons (pe_lst (pa_cons pe_int (pa_cons pe_int (pa_cons pe_int (pa_cons pe_int pa_nil))))) pa_nil))) pa_nil)) (pg_name (i := 7) nd rfl (.inl rfl))
      (pss_cons (ps_set (i := 10) nd rfl (.inl rfl) (pe_call DT.G h2 rfl DT.g DT.kp DT.b .nil pass0 (pa_cons (pv 1) (pa_cons (pv 2) pa_nil))))
      (pss_cons (ps_set (i := 12) nd rfl (.inl rfl) (pe_ifExp (PW.pt (pw_and (pt_cmpR (op_neD hr.units) (pe_ix ix_list (pv 3) (pv 10) (fun _ _ => rfl)) (pe_tup pa_nil) (nomark _)) (pw_and1 (pt_cmpR op_notN (pe_ix ix_list (pv 3) (pv 10) (fun _ _ => rfl)) pe_non (nomark _)))))
          (pe_callTy call_list_of (by rfl) B.list boot_list (pa_cons (pe_ix ix_list (pv 3) (pv 10) (fun _ _ => rfl)) pa_nil)) (pe_op op_rep (pe_lst (pa_cons pe_int pa_nil)) pe_int)))
      pcd)), fun D σ H hI nx => ?_⟩
  obtain ⟨da, r, hd, S, t, t0, g, g0, rs, ds, y7, y8, y9, y10, y11, y12, rfl, R, hh, hg, hg0⟩ := hI
  refine ⟨_, rfl, (by show 4 ≤ sizeLine; decide), fun l hl => ?_⟩
  have nld : l ≠ da := fun z => R.nda (z ▸ hl)
  have sl := same_upd (o := .lst [.int 0, .int 1, .int 3, .int 5]) hl
  refine ⟨da, l, a, ns, _, rfl, R.dr.same sl, upd_same, nld, by simp, fun v Hv hv sv Dv => ?_⟩
  obtain ⟨j, rfl, hj0, hj1⟩ : ∃ j : Int, v = .int j ∧ 0 ≤ j ∧ j ≤ 5 := by
    simp only [List.mem_cons, List.not_mem_nil, or_false] at hv
    rcases hv with rfl | rfl | rfl | rfl <;> exact ⟨_, rfl, by decide, by decide⟩
  refine ⟨j, rfl, by omega, by omega, for_range (lo := 0) (n := j.toNat) (fun i σ H' => I5 K a ns (12 - i) σ H') ?_ ?_ (fun σ' H' z => nx σ' H' ?_)⟩
  · have sB : But [da] H Hv := (But.of sl).trans sv
    exact ⟨da, r, hd, S, t, t0, g, g0, rs, ds, y7, y8, y9, y10, y11, y12, rfl, R.draw sB Dv, same_seqT (sB.off (by simp)) hh, hg, hg0⟩
  · clear hh R hg hg0 sv Dv sl nld hl hv
    rintro i σ H hi ⟨da, r, hd, S, t, t0, g, g0, rs, ds, y7, y8, y9, y10, y11, y12, rfl, R, hh, hg, hg0⟩
    have hi5 : i < 5 := by omega
    have hpos := R.pos
    refine ⟨_, rfl, _, rfl, da, a, ns, S, rfl, R.dr, by omega, fun q H1 q0 q1 s1 D1 => ?_⟩
    have R1 := R.draw s1 D1
    have hh1 : SqT K (Off [da, r] H1) hd [.int 0, .int g0, .int t0] := same_seqT (s1.off (by simp)) hh
    have hqS : q.toNat < S := by omega
    obtain ⟨qn, rfl⟩ : ∃ qn : Nat, q = (qn : Int) := ⟨q.toNat, by omega⟩
    have hqn : qn < S := by omega
    have hql : qn < rs.length := by rw [R1.rl]; exact hqn
    have hat : atI rs (qn : Int) = some rs[qn] := atI_nat (List.getElem?_eq_getElem hql)
    obtain ⟨d, hd', hdp⟩ := dps_get R1.dp (List.getElem?_eq_getElem hql)
    have hokd := R1.ok d (List.mem_of_getElem? hd')
    refine ⟨_, rfl, _, rfl, r, rs, _, _, rfl, rfl, SqL.of R1.er, hat, Nat.zero_le _, fun e he => ?_⟩
    have se := same_upd (o := .tup []) he
    refine ⟨d, .tuple [], dp_same ((off_le).trans se) _ _ hdp, .tup (SqT.of upd_same) .nil, hokd.shaped, shaped_nil, _, rfl, ?_⟩
    have R2 := R1.same se
    have bdy : 12 - (i + 1) + 1 = 12 - i := by omega
    -- what stands at value, then
    have rest : ∀ H2 vl ws es, Same H1 H2 → H1 vl = none → H2 vl = some (.lst ws) → DpAll K H2 ws es → es.all flatD = true → 12 - i ≤ es.length → es.length ≤ 12 →
        tcd { nx := fun σ' H' => I5 K a ns (12 - (i + 1)) σ' H', rt := D.rt, bk := D.nx, ct := fun σ' H' => I5 K a ns (12 - (i + 1)) σ' H' }
          [some (.ref a), some (.ref da), some (.int S), some (.ref r), some (.int t), some (.int g), some (.ref hd), some (.int (0 + (i : Int))), y8, y9, some (.int (qn : Int)), y11, some (.ref vl), none, none, none, none, none] H2 := by
      intro H2 vl ws es s2 hv ev dw fl l1 l2
      refine qcd (12 - (i + 1)) _ _ _ (by omega) ⟨da, r, hd, vl, S, t, t0, qn, g, g0, rs, ws, ds, es, _, y8, y9, y11, rfl, by rw [bdy]; exact R1.same s2, hqn, ev, fun z => R1.nda (z ▸ hv), fun z => R1.nr (z ▸ hv), dw, fl, by omega, l2,
        dps_same (off_add ((off_le).trans s2) hv) _ _ R1.dp, (off_add ((off_le).trans s2) hv).seq R1.sc, same_seqT (off_add ((off_le).trans s2) hv) hh1, hg, hg0⟩ (fun σ' H' z => z)
    -- the other way: [0] * 12
    have noughts : ∀ z : List V, z = [.int 0] → (List.replicate (12 : Int).toNat z).flatten = (List.replicate 12 (0 : Int)).map V.int := fun z hz => by rw [hz]; rfl
    have other : ∀ p, (upd H1 e (.tup [])) p = none → ∀ p2, (upd (upd H1 e (.tup [])) p (.lst [.int 0])) p2 = none →
        tcd { nx := fun σ' H' => I5 K a ns (12 - (i + 1)) σ' H', rt := D.rt, bk := D.nx, ct := fun σ' H' => I5 K a ns (12 - (i + 1)) σ' H' }
          [some (.ref a), some (.ref da), some (.int S), some (.ref r), some (.int t), some (.int g), some (.ref hd), some (.int (0 + (i : Int))), y8, y9, some (.int (qn : Int)), y11, some (.ref p2), none, none, none, none, none]
          (upd (upd (upd H1 e (.tup [])) p (.lst [.int 0])) p2 (.lst (List.replicate (12 : Int).toNat [V.int 0]).flatten)) := fun p hp p2 hp2 => by
      have sp := same_upd (o := .lst [.int 0]) hp
      have sp2 := same_upd (o := .lst (List.replicate (12 : Int).toNat [V.int 0]).flatten) hp2
      refine rest _ p2 _ ((List.replicate 12 (0 : Int)).map PyData.int) ((se.trans sp).trans sp2) ((se.trans sp).free hp2) upd_same ?_ ?_ ?_ ?_
      · rw [noughts _ rfl]
        exact dps_ints _
      · decide
      · simp
      · simp
    have er2 := se _ _ R1.er
    rcases hokd with rfl | rfl | ⟨es, hes, fl, l1, l2⟩
    · have e0 : PyData.eqv .none (.tuple []) = false := by simp [PyData.eqv]
      rw [e0]
      have en : rs[qn] = .non := by
        generalize rs[qn] = z at hdp
        cases hdp
        rfl
      refine iteT ⟨_, rfl, _, rfl, r, rs, _, _, rfl, rfl, SqL.of er2, hat, rfl, _, rfl, ?_⟩
      rw [en]
      exact iteF ⟨(by show 1 ≤ sizeLine; decide), fun p hp => ⟨p, 12, [.int 0], rfl, rfl, upd_same, by decide, by decide, (by show 1 * 12 ≤ sizeLine; decide), fun p2 hp2 => other p hp p2 hp2⟩⟩
    · have e0 : PyData.eqv (.tuple []) (.tuple []) = true := by simp [PyData.eqv, PyData.eqvAll]
      rw [e0]
      exact iteF (iteF ⟨(by show 1 ≤ sizeLine; decide), fun p hp => ⟨p, 12, [.int 0], rfl, rfl, upd_same, by decide, by decide, (by show 1 * 12 ≤ sizeLine; decide), fun p2 hp2 => other p hp p2 hp2⟩⟩)
    · obtain ⟨x0, xr, ees⟩ : ∃ x0 xr, es = x0 :: xr := by
        cases es with
        | nil => simp at l1; omega
        | cons x0 xr => exact ⟨x0, xr, rfl⟩
      have e0 : PyData.eqv d (.tuple []) = false := by
        rcases hes with rfl | rfl <;> rw [ees] <;> simp [PyData.eqv, PyData.eqvAll]
      rw [e0]
      obtain ⟨pv', ys, erq, hsq, hys⟩ : ∃ p ys, rs[qn] = .ref p ∧ (SqL K (Off [da, r] H1) p ys ∨ SqT K (Off [da, r] H1) p ys) ∧ DpAll K (Off [da, r] H1) ys es := by
        generalize rs[qn] = z at hdp
        rcases hes with rfl | rfl
        · cases hdp with
          | tup hs ha => exact ⟨_, _, rfl, .inr hs, ha⟩
        · cases hdp with
          | lst hs ha => exact ⟨_, _, rfl, .inl hs, ha⟩
      refine iteT ⟨_, rfl, _, rfl, r, rs, _, _, rfl, rfl, SqL.of er2, hat, rfl, _, rfl, ?_⟩
      have hsq2 : SqL K (upd H1 e (.tup [])) pv' ys ∨ SqT K (upd H1 e (.tup [])) pv' ys := by
        rcases hsq with z | z
        · exact .inl (((off_le).trans se).seq z)
        · exact .inr (same_seqT ((off_le).trans se) z)
      have hnn : (!decide (rs[qn] = V.non)) = true := by
        rw [erq]
        rfl
      rw [hnn]
      refine iteT ⟨_, rfl, _, rfl, r, rs, _, _, rfl, rfl, SqL.of er2, hat, pv', ys, by rw [erq], hsq2, fun l hl => ?_⟩
      have sl := same_upd (o := .lst ys) hl
      exact rest _ l ys es (se.trans sl) (se.free hl) upd_same (dps_same ((off_le).trans (se.trans sl)) _ _ hys) fl l1 l2
  · obtain ⟨da, r, hd, S, t, t0, g, g0, rs, ds, y7, y8, y9, y10, y11, y12, rfl, R, hh, hg, hg0⟩ := z
    exact ⟨da, r, hd, S, t, t0, g, g0, rs, ds, y7, y8, y9, y10, y11, y12, rfl, ⟨R.dr, R.er, R.ne, R.dp, R.len, R.pos, R.le, fun d hd => (R.ok d hd).mono (Nat.zero_le _), R.sc⟩, hh, hg, hg0⟩
end
end Pf

set_option Elab.async false
set_option linter.all false
set_option maxRecDepth 100000
set_option maxHeartbeats 8000000
namespace Pf
open PySem PySem.Spec PyProof.Rows L2
/-- the disk is made; i plates of the row are written -/
def I7 (K : PySem.W.Frag) (C a : Addr) (ns : List Int) (da r hd d : Addr) (S t t0 : Nat) (g g0 : Int) (rs : List V) (ds : List PyData) (sv : List V) (y7 y8 y9 y11 : Option V) (i : Nat) (σ : L2.St) (H : Hp) : Prop :=
  ∃ (y10 y12 : Option V), σ = [some (.ref a), some (.ref da), some (.int S), some (.ref r), some (.int t), some (.int g), some (.ref hd), y7, y8, y9, y10, y11, y12, some (.ref d), none, none, none, none] ∧
    DrawAt K H da a ns ∧ H r = some (.lst rs) ∧ r ≠ da ∧ r ≠ d ∧ d ≠ da ∧ DpAll K (Off [d, da] H) rs ds ∧ ds.length = S ∧ 0 < S ∧ S ≤ 8 ∧ SqT K (Off [d, da] H) hd [.int 0, .int g0, .int t0] ∧ SqL K (Off [d, da] H) a (ns.map V.int) ∧
    DiskAt C H d (2 + (S : Int)) sv (lvOf rs i) ∧ 0 ≤ g ∧ 0 ≤ g0
def I8 (K : PySem.W.Frag) (C a : Addr) (ns : List Int) (σ : L2.St) (H : Hp) : Prop :=
  ∃ da r hd d S t t0 g g0 rs ds sv y7 y8 y9 y11, I7 K C a ns da r hd d S t t0 g g0 rs ds sv y7 y8 y9 y11 S σ H
section
variable {P : Program} {w : World} {K : PySem.W.Frag} {mg : Str → Option Value} {base : Heap} {C : Addr} {f : Addr} {cdv : Value} {A : Around} {outer : List Env} {s : Shared} {H0 : Hp} {E : XK} {a : Addr} {ns : List Int}
theorem p0 {fP fT : Addr} {dP dT : FuncData} (hr : Room 5 (XL P w K mg base f cdv A outer s H0 E).A)
    (DP : Df P w K mg base 3 "_law_pick" ["draw", "items"] (spPick K) fP dP) (DT : Df P w K mg base 2 "_law_take" ["draw", "many"] (spTake K) fT dT)
    (rest : List Stmt) (u : TS) (hu : PSs (XL P w K mg base f cdv A outer s H0 E) rest u) :
    ∃ t, PSs (XL P w K mg base f cdv A outer s H0 E) (stL 0 :: stL 1 :: stL 2 :: stL 3 :: rest) t ∧
      ∀ D H, SqL K H a (ns.map V.int) → ns.length ≤ 63 → (∀ σ' H', I5 K a ns 12 σ' H' → u D σ' H') → t D (L2.start NL [.ref a]) H := by
  have h2 : Room 2 _ := hr.mono (by decide)
  have h3 : Room 3 _ := hr.mono (by decide)
  have nd := scLaw.nd
  refine ⟨_, pss_cons (ps_set (i := 1) nd rfl (.inl rfl) (pe_lst (pa_cons (pv 0) (pa_cons pe_int pa_nil))))
      (pss_cons (ps_set (i := 2) nd rfl (.inr rfl) (pe_call DP.G h3 rfl DP.g DP.kp DP.b .nil pass0 (pa_cons (pv 1) (pa_cons (pe_lst (pa_cons pe_int (pa_cons pe_int (pa_cons pe_int (pa_cons pe_int pa_nil))))) pa_nil))))
      (pss_cons (ps_asg (pe_tup (pa_cons (pe_op op_rep (pe_lst (pa_cons (pe_tup pa_nil) pa_nil)) (pv 2)) (pa_cons (pe_call DT.G h2 rfl DT.g DT.kp DT.b .nil pass0 (pa_cons (pv 1) (pa_cons pe_int pa_nil))) (pa_cons (pe_call DT.G h2 rfl DT.g DT.kp DT.b .nil pass0 (pa_cons (pv 1) (pa_cons pe_int pa_nil))) pa_nil))))
          (pg_tup rfl (pgs_cons (pg_name (i := 3) nd rfl (.inl rfl)) (pgs_cons (pg_name (i := 4) nd rfl (.inl rfl)) (pgs_cons (pg_name (i := 5) nd rfl (.inr rfl)) pgs_nil)))))
      (pss_cons (ps_set (i := 6) nd rfl (.inl rfl) (pe_tup (pa_cons pe_int (pa_cons (pv 5) (pa_cons (pv 4) pa_nil)))))
      hu))), fun D H hS hlen nx => ?_⟩
  refine ⟨_, rfl, (by show 2 ≤ sizeLine; decide), fun da hda => ?_⟩
  have s1 := same_upd (o := .lst [.ref a, .int 0]) hda
  have D1 : DrawAt K (upd H da (.lst [.ref a, .int 0])) da a ns := ⟨⟨0, upd_same⟩, Same.seq (fun b o z => by rw [off_out (by simpa using ne_of_none z hda)]; exact s1 _ _ z) hS, hlen⟩
  refine ⟨_, rfl, (by show 4 ≤ sizeLine; decide), fun l hl => ?_⟩
  have s2 := same_upd (o := .lst [.int 1, .int 3, .int 5, .int 8]) hl
  have nld : l ≠ da := fun z => by rw [z, upd_same] at hl; cases hl
  refine ⟨da, l, a, ns, _, rfl, D1.same s2, upd_same, nld, by simp, fun v H3 hv s3 D3 => ?_⟩
  obtain ⟨S, rfl, hS0, hS1⟩ : ∃ S : Nat, v = .int S ∧ 0 < S ∧ S ≤ 8 := by
    simp only [List.mem_cons, List.not_mem_nil, or_false] at hv
    rcases hv with rfl | rfl | rfl | rfl
    · exact ⟨1, rfl, by decide, by decide⟩
    · exact ⟨3, rfl, by decide, by decide⟩
    · exact ⟨5, rfl, by decide, by decide⟩
    · exact ⟨8, rfl, by decide, by decide⟩
  refine ⟨Nat.zero_le _, fun e he => ⟨(by show 1 ≤ sizeLine; decide), fun l1 hl1 => ?_⟩⟩
  have s4 := same_upd (o := .tup []) he
  have s5 := same_upd (o := .lst [.ref e]) hl1
  refine ⟨_, rfl, l1, (S : Int), [.ref e], rfl, rfl, upd_same, by omega, by omega, ?_, fun r hr' => ?_⟩
  · have : 8 ≤ sizeLine := by decide
    show 1 * ((S : Nat) : Int).toNat ≤ sizeLine
    omega
  have s6 := same_upd (o := .lst (List.replicate ((S : Nat) : Int).toNat [V.ref e]).flatten) hr'
  have s46 := (s4.trans s5).trans s6
  refine ⟨_, rfl, da, a, ns, 20, rfl, D3.same s46, by decide, fun t H7 t0 t1 s7 D7 => ?_⟩
  refine ⟨_, rfl, da, a, ns, 3, rfl, D7, by decide, fun g H8 g0 g1 s8 D8 => ⟨(by show 3 ≤ sizeLine; decide), fun tp htp => ?_⟩⟩
  obtain ⟨tn, rfl⟩ : ∃ tn : Nat, t = (tn : Int) := ⟨t.toNat, by omega⟩
  have s9 := same_upd (o := .tup [.ref r, .int (tn : Int), .int g]) htp
  refine ⟨tp, _, rfl, SqT.of upd_same, rfl, _, _, rfl, _, _, rfl, _, _, rfl, rfl, ?_⟩
  refine ⟨_, rfl, _, rfl, (by show 3 ≤ sizeLine; decide), fun hd hhd => ?_⟩
  have s10 := same_upd (o := .tup [.int 0, .int g, .int (tn : Int)]) hhd
  -- all since the row
  have b68 : But [da] (upd (upd (upd H3 e (.tup [])) l1 (.lst [.ref e])) r (.lst (List.replicate ((S : Nat) : Int).toNat [V.ref e]).flatten)) (upd (upd H8 tp (.tup [.ref r, .int (tn : Int), .int g])) hd (.tup [.int 0, .int g, .int (tn : Int)])) :=
    ((s7.trans s8).then s9).then s10
  have eda : ∀ {Hx : Hp}, DrawAt K Hx da a ns → ∃ l, Hx da = some (.lst l) := fun d => let ⟨i, e⟩ := d.1; ⟨_, e⟩
  have nrd : r ≠ da := fun z => by
    obtain ⟨l, el⟩ := eda D3
    rw [z, s5 _ _ (s4 _ _ el)] at hr'
    cases hr'
  have er : (upd (upd H8 tp (.tup [.ref r, .int (tn : Int), .int g])) hd (.tup [.int 0, .int g, .int (tn : Int)])) r = some (.lst (List.replicate S (V.ref e))) := by
    refine b68.at ?_ (by simp [nrd])
    rw [upd_same, List.flatten_replicate_singleton]
    have : ((S : Nat) : Int).toNat = S := by omega
    rw [this]
  have D10 := (D8.same s9).same s10
  have ned : e ≠ da := fun z => by
    obtain ⟨l, el⟩ := eda D3
    rw [z, el] at he
    cases he
  have ee : (upd (upd H8 tp (.tup [.ref r, .int (tn : Int), .int g])) hd (.tup [.int 0, .int g, .int (tn : Int)])) e = some (.tup []) := by
    refine b68.at (s6 _ _ (s5 _ _ upd_same)) (by simp [ned])
  have ner : e ≠ r := fun z => by rw [z, er] at ee; cases ee
  have nhd : hd ∉ [da, r] := fun z => by
    simp only [List.mem_cons, List.not_mem_nil, or_false] at z
    rcases z with rfl | rfl
    · obtain ⟨l, el⟩ := eda (D8.same s9)
      rw [el] at hhd
      cases hhd
    · rw [upd_same] at er
      cases er
  have hdrep : ∀ n : Nat, DpAll K (Off [da, r] (upd (upd H8 tp (.tup [.ref r, .int (tn : Int), .int g])) hd (.tup [.int 0, .int g, .int (tn : Int)]))) (List.replicate n (V.ref e)) (List.replicate n (.tuple [])) := fun n => by
    induction n with
    | zero => exact .nil
    | succ n ih => exact .cons (.tup (SqT.of (by rw [off_out (by simp [ned, ner])]; exact ee)) .nil) ih
  refine nx _ _ ⟨da, r, hd, S, tn, tn, g, g, _, List.replicate S (.tuple []), none, none, none, none, none, none, rfl, ⟨D10, er, nrd.symm, hdrep S, List.length_replicate, hS0, hS1, ?_, ?_⟩, ?_, g0, g0⟩
  · intro d hd'
    rw [List.eq_of_mem_replicate hd']
    exact .inr (.inl rfl)
  · refine Same.seq (fun b o z => ?_) hS
    have hr0 : H r = none := by
      have y1 := (s4.trans s5).free hr'
      have y2 : (upd (upd H da (.lst [.ref a, .int 0])) l (.lst [.int 1, .int 3, .int 5, .int 8])) r = none := s3.free y1 (by simpa using nrd)
      exact s1.free (s2.free y2)
    have nb : b ∉ [da, r] := by
      simp only [List.mem_cons, List.not_mem_nil, or_false, not_or]
      exact ⟨ne_of_none z hda, ne_of_none z hr0⟩
    rw [off_out nb]
    have nbd : b ∉ [da] := fun y => nb (by simp only [List.mem_cons, List.not_mem_nil, or_false] at y; simp [y])
    exact b68.at (s46 _ _ (s3.at (s2 _ _ (s1 _ _ z)) nbd)) nbd
  · exact SqT.of (by rw [off_out nhd, upd_same])
theorem DiskAt.draw {H H' : Hp} {d da : Addr} {n : Int} {sv : List V} {lv : List (Int × V)} (D : DiskAt C H d n sv lv) (s : But [da] H H') (e : ∃ l, H da = some (.lst l)) : DiskAt C H' d n sv lv := by
  obtain ⟨dx, x, y, ts, e1, e2, e3, e4, e5, e6⟩ := D
  obtain ⟨l, el⟩ := e
  have ne : ∀ {q : Addr} {o : HO}, H q = some o → (∀ l, o ≠ .lst l) → q ∉ [da] := fun {q o} h n z => by
    have hq : q = da := by simpa using z
    rw [hq, el] at h
    exact n _ (Option.some.inj h).symm
  refine ⟨dx, x, y, ts, s.at e1 (ne e1 (by simp)), s.at e2 (ne e2 (by simp)), e3, e4, s.at e5 (ne e5 (by simp)), e6.1, fun i q z => ?_⟩
  obtain ⟨b, y1, y2⟩ := e6.2 i q z
  exact ⟨b, y1, s.at y2 (ne y2 (by simp))⟩
theorem lvOf_len (rs : List V) (i : Nat) : (lvOf rs i).length = i := by
  unfold lvOf
  rw [List.length_map, List.length_range]
theorem p78 {fI fW fT fS fL fLL : Addr} {dI dW dT dS dL dLL : FuncData} (hr : Room 5 (XL P w K mg base f cdv A outer s H0 E).A) (B : LTxt mg) (T : DTxt K C)
    (MI : Mk K C fI) (mgC : mg "Disk" = some (.ref C)) (GI : FnOk P w K mg base CX0 1 fI dI ["self", "many"] (spInit C)) (bI : Binds K dI ["self", "many"] [])
    (mW : Meth K C "write" fW) (GW : FnOk P w K mg base CX0 3 fW dW ["self", "plate", "value"] (spWrite C)) (bW : Binds K dW ["self", "plate", "value"] [])
    (DT : Df P w K mg base 2 "_law_take" ["draw", "many"] (spTake K) fT dT) (DS : Df P w K mg base 1 "slot_plate" ["slots", "slot"] spSlot fS dS) (DL : Df P w K mg base 3 "is_log_plate" ["value"] (spIsLog K) fL dL) (DLL : Df P w K mg base 1 "_law_is_log" ["value"] (spIsLog K) fLL dLL)
    (rest : List Stmt) (u : TS) (hu : PSs (XL P w K mg base f cdv A outer s H0 E) rest u) :
    ∃ t, PSs (XL P w K mg base f cdv A outer s H0 E) (stL 6 :: stL 7 :: rest) t ∧ ∀ D σ H, I5 K a ns 0 σ H → (∀ σ' H', I8 K C a ns σ' H' → u D σ' H') → t D σ H := by
  have h1 : Room 1 _ := hr.mono (by decide)
  have h2 : Room 2 _ := hr.mono (by decide)
  have h3 : Room 3 _ := hr.mono (by decide)
  have nd := scLaw.nd
  refine ⟨_, pss_cons (ps_set (i := 13) nd rfl (.inl rfl) (pe_make MI GI h2 rfl mgC bI .nil pass0 (pa_cons (pe_op op_add pe_int (pv 2)) pa_nil)))
    (pss_cons (ps_for PassesOwn.never rfl (pi_enum (by rfl) B.enumerate (pa_cons (pv 3) pa_nil)) (pg_tup rfl (pgs_cons (pg_name (i := 10) nd rfl (.inl rfl)) (pgs_cons (pg_name (i := 12) nd rfl (.inl rfl)) pgs_nil)))
      (pss_cons (ps_expr (pe_meth (pv 13) T.cl mW GW h3 bW .nil pass0 (pa_cons (pe_call DS.G h1 rfl DS.g DS.kp DS.b .nil pass0 (pa_cons (pv 2) (pa_cons (pe_op op_add (pv 10) (pe_op op_mul (pv 2) (pe_call DT.G h2 rfl DT.g DT.kp DT.b .nil pass0 (pa_cons (pv 1) (pa_cons pe_int pa_nil))))) pa_nil))) (pa_cons (pv 12) pa_nil))))
      (pss_one (ps_if (pt_cmpR op_ne (pe_call DL.G h3 rfl DL.g DL.kp DL.b .nil pass0 (pa_cons (pv 12) pa_nil)) (pe_call DLL.G h1 rfl DLL.g DLL.kp DLL.b .nil pass0 (pa_cons (pv 12) pa_nil)) (nomark _)) (pss_one (ps_ret pe_bl)) pss_nil))))
    hu), fun D σ H hI nx => ?_⟩
  obtain ⟨da, r, hd, S, t, t0, g, g0, rs, ds, y7, y8, y9, y10, y11, y12, rfl, R, hh, hg, hg0⟩ := hI
  have hS0 := R.pos
  have hS8 := R.le
  refine ⟨_, rfl, _, _, rfl, rfl, fun d dx hdn hdxn hne => ?_⟩
  have sd : Same H (upd (upd H dx (.own d)) d (.ins C dx [])) := fun b o z => by
    rw [upd_ne (ne_of_none z hdn), upd_ne (ne_of_none z hdxn)]
    exact z
  refine ⟨d, dx, 2 + (S : Int), rfl, upd_same, by omega, by omega, fun H1 e s1 he0 he1 D1 => ⟨rfl, ?_⟩⟩
  have b1 : Same H H1 := fun b o z => s1.at (sd _ _ z) (by simp only [List.mem_cons, List.not_mem_nil, or_false]; exact ne_of_none z hdn)
  have ndda : d ≠ da := fun z => R.nda (z ▸ hdn)
  have nrd : r ≠ d := fun z => R.nr (z ▸ hdn)
  have sO : Same (Off [da, r] H) (Off [d, da] H1) := fun b o z => by
    have hb : b ∉ [da, r] := fun y => by rw [off_in y] at z; cases z
    rw [off_out hb] at z
    rw [off_out]
    · exact b1 _ _ z
    · simp only [List.mem_cons, List.not_mem_nil, or_false, not_or]
      exact ⟨ne_of_none z hdn, fun y => hb (by simp [y])⟩
  have R1 := R.same b1
  refine ⟨_, rfl, r, rs, rfl, SqL.of R1.er, for_it (walk_enum (K := K) (a := r) (xs := rs)) (I7 K C a ns da r hd d S t t0 g g0 rs ds (List.replicate (2 + (S : Int)).toNat (.ref e)) y7 y8 y9 y11)
    ⟨y10, y12, rfl, R1.dr, R1.er, R.ne.symm, nrd, ndda, dps_same sO _ _ R.dp, R.len, R.pos, R.le, same_seqT sO hh, sO.seq R.sc, D1, hg, hg0⟩ (fun i σ H' _ z => by obtain ⟨_, _, _, _, z, _⟩ := z; exact SqL.of z) ?_ ?_⟩
  · rintro i x σ Ha Hb hi ⟨y10, y12, rfl, dr, er, n1, n2, n3, dp, dl, _, _, hha, sca, DA, _, _⟩ ⟨T', x0, x1, rfl, nT, rfl, e0, ex⟩
    cases (Option.some.inj e0)
    have sT := same_upd (o := .tup [.int (i : Nat), x1]) nT
    have hiS : i < S := by rw [← R.rl]; exact hi
    have exg : rs.getD i .non = x1 := by rw [List.getD_eq_getElem?_getD, show rs[i]? = some x1 from ex]; rfl
    obtain ⟨dd, hdd, hpx⟩ := dps_get dp ex
    have DA1 := DA.same sT
    obtain ⟨dxx, pa, pb, ts, e1, _⟩ := id DA1
    refine ⟨T', _, rfl, SqT.of upd_same, rfl, _, _, rfl, _, _, rfl, rfl, ?_⟩
    refine ⟨_, rfl, d, dxx, _, rfl, e1, fl_no _ _ _ (by decide +kernel) (by decide +kernel) (by decide +kernel), ?_⟩
    refine ⟨_, rfl, _, rfl, _, rfl, _, rfl, da, a, ns, 3, rfl, dr.same sT, by decide, fun q H2 q0 q1 s2 D2 => ⟨_, _, rfl, rfl, .inl ⟨by omega, by omega⟩, _, _, rfl, rfl, (S : Int), (i : Int) + (S : Int) * q, rfl, by omega, _, rfl, ?_⟩⟩
    have em : ((i : Int) + (S : Int) * q) % (S : Int) = (i : Int) := by
      rw [Int.add_mul_emod_self_left]
      exact Int.emod_eq_of_lt (by omega) (by omega)
    rw [em]
    have lda : ∃ l, (upd Ha T' (.tup [.int (i : Nat), x1])) da = some (.lst l) := by
      obtain ⟨y, ey⟩ := (dr.same sT).1
      exact ⟨_, ey⟩
    have DA2 := DA1.draw s2 lda
    refine ⟨d, 2 + (S : Int), 2 + (i : Int), x1, _, _, rfl, DA2, by omega, by omega, by rw [lvOf_len]; omega, fun H3 s3 D3 => ?_⟩
    have sa2 : But [da] Ha H2 := (But.of sT).trans s2
    have bO : Same (Off [d, da] Ha) (Off [d, da] H3) := (sa2.off (by simp)).trans (s3.off (by simp))
    have hpx3 : Dp K H3 x1 dd := dp_same ((off_le).trans (Same.refl _)) _ _ (dp_same bO _ _ hpx)
    refine ⟨_, rfl, x1, dd, rfl, hpx3, fun H4 s4 => ?_⟩
    refine ⟨_, rfl, x1, dd, rfl, dp_same s4 _ _ hpx3, fun H5 s5 => ⟨rfl, _, rfl, ?_⟩⟩
    have s35 := s4.trans s5
    have bO5 : Same (Off [d, da] Ha) (Off [d, da] H5) := bO.trans (off_same s35)
    have dr3 : DrawAt K H3 da a ns := by
      obtain ⟨y, ey⟩ := D2.1
      refine ⟨⟨y, s3.at ey (by simp [n3.symm])⟩, Same.seq (off_more (cs := [d, da]) (ds := [da]) (by simp)) (bO.seq sca), dr.2.2⟩
    have er5 : H5 r = some (.lst rs) := s35 _ _ (s3.at (sa2.at er (by simp [n1])) (by simp [n2]))
    have elv : lvOf rs (i + 1) = lvOf rs i ++ [((2 + (i : Int) : Int), x1)] := by
      rw [← exg]
      unfold lvOf
      rw [List.range_succ, List.map_append]
      rfl
    exact iteNS rfl ⟨_, _, rfl, dr3.same s35, er5, n1, n2, n3, dps_same bO5 _ _ dp, dl, R.pos, R.le, same_seqT bO5 hha, bO5.seq sca, by rw [elv]; exact D3.same s35, hg, hg0⟩
  · rintro σ' H' hz
    rw [R.rl] at hz
    exact nx σ' H' ⟨da, r, hd, d, S, t, t0, g, g0, rs, ds, _, y7, y8, y9, y11, hz⟩
end
end Pf

set_option Elab.async false
set_option linter.all false
set_option maxRecDepth 100000
set_option maxHeartbeats 8000000
namespace Pf
open PySem PySem.Spec PyProof.Rows L2
def spLaw (K : PySem.W.Frag) : Sp := fun vs H Q _ => ∃ (a : Addr) (ns : List Int), vs = [.ref a] ∧ SqL K H a (ns.map V.int) ∧ ns.length ≤ 63 ∧ ∀ H', Q (.bl true) H'
/-- what stays as it is to the law's end -/
structure JSt (K : PySem.W.Frag) (C a : Addr) (ns : List Int) (da r hd d : Addr) (S t0 : Nat) (g0 : Int) (rs : List V) (ds : List PyData) (sv : List V) (H : Hp) : Prop where
  dr : DrawAt K H da a ns
  er : H r = some (.lst rs)
  ne : r ≠ da
  dp : DpAll K (Off [da] H) rs ds
  hh : SqT K (Off [da] H) hd [.int 0, .int g0, .int t0]
  DA : DiskAt C H d (2 + (S : Int)) sv (lvOf rs S)
theorem JSt.draw {K : PySem.W.Frag} {C a : Addr} {ns : List Int} {da r hd d : Addr} {S t0 : Nat} {g0 : Int} {rs : List V} {ds : List PyData} {sv : List V} {H H' : Hp} (J : JSt K C a ns da r hd d S t0 g0 rs ds sv H) (s : But [da] H H') (D : DrawAt K H' da a ns) :
    JSt K C a ns da r hd d S t0 g0 rs ds sv H' :=
  ⟨D, s.at J.er (by simp [J.ne]), J.ne, dps_same (s.off (fun c z => z)) _ _ J.dp, same_seqT (s.off (fun c z => z)) J.hh, J.DA.draw s (let ⟨i, e⟩ := J.dr.1; ⟨_, e⟩)⟩
theorem JSt.same {K : PySem.W.Frag} {C a : Addr} {ns : List Int} {da r hd d : Addr} {S t0 : Nat} {g0 : Int} {rs : List V} {ds : List PyData} {sv : List V} {H H' : Hp} (J : JSt K C a ns da r hd d S t0 g0 rs ds sv H) (s : Same H H') :
    JSt K C a ns da r hd d S t0 g0 rs ds sv H' := J.draw (.of s) (J.dr.same s)
theorem JSt.ring {K : PySem.W.Frag} {C a : Addr} {ns : List Int} {da r hd d : Addr} {S t0 : Nat} {g0 : Int} {rs : List V} {ds : List PyData} {sv : List V} {H : Hp} (J : JSt K C a ns da r hd d S t0 g0 rs ds sv H) (hl : ds.length = S) : RingAt K C H d S ds := by
  refine ⟨_, _, _, J.DA, by omega, fun j hj => ?_⟩
  rw [lv_now _ _ S j hj]
  have hj2 : j < rs.length := by rw [dps_len J.dp, hl]; exact hj
  obtain ⟨d', e1, e2⟩ := dps_get J.dp (List.getElem?_eq_getElem hj2)
  rw [List.getD_eq_getElem?_getD, List.getD_eq_getElem?_getD, List.getElem?_eq_getElem hj2, e1]
  exact dp_same off_le _ _ e2
theorem seen_take {ds : List PyData} {i : Nat} {d : PyData} (h : ds[i]? = some d) : seenI (ds.take (i + 1)) = seenI (ds.take i) ++ (match asLog d with | some l => [l.g] | none => []) := by
  unfold seenI
  rw [List.take_add_one, h, List.filterMap_append]
  cases e : asLog d <;> simp [e]
theorem eqvL_range (S n : Nat) : True := trivial
section
variable {P : Program} {w : World} {K : PySem.W.Frag} {mg : Str → Option Value} {base : Heap} {C : Addr} {f : Addr} {cdv : Value} {A : Around} {outer : List Env} {s : Shared} {H0 : Hp} {E : XK} {a : Addr} {ns : List Int}
theorem p9 {fLL fLast fRg fLgs fT fWg fLg fS : Addr} {dLL dLast dRg dLgs dT dWg dLg dS : FuncData} (hr : Room 5 (XL P w K mg base f cdv A outer s H0 E).A) (B : LTxt mg)
    (DLL : Df P w K mg base 1 "_law_is_log" ["value"] (spIsLog K) fLL dLL) (DT : Df P w K mg base 2 "_law_take" ["draw", "many"] (spTake K) fT dT) (DS : Df P w K mg base 1 "slot_plate" ["slots", "slot"] spSlot fS dS)
    (DLast : Df P w K mg base 4 "last_seen" ["disk", "slots"] (spLast K C) fLast dLast) (DRg : Df P w K mg base 5 "read_groups" ["disk", "slots", "head"] (spRg K C) fRg dRg) (DLgs : Df P w K mg base 3 "_law_groups" ["row", "slots", "head"] (spLgrps K) fLgs dLgs)
    (DWg : Df P w K mg base 4 "whole_group" ["disk", "slots", "slot", "group"] (spWg K C) fWg dWg) (DLg : Df P w K mg base 2 "_law_group" ["row", "slots", "slot", "group"] (spLgrp K) fLg dLg) :
    ∃ t, PSs (XL P w K mg base f cdv A outer s H0 E) [stL 8, stL 9, stL 10, stL 11] t ∧ ∀ D σ H, I8 K C a ns σ H → (∀ H', D.rt (.bl true) H') → t D σ H := by
  have h1 : Room 1 _ := hr.mono (by decide)
  have h2 : Room 2 _ := hr.mono (by decide)
  have h3 : Room 3 _ := hr.mono (by decide)
  have h4 : Room 4 _ := hr.mono (by decide)
  have nd := scLaw.nd
  refine ⟨_, pss_cons (ps_setLc (i := 14) (own := [("value", 12)]) (g := gName 12) (tt := tB (tCall (spIsLog K) [] E0 (tCons (tVar 12) tNil))) (te := tOp (rIxT K) (tVar 12) (tC (.int 0))) rfl nd rfl rfl (sw_true rfl rfl rfl (by decide +kernel)) (pi_list (pv 3)) (blkOk_by (N := NL) (sc := defScope sLaw) (by decide +kernel))
      (fun _ _ _ _ _ => pg_name (i := 12) nd rfl (.inl rfl)) (fun _ _ _ _ _ => pts_one (pt_val (pe_call DLL.G h1 rfl DLL.g DLL.kp DLL.b .nil pass0 (pa_cons (pv 12) pa_nil)))) (fun _ _ _ _ _ => pe_ix ix_tup (pv 12) pe_int (fun _ _ => rfl)))
    (pss_cons (ps_if (PW.pt (pw_or (pt_cmpR op_ne (pe_call DLast.G h4 rfl DLast.g DLast.kp DLast.b .nil pass0 (pa_cons (pv 13) (pa_cons (pv 2) pa_nil)))
          (pe_callB (cr_max rfl) (by rfl) B.max (by decide +kernel) (pa_cons (pe_op op_cat (pv 14) (pe_lst (pa_cons (pe_un un_neg pe_int) pa_nil))) pa_nil)) (nomark _))
        (pw_or1 (pt_cmpR (op_neD hr.units) (pe_call DRg.G hr rfl DRg.g DRg.kp DRg.b .nil pass0 (pa_cons (pv 13) (pa_cons (pv 2) (pa_cons (pv 6) pa_nil)))) (pe_call DLgs.G h3 rfl DLgs.g DLgs.kp DLgs.b .nil pass0 (pa_cons (pv 3) (pa_cons (pv 2) (pa_cons (pv 6) pa_nil)))) (nomark _)))))
      (pss_one (ps_ret pe_bl)) pss_nil)
    (pss_cons (ps_for PassesOwn.never rfl (pi_range1 (by rfl) B.range (pa_cons pe_int pa_nil)) (pg_name (i := 7) nd rfl (.inl rfl))
      (pss_cons (ps_par rfl nd (i := 10) (j := 15) rfl rfl (by decide) rfl rfl (pa_cons (pe_call DT.G h2 rfl DT.g DT.kp DT.b .nil pass0 (pa_cons (pv 1) (pa_cons (pe_op op_mul pe_int (pv 2)) pa_nil))) (pa_cons (pe_call DT.G h2 rfl DT.g DT.kp DT.b .nil pass0 (pa_cons (pv 1) (pa_cons (pe_op op_add (pv 5) pe_int) pa_nil))) pa_nil)) (by rfl))
      (pss_one (ps_if (pt_cmpR (op_neD hr.units) (pe_call DWg.G h4 rfl DWg.g DWg.kp DWg.b .nil pass0 (pa_cons (pv 13) (pa_cons (pv 2) (pa_cons (pv 10) (pa_cons (pv 15) pa_nil))))) (pe_call DLg.G h2 rfl DLg.g DLg.kp DLg.b .nil pass0 (pa_cons (pv 3) (pa_cons (pv 2) (pa_cons (pv 10) (pa_cons (pv 15) pa_nil))))) (nomark _))
        (pss_one (ps_ret pe_bl)) pss_nil))))
    (pss_one (ps_ret (pe_cmpR (op_eqD hr.units)
      (pe_lc (own := [("at", 10)]) (g := gName 10) (tt := tYes) (te := tCall spSlot [] E0 (tCons (tVar 2) (tCons (tVar 10) tNil))) rfl nd (pi_range1 (by rfl) B.range (pa_cons (pe_op op_mul pe_int (pv 2)) pa_nil)) (blkOk_by (N := NL) (sc := defScope sLaw) (by decide +kernel)) (fun _ _ _ _ _ => pg_name (i := 10) nd rfl (.inl rfl)) (fun _ _ _ _ _ => pts_nil)
        (fun _ _ _ _ _ => pe_call DS.G h1 rfl DS.g DS.kp DS.b .nil pass0 (pa_cons (pv 2) (pa_cons (pv 10) pa_nil))))
      (pe_lc (own := [("at", 10)]) (g := gName 10) (tt := tYes) rfl nd (pi_range1 (by rfl) B.range (pa_cons (pe_op op_mul pe_int (pv 2)) pa_nil)) (blkOk_by (N := NL) (sc := defScope sLaw) (by decide +kernel)) (fun _ _ _ _ _ => pg_name (i := 10) nd rfl (.inl rfl)) (fun _ _ _ _ _ => pts_nil)
        (fun _ _ _ _ _ => pe_op op_add pe_int (pe_op op_mod (pe_callTy call_int1 (by rfl) B.int boot_int (pa_cons (pv 10) pa_nil)) (pv 2)))) (nomark _)))))), fun D σ H hI nx => ?_⟩
  obtain ⟨da, r, hd, d, S, t, t0, g, g0, rs, ds, sv, y7, y8, y9, y11, y10, y12, rfl, dr, er, n1, n2, n3, dp, dl, hS0, hS8, hh, sca, DA, hg, hg0⟩ := hI
  have om : Same (Off [d, da] H) (Off [da] H) := off_more (by simp)
  have J : JSt K C a ns da r hd d S t0 g0 rs ds sv H := ⟨dr, er, n1, dps_same om _ _ dp, same_seqT om hh, DA⟩
  clear dr n2 n3 dp hh sca DA om
  have hrl : rs.length = S := by rw [dps_len J.dp, dl]
  have dsz : ∀ i : Nat, (seenI (ds.take i)).length ≤ 1000 := fun i => by
    refine Nat.le_trans (List.length_filterMap_le _ _) ?_
    rw [List.length_take]
    omega
  refine ⟨_, rfl, r, rfl, ⟨_, SqL.of J.er⟩, fun E1 hE1 => lc_list (K := K) (a := r) (xs := rs) (fun i H' => Same H H' ∧ H' E1 = some (.lst ((seenI (ds.take i)).map V.int))) ⟨same_upd hE1, upd_same⟩ (fun i H' _ z => z.1.seq (SqL.of J.er)) ?_ ?_⟩
  · rintro i x H' hx ⟨s1, e1⟩
    obtain ⟨dd, hdd, hp⟩ := dps_get J.dp hx
    have hp1 : Dp K H' x dd := dp_same ((off_le).trans s1) _ _ hp
    refine ⟨rfl, _, rfl, x, dd, rfl, hp1, fun H3 s3 => ⟨_, rfl, ite2 (fun hc => ?_) (fun hc => ?_)⟩⟩
    · obtain ⟨l, el⟩ := Option.isSome_iff_exists.mp hc
      obtain ⟨a1, rfl, hT⟩ := log_read hp1 el
      refine ⟨_, rfl, a1, _, 0, .int l.g, rfl, rfl, same_seqT s3 hT, atI_nat (j := 0) rfl, _, s3 _ _ e1, ?_, fun b o z => ?_, ?_⟩
      · rw [List.length_map]
        exact small1000 (dsz i)
      · rw [upd_ne (ne_of_none z hE1)]
        exact s3 _ _ (s1 _ _ z)
      · rw [upd_same, seen_take hdd, el, List.map_append]
        rfl
    · have el : asLog dd = none := by
        cases e : asLog dd with
        | none => rfl
        | some l => rw [e] at hc; exact absurd rfl hc
      refine ⟨s1.trans s3, ?_⟩
      rw [seen_take hdd, el, List.append_nil]
      exact s3 _ _ e1
  rintro H1 ⟨s1, e1⟩
  have J1 := J.same s1
  rw [hrl, ← dl, List.take_length] at e1
  refine ⟨_, rfl, _, rfl, d, S, ds, rfl, J1.ring dl, dl, hS0, by omega, fun H3 s3 => ?_⟩
  have hz : (seenI ds).length ≤ 999 := by
    refine Nat.le_trans (List.length_filterMap_le _ _) ?_
    omega
  refine ⟨_, rfl, 1, rfl, (by show 1 ≤ sizeLine; decide), fun l hl => ?_⟩
  have sl := same_upd (o := .lst [.int (-1)]) hl
  refine ⟨E1, l, _, _, rfl, rfl, sl _ _ (s3 _ _ e1), upd_same, ?_, fun p hp => ?_⟩
  · rw [List.length_map]
    have := small1000 (n := 1000) (by decide)
    show (seenI ds).length + 1 ≤ sizeLine
    omega
  have sp := same_upd (o := .lst ((seenI ds).map V.int ++ [.int (-1)])) hp
  refine ⟨p, seenI ds ++ [-1], rfl, SqL.of (by rw [upd_same, List.map_append]; rfl), by simp, fun m hm1 hm2 => ⟨rfl, _, rfl, ?_⟩⟩
  have J2 := J1.same ((s3.trans sl).trans sp)
  refine iteNS (by rw [last_max hm1 hm2]) ?_
  refine ⟨_, rfl, _, rfl, _, rfl, d, hd, S, t0, g0, 0, ds, rfl, J2.ring dl, hS0, by omega, same_seqT off_le J2.hh, fun v H5 s5 hv => ?_⟩
  have J5 := J2.same s5
  refine ⟨_, rfl, _, rfl, _, rfl, r, hd, S, t0, g0, 0, rs, ds, rfl, SqL.of J5.er, dps_same off_le _ _ J5.dp, dl, hS0, by omega, same_seqT off_le J5.hh, fun v' H6 s6 hv' => ?_⟩
  have J6 := J5.same s6
  refine ⟨_, _, dp_same ((new_le).trans s6) _ _ hv, dp_same new_le _ _ hv', shaped_gs _, shaped_gs _, _, rfl, ?_⟩
  rw [eqv_self (shaped_gs _)]
  refine iteF ?_
  -- six drawn groups
  refine ⟨6, rfl, by decide, by decide, for_range (lo := 0) (n := (6 : Int).toNat) (fun i σ H' => ∃ y7 y10 y15, σ = [some (.ref a), some (.ref da), some (.int S), some (.ref r), some (.int t), some (.int g), some (.ref hd), y7, y8, y9, y10, y11, y12, some (.ref d), some (.ref E1), y15, none, none] ∧
    JSt K C a ns da r hd d S t0 g0 rs ds sv H') ⟨_, _, _, rfl, J6⟩ ?_ ?_⟩
  · clear J6 J5 J2 J1 hv hv' s6 s5 sp sl s3 hm1 hm2 hp hl
    rintro i σ Ha hi ⟨y7, y10, y15, rfl, Ja⟩
    refine ⟨_, rfl, _, rfl, _, _, rfl, rfl, .inl ⟨by decide, by decide⟩, da, a, ns, 2 * (S : Int), rfl, Ja.dr, by omega, fun q1 Hb q10 q11 s1 D1 => ?_⟩
    have Jb := Ja.draw s1 D1
    refine ⟨_, rfl, _, rfl, _, _, rfl, rfl, da, a, ns, g + 1, rfl, D1, by omega, fun q2 Hc q20 q21 s2 D2 => ⟨_, _, rfl, ?_⟩⟩
    have Jc := Jb.draw s2 D2
    obtain ⟨qn, rfl⟩ : ∃ qn : Nat, q1 = (qn : Int) := ⟨q1.toNat, by omega⟩
    refine ⟨_, rfl, _, rfl, _, rfl, _, rfl, d, S, qn, q2, ds, rfl, Jc.ring dl, hS0, by omega, fun v Hd sd hv => ?_⟩
    have Jd := Jc.same sd
    refine ⟨_, rfl, _, rfl, _, rfl, _, rfl, r, S, qn, q2, rs, ds, rfl, SqL.of Jd.er, dps_same off_le _ _ Jd.dp, dl, hS0, by omega, fun v' He se hv' => ?_⟩
    refine ⟨_, _, dp_same ((new_le).trans se) _ _ hv, dp_same new_le _ _ hv', shaped_opt _, shaped_opt _, _, rfl, ?_⟩
    rw [eqv_self (shaped_opt _)]
    exact iteF ⟨_, _, _, rfl, Jd.same se⟩
  · rintro σ Ha ⟨y7, y10, y15, rfl, Ja⟩
    have hSi : (0 : Int) < (S : Int) := by omega
    have e3 : (3 * (S : Int)).toNat = 3 * S := by omega
    refine ⟨_, rfl, _, _, rfl, rfl, .inl ⟨by decide, by decide⟩, 3 * (S : Int), rfl, by omega, by omega, fun F1 hF1 => lc_range (lo := 0) (n := (3 * (S : Int)).toNat) (fun i H' => Same Ha H' ∧ H' F1 = some (.lst (((List.range i).map fun (j : Nat) => 2 + (j : Int) % (S : Int)).map V.int)))
      ⟨same_upd hF1, upd_same⟩ ?_ ?_⟩
    · rintro i H' hi ⟨s1, e1⟩
      refine ⟨rfl, tyes_go ?_⟩
      refine ⟨_, rfl, _, rfl, (S : Int), 0 + (i : Int), rfl, hSi, _, e1, ?_, fun b o z => ?_, ?_⟩
      · rw [List.length_map, List.length_map, List.length_range]
        exact small1000 (by omega)
      · rw [upd_ne (ne_of_none z hF1)]
        exact s1 _ _ z
      · rw [upd_same, List.range_succ, List.map_append, List.map_append, Int.zero_add]
        rfl
    · rintro Hb ⟨s1, e1⟩
      refine ⟨_, rfl, _, _, rfl, rfl, .inl ⟨by decide, by decide⟩, 3 * (S : Int), rfl, by omega, by omega, fun F2 hF2 => lc_range (lo := 0) (n := (3 * (S : Int)).toNat) (fun i H' => Same Hb H' ∧ H' F2 = some (.lst (((List.range i).map fun (j : Nat) => 2 + (j : Int) % (S : Int)).map V.int)))
        ⟨same_upd hF2, upd_same⟩ ?_ ?_⟩
      · rintro i H' hi ⟨s2, e2⟩
        refine ⟨rfl, tyes_go ?_⟩
        refine ⟨_, rfl, .inl ⟨_, rfl, _, rfl, _, _, rfl, rfl, hSi, _, _, rfl, rfl, _, e2, ?_, fun b o z => ?_, ?_⟩⟩
        · rw [List.length_map, List.length_map, List.length_range]
          exact small1000 (by omega)
        · rw [upd_ne (ne_of_none z hF2)]
          exact s2 _ _ z
        · rw [upd_same, List.range_succ, List.map_append, List.map_append, Int.zero_add]
          rfl
      · rintro Hc ⟨s2, e2⟩
        refine ⟨_, _, .lst (SqL.of (s2 _ _ e1)) (dps_ints _), .lst (SqL.of e2) (dps_ints _), shapedL_ints _, shapedL_ints _, ?_⟩
        rw [eqv_self (shapedL_ints _)]
        exact nx _
theorem ok_law {f fT fP fCh fRows fI fW fS fL fLL fLast fRg fLgs fWg fLg : Addr} {fd dT dP dCh dRows dI dW dS dL dLL dLast dRg dLgs dWg dLg : FuncData} (F : Fun K "law" "law" sLaw f fd) (B : LTxt mg) (T : DTxt K C)
    (DT : Df P w K mg base 2 "_law_take" ["draw", "many"] (spTake K) fT dT) (DP : Df P w K mg base 3 "_law_pick" ["draw", "items"] (spPick K) fP dP) (DCh : Df P w K mg base 3 "_law_changes" ["draw", "most"] (spChg K) fCh dCh)
    (DRows : Df P w K mg base 1 "log_rows" ["group", "changes"] (spRows K) fRows dRows) (MI : Mk K C fI) (mgC : mg "Disk" = some (.ref C)) (GI : FnOk P w K mg base CX0 1 fI dI ["self", "many"] (spInit C)) (bI : Binds K dI ["self", "many"] [])
    (mW : Meth K C "write" fW) (GW : FnOk P w K mg base CX0 3 fW dW ["self", "plate", "value"] (spWrite C)) (bW : Binds K dW ["self", "plate", "value"] [])
    (DS : Df P w K mg base 1 "slot_plate" ["slots", "slot"] spSlot fS dS) (DL : Df P w K mg base 3 "is_log_plate" ["value"] (spIsLog K) fL dL) (DLL : Df P w K mg base 1 "_law_is_log" ["value"] (spIsLog K) fLL dLL)
    (DLast : Df P w K mg base 4 "last_seen" ["disk", "slots"] (spLast K C) fLast dLast) (DRg : Df P w K mg base 5 "read_groups" ["disk", "slots", "head"] (spRg K C) fRg dRg) (DLgs : Df P w K mg base 3 "_law_groups" ["row", "slots", "head"] (spLgrps K) fLgs dLgs)
    (DWg : Df P w K mg base 4 "whole_group" ["disk", "slots", "slot", "group"] (spWg K C) fWg dWg) (DLg : Df P w K mg base 2 "_law_group" ["row", "slots", "slot", "group"] (spLgrp K) fLg dLg) :
    FnOk P w K mg base CX0 6 f fd ["script"] (spLaw K) := by
  refine F.ok scLaw (fun vs H Q E h => ?_) (fun cdv A outer s H vs Q E hr h => ?_)
  · obtain ⟨a, ns, rfl, _⟩ := h
    rfl
  · obtain ⟨a, ns, rfl, hS, hlen, k⟩ := h
    obtain ⟨t9, h9, q9⟩ := p9 (f := f) (cdv := cdv) (A := A) (outer := outer) (s := s) (H0 := H) (E := E) (a := a) (ns := ns) hr B DLL DT DS DLast DRg DLgs DWg DLg
    obtain ⟨t7, h7, q7⟩ := p78 (f := f) (cdv := cdv) (A := A) (outer := outer) (s := s) (H0 := H) (E := E) (a := a) (ns := ns) hr B T MI mgC GI bI mW GW bW DT DS DL DLL _ _ h9
    obtain ⟨t6, h6, q6⟩ := p6 (f := f) (cdv := cdv) (A := A) (outer := outer) (s := s) (H0 := H) (E := E) (a := a) (ns := ns) hr B DP DT
    obtain ⟨t5, h5, q5⟩ := p5 (f := f) (cdv := cdv) (A := A) (outer := outer) (s := s) (H0 := H) (E := E) (a := a) (ns := ns) hr B DP DCh DRows
    obtain ⟨t0, h0, q0⟩ := p0 (f := f) (cdv := cdv) (A := A) (outer := outer) (s := s) (H0 := H) (E := E) (a := a) (ns := ns) hr DP DT _ _ (pss_cons h5 (pss_cons h6 h7))
    refine ⟨t0, h0, q0 _ H hS hlen fun σ1 H1 i1 => ?_⟩
    refine q5 _ σ1 H1 i1 fun σ2 H2 i2 => ?_
    refine q6 _ σ2 H2 i2 fun σ3 H3 i3 => ?_
    exact q7 _ σ3 H3 i3 fun σ4 H4 i4 => q9 _ σ4 H4 i4 k
end
end Pf

set_option Elab.async false
set_option linter.all false
set_option maxRecDepth 100000
set_option maxHeartbeats 8000000
namespace Pf
open PySem PySem.Spec PyProof.Rows L2
/-! ### what the top has written -/
theorem all_mk {l : PySem.W.OpenLaw} {w : World} {K : PySem.W.Frag} {h : Heap} {mg : Str → Option Value} {fa : Addr} (X : K.In h) (G : h.Ns mainGlobals mg) (hfa : mg "law" = some (.ref fa))
    {C T0 f0 f1 f2 f3 f4 f5 f6 f7 f8 f9 f10 f11 f12 f13 f14 f15 f16 f17 f18 f19 f20 : Addr}
    {od0 an0 od1 an1 od2 an2 od3 an3 od4 an4 od5 an5 od6 an6 od7 an7 od8 an8 od9 an9 od10 an10 od11 an11 od12 an12 od13 an13 od14 an14 od15 an15 od16 an16 od17 an17 od18 an18 od19 an19 od20 an20 : Option Addr}
    {sl0 sl1 sl2 sl3 sl4 sl5 sl6 sl7 sl8 sl9 sl10 sl11 sl12 sl13 sl14 sl15 sl16 sl17 sl18 sl19 sl20 : Array (Option Value)}
    {oc0 kV0 dc0 pm0 cd0 ct0 oc1 kV1 dc1 pm1 cd1 ct1 oc2 kV2 dc2 pm2 cd2 ct2 oc3 kV3 dc3 pm3 cd3 ct3 oc4 kV4 dc4 pm4 cd4 ct4 oc5 kV5 dc5 pm5 cd5 ct5 oc6 kV6 dc6 pm6 cd6 ct6 oc7 kV7 dc7 pm7 cd7 ct7 oc8 kV8 dc8 pm8 cd8 ct8 oc9 kV9 dc9 pm9 cd9 ct9 oc10 kV10 dc10 pm10 cd10 ct10 oc11 kV11 dc11 pm11 cd11 ct11 oc12 kV12 dc12 pm12 cd12 ct12 oc13 kV13 dc13 pm13 cd13 ct13 oc14 kV14 dc14 pm14 cd14 ct14 oc15 kV15 dc15 pm15 cd15 ct15 oc16 kV16 dc16 pm16 cd16 ct16 oc17 kV17 dc17 pm17 cd17 ct17 oc18 kV18 dc18 pm18 cd18 ct18 oc19 kV19 dc19 pm19 cd19 ct19 oc20 kV20 dc20 pm20 cd20 ct20 : Value}
    {ddT : Option Addr} {nT : Nat} {slT : Array (Option Value)} {tk0 tk1 tk2 : Tok}
    (aC : PySem.W.nsIn K mainGlobals "Disk" = some (some (.ref C)))
    (a0 : PySem.W.nsIn K mainGlobals "is_whole" = some (some (.ref f0)))
    (l0 : K.lookup f0 = some ⟨oc0, od0, .func (PySem.W.fnOf "is_whole" "is_whole" (defArgs sWhole) (defBody sWhole) (defScope sWhole) (.ref T0) kV0 dc0 pm0 an0 cd0 ct0), sl0⟩)
    (lT : K.lookup T0 = some ⟨.type "tuple", ddT, .seq #[.none, .none] nT, slT⟩)
    (c0 : PySem.W.codeIn K cd0 "is_whole" = true)
    (k0 : PySem.W.keepIn K (.ref f0) = true)
    (a1 : PySem.W.nsIn K mainGlobals "is_cells" = some (some (.ref f1)))
    (l1 : K.lookup f1 = some ⟨oc1, od1, .func (PySem.W.fnOf "is_cells" "is_cells" (defArgs sCells) (defBody sCells) (defScope sCells) .none kV1 dc1 pm1 an1 cd1 ct1), sl1⟩)
    (c1 : PySem.W.codeIn K cd1 "is_cells" = true)
    (k1 : PySem.W.keepIn K (.ref f1) = true)
    (a2 : PySem.W.nsIn K mainGlobals "slot_plate" = some (some (.ref f2)))
    (l2 : K.lookup f2 = some ⟨oc2, od2, .func (PySem.W.fnOf "slot_plate" "slot_plate" (defArgs sSlot) (defBody sSlot) (defScope sSlot) .none kV2 dc2 pm2 an2 cd2 ct2), sl2⟩)
    (c2 : PySem.W.codeIn K cd2 "slot_plate" = true)
    (k2 : PySem.W.keepIn K (.ref f2) = true)
    (a3 : PySem.W.nsIn K mainGlobals "log_rows" = some (some (.ref f3)))
    (l3 : K.lookup f3 = some ⟨oc3, od3, .func (PySem.W.fnOf "log_rows" "log_rows" (defArgs sRows) (defBody sRows) (defScope sRows) .none kV3 dc3 pm3 an3 cd3 ct3), sl3⟩)
    (c3 : PySem.W.codeIn K cd3 "log_rows" = true)
    (k3 : PySem.W.keepIn K (.ref f3) = true)
    (a4 : PySem.W.nsIn K mainGlobals "is_log_plate" = some (some (.ref f4)))
    (l4 : K.lookup f4 = some ⟨oc4, od4, .func (PySem.W.fnOf "is_log_plate" "is_log_plate" (defArgs sIsLog) (defBody sIsLog) (defScope sIsLog) .none kV4 dc4 pm4 an4 cd4 ct4), sl4⟩)
    (c4 : PySem.W.codeIn K cd4 "is_log_plate" = true)
    (k4 : PySem.W.keepIn K (.ref f4) = true)
    (a5 : PySem.W.nsIn K mainGlobals "whole_group" = some (some (.ref f5)))
    (l5 : K.lookup f5 = some ⟨oc5, od5, .func (PySem.W.fnOf "whole_group" "whole_group" (defArgs sWg) (defBody sWg) (defScope sWg) .none kV5 dc5 pm5 an5 cd5 ct5), sl5⟩)
    (c5 : PySem.W.codeIn K cd5 "whole_group" = true)
    (k5 : PySem.W.keepIn K (.ref f5) = true)
    (a6 : PySem.W.nsIn K mainGlobals "slots_of" = some (some (.ref f6)))
    (l6 : K.lookup f6 = some ⟨oc6, od6, .func (PySem.W.fnOf "slots_of" "slots_of" (defArgs sSlotsOf) (defBody sSlotsOf) (defScope sSlotsOf) .none kV6 dc6 pm6 an6 cd6 ct6), sl6⟩)
    (c6 : PySem.W.codeIn K cd6 "slots_of" = true)
    (k6 : PySem.W.keepIn K (.ref f6) = true)
    (a7 : PySem.W.nsIn K mainGlobals "read_groups" = some (some (.ref f7)))
    (l7 : K.lookup f7 = some ⟨oc7, od7, .func (PySem.W.fnOf "read_groups" "read_groups" (defArgs sRg) (defBody sRg) (defScope sRg) .none kV7 dc7 pm7 an7 cd7 ct7), sl7⟩)
    (c7 : PySem.W.codeIn K cd7 "read_groups" = true)
    (k7 : PySem.W.keepIn K (.ref f7) = true)
    (a8 : PySem.W.nsIn K mainGlobals "last_seen" = some (some (.ref f8)))
    (l8 : K.lookup f8 = some ⟨oc8, od8, .func (PySem.W.fnOf "last_seen" "last_seen" (defArgs sLast) (defBody sLast) (defScope sLast) .none kV8 dc8 pm8 an8 cd8 ct8), sl8⟩)
    (c8 : PySem.W.codeIn K cd8 "last_seen" = true)
    (k8 : PySem.W.keepIn K (.ref f8) = true)
    (a9 : PySem.W.nsIn K mainGlobals "_law_number" = some (some (.ref f9)))
    (l9 : K.lookup f9 = some ⟨oc9, od9, .func (PySem.W.fnOf "_law_number" "_law_number" (defArgs sNum) (defBody sNum) (defScope sNum) .none kV9 dc9 pm9 an9 cd9 ct9), sl9⟩)
    (c9 : PySem.W.codeIn K cd9 "_law_number" = true)
    (k9 : PySem.W.keepIn K (.ref f9) = true)
    (a10 : PySem.W.nsIn K mainGlobals "_law_take" = some (some (.ref f10)))
    (l10 : K.lookup f10 = some ⟨oc10, od10, .func (PySem.W.fnOf "_law_take" "_law_take" (defArgs sTake) (defBody sTake) (defScope sTake) .none kV10 dc10 pm10 an10 cd10 ct10), sl10⟩)
    (c10 : PySem.W.codeIn K cd10 "_law_take" = true)
    (k10 : PySem.W.keepIn K (.ref f10) = true)
    (a11 : PySem.W.nsIn K mainGlobals "_law_pick" = some (some (.ref f11)))
    (l11 : K.lookup f11 = some ⟨oc11, od11, .func (PySem.W.fnOf "_law_pick" "_law_pick" (defArgs sPick) (defBody sPick) (defScope sPick) .none kV11 dc11 pm11 an11 cd11 ct11), sl11⟩)
    (c11 : PySem.W.codeIn K cd11 "_law_pick" = true)
    (k11 : PySem.W.keepIn K (.ref f11) = true)
    (a12 : PySem.W.nsIn K mainGlobals "_law_changes" = some (some (.ref f12)))
    (l12 : K.lookup f12 = some ⟨oc12, od12, .func (PySem.W.fnOf "_law_changes" "_law_changes" (defArgs sChg) (defBody sChg) (defScope sChg) .none kV12 dc12 pm12 an12 cd12 ct12), sl12⟩)
    (c12 : PySem.W.codeIn K cd12 "_law_changes" = true)
    (k12 : PySem.W.keepIn K (.ref f12) = true)
    (a13 : PySem.W.nsIn K mainGlobals "_law_is_log" = some (some (.ref f13)))
    (l13 : K.lookup f13 = some ⟨oc13, od13, .func (PySem.W.fnOf "_law_is_log" "_law_is_log" (defArgs sLlog) (defBody sLlog) (defScope sLlog) .none kV13 dc13 pm13 an13 cd13 ct13), sl13⟩)
    (c13 : PySem.W.codeIn K cd13 "_law_is_log" = true)
    (k13 : PySem.W.keepIn K (.ref f13) = true)
    (a14 : PySem.W.nsIn K mainGlobals "_law_group" = some (some (.ref f14)))
    (l14 : K.lookup f14 = some ⟨oc14, od14, .func (PySem.W.fnOf "_law_group" "_law_group" (defArgs sLgrp) (defBody sLgrp) (defScope sLgrp) .none kV14 dc14 pm14 an14 cd14 ct14), sl14⟩)
    (c14 : PySem.W.codeIn K cd14 "_law_group" = true)
    (k14 : PySem.W.keepIn K (.ref f14) = true)
    (a15 : PySem.W.nsIn K mainGlobals "_law_groups" = some (some (.ref f15)))
    (l15 : K.lookup f15 = some ⟨oc15, od15, .func (PySem.W.fnOf "_law_groups" "_law_groups" (defArgs sLgrps) (defBody sLgrps) (defScope sLgrps) .none kV15 dc15 pm15 an15 cd15 ct15), sl15⟩)
    (c15 : PySem.W.codeIn K cd15 "_law_groups" = true)
    (k15 : PySem.W.keepIn K (.ref f15) = true)
    (a16 : PySem.W.nsIn K mainGlobals "law" = some (some (.ref f16)))
    (l16 : K.lookup f16 = some ⟨oc16, od16, .func (PySem.W.fnOf "law" "law" (defArgs sLaw) (defBody sLaw) (defScope sLaw) .none kV16 dc16 pm16 an16 cd16 ct16), sl16⟩)
    (c16 : PySem.W.codeIn K cd16 "law" = true)
    (k16 : PySem.W.keepIn K (.ref f16) = true)
    (a17 : PySem.W.findIn K (.ref C) "__init__" = some (some (.ref f17)))
    (i17 : PySem.W.isFn K (.ref f17) = true)
    (l17 : K.lookup f17 = some ⟨oc17, od17, .func (PySem.W.fnOf "__init__" "Disk.__init__" (defArgs sInit) (defBody sInit) (defScope sInit) .none kV17 dc17 pm17 an17 cd17 ct17), sl17⟩)
    (c17 : PySem.W.codeIn K cd17 "Disk.__init__" = true)
    (k17 : PySem.W.keepIn K (.ref f17) = true)
    (a18 : PySem.W.findIn K (.ref C) "write" = some (some (.ref f18)))
    (i18 : PySem.W.isFn K (.ref f18) = true)
    (l18 : K.lookup f18 = some ⟨oc18, od18, .func (PySem.W.fnOf "write" "Disk.write" (defArgs sWrite) (defBody sWrite) (defScope sWrite) .none kV18 dc18 pm18 an18 cd18 ct18), sl18⟩)
    (c18 : PySem.W.codeIn K cd18 "Disk.write" = true)
    (k18 : PySem.W.keepIn K (.ref f18) = true)
    (a19 : PySem.W.findIn K (.ref C) "now" = some (some (.ref f19)))
    (i19 : PySem.W.isFn K (.ref f19) = true)
    (l19 : K.lookup f19 = some ⟨oc19, od19, .func (PySem.W.fnOf "now" "Disk.now" (defArgs sNow) (defBody sNow) (defScope sNow) .none kV19 dc19 pm19 an19 cd19 ct19), sl19⟩)
    (c19 : PySem.W.codeIn K cd19 "Disk.now" = true)
    (k19 : PySem.W.keepIn K (.ref f19) = true)
    (a20 : PySem.W.findIn K (.ref C) "check_plate" = some (some (.ref f20)))
    (i20 : PySem.W.isFn K (.ref f20) = true)
    (l20 : K.lookup f20 = some ⟨oc20, od20, .func (PySem.W.fnOf "check_plate" "Disk.check_plate" (defArgs sCheck) (defBody sCheck) (defScope sCheck) .none kV20 dc20 pm20 an20 cd20 ct20), sl20⟩)
    (c20 : PySem.W.codeIn K cd20 "Disk.check_plate" = true)
    (k20 : PySem.W.keepIn K (.ref f20) = true)
    (pg : PySem.W.plainGet K C Str.empty = true)
    (hd : PySem.W.hasDictIn K C = true)
    (po : PySem.W.plainOver K C = true)
    (sa : PySem.W.findIn K (.ref C) "__setattr__" = some (some (.builtin "object.__setattr__")))
    (mk : PySem.W.makesIn K C = true)
    (kc : PySem.W.keepIn K (.ref C) = true)
    (n_many : PySem.W.findIn K (.ref C) "many" = some none)
    (n_settled : PySem.W.findIn K (.ref C) "settled" = some none)
    (n_loose : PySem.W.findIn K (.ref C) "loose" = some none)
    (v_WIDTH : PySem.W.nsIn K mainGlobals "WIDTH" = some (some (.int 8 tk0)))
    (v_HEAD_PLATES : PySem.W.nsIn K mainGlobals "HEAD_PLATES" = some (some (.int 2 tk1)))
    (v_LOG_NUMBERS : PySem.W.nsIn K mainGlobals "LOG_NUMBERS" = some (some (.int 4 tk2)))
    (z_isinstance : PySem.W.nsIn K mainGlobals "isinstance" = some none)
    (z_int : PySem.W.nsIn K mainGlobals "int" = some none)
    (z_bool : PySem.W.nsIn K mainGlobals "bool" = some none)
    (z_tuple : PySem.W.nsIn K mainGlobals "tuple" = some none)
    (z_len : PySem.W.nsIn K mainGlobals "len" = some none)
    (z_all : PySem.W.nsIn K mainGlobals "all" = some none)
    (z_enumerate : PySem.W.nsIn K mainGlobals "enumerate" = some none)
    (z_range : PySem.W.nsIn K mainGlobals "range" = some none)
    (z_sum : PySem.W.nsIn K mainGlobals "sum" = some none)
    (z_max : PySem.W.nsIn K mainGlobals "max" = some none)
    (z_list : PySem.W.nsIn K mainGlobals "list" = some none)
    (z_abs : PySem.W.nsIn K mainGlobals "abs" = some none)
    : ∃ fd : FuncData, (∀ (s : Shared) (v : Value), BindsTo s fd ⟨[v], []⟩ [("script", v)]) ∧ ∀ base : Heap, K.In base → base.Ns mainGlobals mg → FnOk l.prog w K mg base CX0 6 fa fd ["script"] (spLaw K) := by
  have e := hfa.symm.trans (PySem.W.mg_of X G a16)
  cases e
  have b_isinstance : mg "isinstance" = none := PySem.W.mg_none_of X G z_isinstance
  have b_int : mg "int" = none := PySem.W.mg_none_of X G z_int
  have b_bool : mg "bool" = none := PySem.W.mg_none_of X G z_bool
  have b_tuple : mg "tuple" = none := PySem.W.mg_none_of X G z_tuple
  have b_len : mg "len" = none := PySem.W.mg_none_of X G z_len
  have b_all : mg "all" = none := PySem.W.mg_none_of X G z_all
  have b_enumerate : mg "enumerate" = none := PySem.W.mg_none_of X G z_enumerate
  have b_range : mg "range" = none := PySem.W.mg_none_of X G z_range
  have b_sum : mg "sum" = none := PySem.W.mg_none_of X G z_sum
  have b_max : mg "max" = none := PySem.W.mg_none_of X G z_max
  have b_list : mg "list" = none := PySem.W.mg_none_of X G z_list
  have b_abs : mg "abs" = none := PySem.W.mg_none_of X G z_abs
  have m_WIDTH := PySem.W.mg_of X G v_WIDTH
  have m_HEAD_PLATES := PySem.W.mg_of X G v_HEAD_PLATES
  have m_LOG_NUMBERS := PySem.W.mg_of X G v_LOG_NUMBERS
  have T : DTxt K C := ⟨⟨pg, hd, po, sa⟩, n_many, n_settled, n_loose⟩
  have B : LTxt mg := ⟨b_range, b_enumerate, b_int, b_len, b_list, b_tuple, b_max⟩
  have F1 := fun_mk (st := sCells) l1 c1 k1
  have b1 := F1.binds (ps := ["value"]) fun _ _ _ _ _ _ us hl => match us, hl with | [_], _ => rfl
  have F2 := fun_mk (st := sSlot) l2 c2 k2
  have b2 := F2.binds (ps := ["slots", "slot"]) fun _ _ _ _ _ _ us hl => match us, hl with | [_, _], _ => rfl
  have F3 := fun_mk (st := sRows) l3 c3 k3
  have b3 := F3.binds (ps := ["group", "changes"]) fun _ _ _ _ _ _ us hl => match us, hl with | [_, _], _ => rfl
  have F4 := fun_mk (st := sIsLog) l4 c4 k4
  have b4 := F4.binds (ps := ["value"]) fun _ _ _ _ _ _ us hl => match us, hl with | [_], _ => rfl
  have F5 := fun_mk (st := sWg) l5 c5 k5
  have b5 := F5.binds (ps := ["disk", "slots", "slot", "group"]) fun _ _ _ _ _ _ us hl => match us, hl with | [_, _, _, _], _ => rfl
  have F6 := fun_mk (st := sSlotsOf) l6 c6 k6
  have b6 := F6.binds (ps := ["groups"]) fun _ _ _ _ _ _ us hl => match us, hl with | [_], _ => rfl
  have F7 := fun_mk (st := sRg) l7 c7 k7
  have b7 := F7.binds (ps := ["disk", "slots", "head"]) fun _ _ _ _ _ _ us hl => match us, hl with | [_, _, _], _ => rfl
  have F8 := fun_mk (st := sLast) l8 c8 k8
  have b8 := F8.binds (ps := ["disk", "slots"]) fun _ _ _ _ _ _ us hl => match us, hl with | [_, _], _ => rfl
  have F9 := fun_mk (st := sNum) l9 c9 k9
  have b9 := F9.binds (ps := ["script", "index"]) fun _ _ _ _ _ _ us hl => match us, hl with | [_, _], _ => rfl
  have F10 := fun_mk (st := sTake) l10 c10 k10
  have b10 := F10.binds (ps := ["draw", "many"]) fun _ _ _ _ _ _ us hl => match us, hl with | [_, _], _ => rfl
  have F11 := fun_mk (st := sPick) l11 c11 k11
  have b11 := F11.binds (ps := ["draw", "items"]) fun _ _ _ _ _ _ us hl => match us, hl with | [_, _], _ => rfl
  have F12 := fun_mk (st := sChg) l12 c12 k12
  have b12 := F12.binds (ps := ["draw", "most"]) fun _ _ _ _ _ _ us hl => match us, hl with | [_, _], _ => rfl
  have F13 := fun_mk (st := sLlog) l13 c13 k13
  have b13 := F13.binds (ps := ["value"]) fun _ _ _ _ _ _ us hl => match us, hl with | [_], _ => rfl
  have F14 := fun_mk (st := sLgrp) l14 c14 k14
  have b14 := F14.binds (ps := ["row", "slots", "slot", "group"]) fun _ _ _ _ _ _ us hl => match us, hl with | [_, _, _, _], _ => rfl
  have F15 := fun_mk (st := sLgrps) l15 c15 k15
  have b15 := F15.binds (ps := ["row", "slots", "head"]) fun _ _ _ _ _ _ us hl => match us, hl with | [_, _, _], _ => rfl
  have F16 := fun_mk (st := sLaw) l16 c16 k16
  have b16 := F16.binds (ps := ["script"]) fun _ _ _ _ _ _ us hl => match us, hl with | [_], _ => rfl
  have F17 := fun_mk (st := sInit) l17 c17 k17
  have b17 := F17.binds (ps := ["self", "many"]) fun _ _ _ _ _ _ us hl => match us, hl with | [_, _], _ => rfl
  have F18 := fun_mk (st := sWrite) l18 c18 k18
  have b18 := F18.binds (ps := ["self", "plate", "value"]) fun _ _ _ _ _ _ us hl => match us, hl with | [_, _, _], _ => rfl
  have F19 := fun_mk (st := sNow) l19 c19 k19
  have b19 := F19.binds (ps := ["self", "plate"]) fun _ _ _ _ _ _ us hl => match us, hl with | [_, _], _ => rfl
  have F20 := fun_mk (st := sCheck) l20 c20 k20
  have b20 := F20.binds (ps := ["self", "plate"]) fun _ _ _ _ _ _ us hl => match us, hl with | [_, _], _ => rfl
  have F0 : FunD K "is_whole" "is_whole" (defArgs sWhole) (defBody sWhole) (defScope sWhole) [.non, .non] [] f0 _ := ⟨⟨oc0, od0, .ref T0, kV0, dc0, pm0, an0, cd0, ct0, sl0, rfl, l0, c0, .inr ⟨by simp, T0, _, [.none, .none], nT, rfl, lT, rfl, .cons rfl (.cons rfl .nil)⟩, .inl rfl⟩, k0⟩
  obtain ⟨ds1, v1, bw1⟩ := F0.binds1 (ps := ["thing", "low", "high"]) 1 0 (by simp) rfl (fun _ _ _ _ _ _ _ us its h1 h2 => match us, its, h1, h2 with | [_], [_, _], _, _ => ⟨_, rfl, rfl⟩)
  obtain ⟨ds2, v2, bw2⟩ := F0.binds1 (ps := ["thing", "low", "high"]) 2 1 (by simp) rfl (fun _ _ _ _ _ _ _ us its h1 h2 => match us, its, h1, h2 with | [_, _], [_, _], _, _ => ⟨_, rfl, rfl⟩)
  obtain ⟨ds3, v3, bw3⟩ := F0.binds1 (ps := ["thing", "low", "high"]) 3 2 (by simp) rfl (fun _ _ _ _ _ _ _ us its h1 h2 => match us, its, h1, h2 with | [_, _, _], [_, _], _, _ => ⟨_, rfl, rfl⟩)
  cases v3
  refine ⟨PySem.W.fnOf "law" "law" (defArgs sLaw) (defBody sLaw) (defScope sLaw) .none kV16 dc16 pm16 an16 cd16 ct16, fun s v => .of_eq rfl, fun base _ _ => ?_⟩
  have GW := ok_whole (P := l.prog) (w := w) (mg := mg) (base := base) F0 b_isinstance b_int b_bool
  have GC := ok_cells (P := l.prog) (w := w) (base := base) F1 GW k0 (PySem.W.mg_of X G a0) bw1 v1 b_isinstance b_tuple b_len b_all m_WIDTH
  have GL := ok_isLog (P := l.prog) (w := w) (base := base) F4 GW k0 (PySem.W.mg_of X G a0) bw1 v1 bw2 v2 bw3 GC k1 (PySem.W.mg_of X G a1) b1 b_isinstance b_tuple m_LOG_NUMBERS
  have GS := ok_slot (P := l.prog) (w := w) (K := K) (mg := mg) (base := base) F2 m_HEAD_PLATES
  have GI := ok_init (P := l.prog) (w := w) (K := K) (mg := mg) (base := base) F17 T
  have GK := ok_check (P := l.prog) (w := w) (base := base) F20 T GW k0 (PySem.W.mg_of X G a0) bw3
  have GWr := ok_write (P := l.prog) (w := w) (base := base) F18 T GK ⟨a20, i20, k20⟩ b20
  have GN := ok_now (P := l.prog) (w := w) (base := base) F19 T GK ⟨a20, i20, k20⟩ b20
  have GR := ok_rows (P := l.prog) (w := w) (base := base) F3 b_len b_enumerate
  have W : WTxt l.prog w K mg base C f19 f2 f4 _ _ _ _ := ⟨T, GN, ⟨a19, i19, k19⟩, b19, GS, k2, (PySem.W.mg_of X G a2), b2, GL, k4, (PySem.W.mg_of X G a4), b4, b_range, b_tuple, m_LOG_NUMBERS⟩
  have GG := ok_wg (base := base) F5 W
  have GZ := ok_slotsOf (P := l.prog) (w := w) (base := base) F6 b_len b_sum
  have GRg := ok_rg (base := base) F7 GG k5 (PySem.W.mg_of X G a5) b5 GZ k6 (PySem.W.mg_of X G a6) b6 b_len b_tuple
  have GLa := ok_last (base := base) F8 W b_max
  have GNu := ok_num (P := l.prog) (w := w) (base := base) F9 b_int b_len b_abs
  have GT := ok_take (base := base) F10 GNu k9 (PySem.W.mg_of X G a9) b9 b_int
  have GP := ok_pick (base := base) F11 GT k10 (PySem.W.mg_of X G a10) b10 b_len
  have GCh := ok_chg (base := base) F12 GT k10 (PySem.W.mg_of X G a10) b10 b_range b_tuple
  have GLL := ok_llog (P := l.prog) (w := w) (base := base) F13 b_isinstance b_tuple b_len b_all b_int b_bool
  have GLg := ok_lgrp (base := base) F14 GLL k13 (PySem.W.mg_of X G a13) b13 b_int b_range b_list b_tuple
  have GLs := ok_lgrps (base := base) F15 GLg k14 (PySem.W.mg_of X G a14) b14 b_len b_tuple
  exact ok_law F16 B T ⟨GT, k10, (PySem.W.mg_of X G a10), b10⟩ ⟨GP, k11, (PySem.W.mg_of X G a11), b11⟩ ⟨GCh, k12, (PySem.W.mg_of X G a12), b12⟩ ⟨GR, k3, (PySem.W.mg_of X G a3), b3⟩ ⟨mk, a17, i17, kc⟩ (PySem.W.mg_of X G aC) GI b17 ⟨a18, i18, k18⟩ GWr b18 ⟨GS, k2, (PySem.W.mg_of X G a2), b2⟩ ⟨GL, k4, (PySem.W.mg_of X G a4), b4⟩ ⟨GLL, k13, (PySem.W.mg_of X G a13), b13⟩ ⟨GLa, k8, (PySem.W.mg_of X G a8), b8⟩ ⟨GRg, k7, (PySem.W.mg_of X G a7), b7⟩ ⟨GLs, k15, (PySem.W.mg_of X G a15), b15⟩ ⟨GG, k5, (PySem.W.mg_of X G a5), b5⟩ ⟨GLg, k14, (PySem.W.mg_of X G a14), b14⟩
theorem walk {l : PySem.W.OpenLaw} {q : Program} {loose : List Str} {XP : (Str → Option Value) → Heap → Prop} {YP : World → Heap → Prop} {d : DefRec} {K : Params → PySem.W.Frag} (hn : l.most = some 63) (hdf : d.params.defaults = [])
    (hY : ∀ (w : World) (h : Heap), YP w h → (K w.params).In h)
    (F : ∀ (w : World) (mg : Str → Option Value) (fa : Addr) (h : Heap), (K w.params).In h → h.Ns mainGlobals mg → mg d.name = some (.ref fa) →
      ∃ fd : FuncData, (∀ (s : Shared) (u : Value), BindsTo s fd ⟨[u], []⟩ [("script", u)]) ∧ ∀ base : Heap, (K w.params).In base → base.Ns mainGlobals mg → FnOk l.prog w (K w.params) mg base CX0 6 fa fd ["script"] (spLaw (K w.params))) :
    PySem.W.WalkO q loose XP YP l.row.toRowW d [] (fun f vs => PySem.call f vs) :=
  L2.walk_of (n := 63) (k := 6) (x := "script") (CX := fun _ => CX0) (sp := fun w => spLaw (K w.params)) hn (by decide) hdf ⟨rfl, by decide, by decide⟩ hY F (fun _ _ a ns hl _ hS => ⟨a, ns, rfl, hS, hl, fun _ => rfl⟩) fun _ _ _ _ _ z => z
end Pf

set_option Elab.async false
open PySem PySem.W PyProof.Rows
set_option maxRecDepth 100000 in
set_option maxHeartbeats 0 in
theorem PySem.Challenge.cw_plugproof_k32_whole_groups_holds : PySem.Challenge.rw_plugproof_k32_whole_groups.Holds := by
  w_on; o_law; k_head; (case hw => w_witness2)
  k_fill
  refine Pf.walk (l := PySem.Challenge.rw_plugproof_k32_whole_groups) rfl rfl (fun w h Y => PySem.W.kIn_of Y) ?F
  case F =>
    intro w mg fa h KX G hmg
    refine' Pf.all_mk KX G hmg ?aC ?a0 ?l0 ?lT ?c0 ?k0 ?a1 ?l1 ?c1 ?k1 ?a2 ?l2 ?c2 ?k2 ?a3 ?l3 ?c3 ?k3 ?a4 ?l4 ?c4 ?k4 ?a5 ?l5 ?c5 ?k5 ?a6 ?l6 ?c6 ?k6 ?a7 ?l7 ?c7 ?k7 ?a8 ?l8 ?c8 ?k8 ?a9 ?l9 ?c9 ?k9 ?a10 ?l10 ?c10 ?k10 ?a11 ?l11 ?c11 ?k11 ?a12 ?l12 ?c12 ?k12 ?a13 ?l13 ?c13 ?k13 ?a14 ?l14 ?c14 ?k14 ?a15 ?l15 ?c15 ?k15 ?a16 ?l16 ?c16 ?k16 ?a17 ?i17 ?l17 ?c17 ?k17 ?a18 ?i18 ?l18 ?c18 ?k18 ?a19 ?i19 ?l19 ?c19 ?k19 ?a20 ?i20 ?l20 ?c20 ?k20 ?pg ?hd ?po ?sa ?mk ?kc ?n_many ?n_settled ?n_loose ?v_WIDTH ?v_HEAD_PLATES ?v_LOG_NUMBERS ?z_isinstance ?z_int ?z_bool ?z_tuple ?z_len ?z_all ?z_enumerate ?z_range ?z_sum ?z_max ?z_list ?z_abs
    (case aC => k_is)
    (case a0 => k_is)
    (case l0 => k_is)
    (case lT => k_is)
    (case c0 => k_is)
    (case k0 => k_is)
    (case a1 => k_is)
    (case l1 => k_is)
    (case c1 => k_is)
    (case k1 => k_is)
    (case a2 => k_is)
    (case l2 => k_is)
    (case c2 => k_is)
    (case k2 => k_is)
    (case a3 => k_is)
    (case l3 => k_is)
    (case c3 => k_is)
    (case k3 => k_is)
    (case a4 => k_is)
    (case l4 => k_is)
    (case c4 => k_is)
    (case k4 => k_is)
    (case a5 => k_is)
    (case l5 => k_is)
    (case c5 => k_is)
    (case k5 => k_is)
    (case a6 => k_is)
    (case l6 => k_is)
    (case c6 => k_is)
    (case k6 => k_is)
    (case a7 => k_is)
    (case l7 => k_is)
    (case c7 => k_is)
    (case k7 => k_is)
    (case a8 => k_is)
    (case l8 => k_is)
    (case c8 => k_is)
    (case k8 => k_is)
    (case a9 => k_is)
    (case l9 => k_is)
    (case c9 => k_is)
    (case k9 => k_is)
    (case a10 => k_is)
    (case l10 => k_is)
    (case c10 => k_is)
    (case k10 => k_is)
    (case a11 => k_is)
    (case l11 => k_is)
    (case c11 => k_is)
    (case k11 => k_is)
    (case a12 => k_is)
    (case l12 => k_is)
    (case c12 => k_is)
    (case k12 => k_is)
    (case a13 => k_is)
    (case l13 => k_is)
    (case c13 => k_is)
    (case k13 => k_is)
    (case a14 => k_is)
    (case l14 => k_is)
    (case c14 => k_is)
    (case k14 => k_is)
    (case a15 => k_is)
    (case l15 => k_is)
    (case c15 => k_is)
    (case k15 => k_is)
    (case a16 => k_is)
    (case l16 => k_is)
    (case c16 => k_is)
    (case k16 => k_is)
    (case a17 => k_is)
    (case i17 => k_is)
    (case l17 => k_is)
    (case c17 => k_is)
    (case k17 => k_is)
    (case a18 => k_is)
    (case i18 => k_is)
    (case l18 => k_is)
    (case c18 => k_is)
    (case k18 => k_is)
    (case a19 => k_is)
    (case i19 => k_is)
    (case l19 => k_is)
    (case c19 => k_is)
    (case k19 => k_is)
    (case a20 => k_is)
    (case i20 => k_is)
    (case l20 => k_is)
    (case c20 => k_is)
    (case k20 => k_is)
    (case pg => k_is)
    (case hd => k_is)
    (case po => k_is)
    (case sa => k_is)
    (case mk => k_is)
    (case kc => k_is)
    (case n_many => k_is)
    (case n_settled => k_is)
    (case n_loose => k_is)
    (case v_WIDTH => k_is)
    (case v_HEAD_PLATES => k_is)
    (case v_LOG_NUMBERS => k_is)
    (case z_isinstance => k_is)
    (case z_int => k_is)
    (case z_bool => k_is)
    (case z_tuple => k_is)
    (case z_len => k_is)
    (case z_all => k_is)
    (case z_enumerate => k_is)
    (case z_range => k_is)
    (case z_sum => k_is)
    (case z_max => k_is)
    (case z_list => k_is)
    (case z_abs => k_is)
