import PyProof.Rows.All
import Wide.All
import OpenK.AllK
import Wide.FinOn
import HandS.ForMost
import HandS.IsInst
import HandS.Defaults
import HandS.TupAny
import HandS.TupMul
import HandS.Style
import HandS.Conv
import HandS.Walk
import KE.GoesEnum
import PySem.Challenge.RW_plugproof_k39_whole_wrong_lines
import HandS.More
import HandS.RaiseMore
import HandS.Small
import HandS.TryOnly
import HandS.WordsExc
import HandS.Iter
import HandS.Dict
import KE.DataMinMax
import KE.SortData
import KE.KEqDict
import HandS.TupSets
import HandS.Text
import HandS.FStr
import HandS.Steps
import HandS.ExcSuper
import HandS.ExcField
import HandS.ExcCtx
import HandS.ExcOwn
import HandS.HotCalls
import HandS.ExcInitHot
import HandS.CallSlots
import KE.KxIndex
set_option Elab.async false
namespace Pf
open PySem PySem.Spec PyProof.Rows L2
def topS (i : Nat) : Stmt := PySem.Challenge.pw_plugproof_k39_whole_wrong_lines.main.body.getD i (.Pass ⟨0, 0, 0, 0⟩)
abbrev sBiI : Stmt := inClass (topS 3) 0
abbrev sWhole : Stmt := topS 5
abbrev sBpI : Stmt := inClass (topS 7) 0
abbrev sInit : Stmt := inClass (topS 10) 0
abbrev sWrite : Stmt := inClass (topS 10) 1
abbrev sBar : Stmt := inClass (topS 10) 2
abbrev sNow : Stmt := inClass (topS 10) 3
abbrev sVers : Stmt := inClass (topS 10) 4
abbrev sCount : Stmt := inClass (topS 10) 5
abbrev sFallen : Stmt := inClass (topS 10) 6
abbrev sCan : Stmt := inClass (topS 10) 7
abbrev sCheck : Stmt := inClass (topS 10) 8
abbrev sNw : Stmt := topS 14
abbrev sSnw : Stmt := topS 15
abbrev sNin : Stmt := topS 16
abbrev sFigs : Stmt := topS 17
abbrev sWordAt : Stmt := topS 18
abbrev sVt : Stmt := topS 21
abbrev sWd : Stmt := topS 22
abbrev sIvw : Stmt := topS 23
abbrev sVo : Stmt := topS 24
abbrev sCw : Stmt := topS 25
abbrev sRm : Stmt := topS 26
abbrev sRl : Stmt := topS 27
abbrev sRdk : Stmt := topS 28
abbrev sNum : Stmt := topS 30
abbrev sTake : Stmt := topS 31
abbrev sPick : Stmt := topS 32
abbrev sLDisk : Stmt := topS 33
abbrev sFault : Stmt := topS 34
abbrev sLaw : Stmt := topS 35
end Pf

set_option Elab.async false
set_option linter.all false
set_option maxRecDepth 100000
set_option maxHeartbeats 4000000
namespace Pf
open PySem PySem.Spec PyProof.Rows L2

theorem same_upd {H : Hp} {p : Addr} {o : HO} (h : H p = none) : Same H (upd H p o) := fun b x e => by
  rw [upd_ne (ne_of_none e h)]
  exact e
theorem same_seqT {K : PySem.W.Frag} {H H' : Hp} {a : Addr} {xs : List V} (e : Same H H') (h : SqT K H a xs) : SqT K H' a xs := by
  rcases h with (h | ⟨o, h⟩) | h
  · exact .inl (.inl (e _ _ h))
  · exact .inl (.inr ⟨o, e _ _ h⟩)
  · exact .inr h
section
variable {K : PySem.W.Frag} {H H' : Hp}
mutual
theorem dp_same (e : Same H H') : ∀ (d : PyData) (v : V), Dp K H v d → Dp K H' v d
  | .none, _, h => by cases h; exact .non
  | .bool b, _, h => by cases h; exact .bl b
  | .int i, _, h => by cases h; exact .int i
  | .str x, _, h => by cases h; exact .str x
  | .list ds, _, h => by cases h with | lst hs ha => exact .lst (Same.seq e hs) (dps_same e ds _ ha)
  | .tuple ds, _, h => by cases h with | tup hs ha => exact .tup (same_seqT e hs) (dps_same e ds _ ha)
  | .dict _, _, h => by cases h
theorem dps_same (e : Same H H') : ∀ (ds : List PyData) (vs : List V), DpAll K H vs ds → DpAll K H' vs ds
  | [], _, h => by cases h; exact .nil
  | d :: ds, _, h => by cases h with | cons h1 h2 => exact .cons (dp_same e d _ h1) (dps_same e ds _ h2)
end
theorem dps_ints : ∀ ns : List Int, DpAll K H (ns.map V.int) (ns.map PyData.int)
  | [] => .nil
  | n :: ns => .cons (.int n) (dps_ints ns)
theorem dps_len : ∀ {vs : List V} {ds : List PyData}, DpAll K H vs ds → vs.length = ds.length
  | [], _, h => by cases h; rfl
  | v :: vs, _, h => by cases h with | cons h1 h2 => simp [dps_len h2]
theorem dps_get : ∀ {vs : List V} {ds : List PyData} {i : Nat} {v : V}, DpAll K H vs ds → vs[i]? = some v → ∃ d, ds[i]? = some d ∧ Dp K H v d
  | [], _, i, v, h, e => by simp at e
  | x :: vs, _, 0, v, h, e => by
    cases h with
    | cons h1 h2 =>
      cases (Option.some.inj e)
      exact ⟨_, rfl, h1⟩
  | x :: vs, _, i + 1, v, h, e => by
    cases h with
    | cons h1 h2 =>
      obtain ⟨d, e1, e2⟩ := dps_get h2 (show vs[i]? = some v from e)
      exact ⟨d, e1, e2⟩
theorem dps_app : ∀ {vs ws : List V} {ds es : List PyData}, DpAll K H vs ds → DpAll K H ws es → DpAll K H (vs ++ ws) (ds ++ es)
  | [], _, _, _, h, g => by cases h; exact g
  | v :: vs, _, _, _, h, g => by cases h with | cons h1 h2 => exact .cons h1 (dps_app h2 g)
theorem dps_set : ∀ {vs : List V} {ds : List PyData} {v : V} {d : PyData} (i : Nat), DpAll K H vs ds → Dp K H v d → DpAll K H (vs.set i v) (ds.set i d)
  | [], _, _, _, _, h, _ => by cases h; exact .nil
  | x :: vs, _, v, d, 0, h, q => by cases h with | cons h1 h2 => exact .cons q h2
  | x :: vs, _, v, d, i + 1, h, q => by cases h with | cons h1 h2 => exact .cons h1 (dps_set i h2 q)
theorem tyx_tup {a : Addr} {xs : List V} (h : SqT K H a xs) : TyX K H (.ref a) (.type "tuple") := by
  rcases h with (h | ⟨o, h⟩) | ⟨o, its, n, h, c, _⟩
  · exact .base (.tup h)
  · exact .fTuple h
  · exact .kTuple h c
theorem tyx_lst {a : Addr} {xs : List V} (h : SqL K H a xs) : TyX K H (.ref a) (.type "list") := by
  rcases h with (h | ⟨o, h⟩) | ⟨o, its, n, h, c, _⟩
  · exact .base (.lst h)
  · exact .base (.frz h)
  · exact .kList h c
end
def intB : PyData → Bool | .int _ => true | .bool _ => true | _ => false
def boolB : PyData → Bool | .bool _ => true | _ => false
section
variable {K : PySem.W.Frag} {H : Hp} {v : V} {d : PyData}
theorem isi_int (h : Dp K H v d) : ∃ t, TyX K H v t ∧ PySem.W.kitOne K t (.type "int") = some (intB d) := by
  cases h with
  | non => exact ⟨_, .base .non, kit_ty (show kitB "NoneType" "int" = some false by decide +kernel)⟩
  | bl b => exact ⟨_, .base (.bl b), kit_ty (show kitB "bool" "int" = some true by decide +kernel)⟩
  | int i => exact ⟨_, .base (.int i), kit_ty (show kitB "int" "int" = some true by decide +kernel)⟩
  | str x => exact ⟨_, .base (.str x), kit_ty (show kitB "str" "int" = some false by decide +kernel)⟩
  | lst hs _ => exact ⟨_, tyx_lst hs, kit_ty (show kitB "list" "int" = some false by decide +kernel)⟩
  | tup hs _ => exact ⟨_, tyx_tup hs, kit_ty (show kitB "tuple" "int" = some false by decide +kernel)⟩
theorem isi_bool (h : Dp K H v d) : ∃ t, TyX K H v t ∧ PySem.W.kitOne K t (.type "bool") = some (boolB d) := by
  cases h with
  | non => exact ⟨_, .base .non, kit_ty (show kitB "NoneType" "bool" = some false by decide +kernel)⟩
  | bl b => exact ⟨_, .base (.bl b), kit_ty (show kitB "bool" "bool" = some true by decide +kernel)⟩
  | int i => exact ⟨_, .base (.int i), kit_ty (show kitB "int" "bool" = some false by decide +kernel)⟩
  | str x => exact ⟨_, .base (.str x), kit_ty (show kitB "str" "bool" = some false by decide +kernel)⟩
  | lst hs _ => exact ⟨_, tyx_lst hs, kit_ty (show kitB "list" "bool" = some false by decide +kernel)⟩
  | tup hs _ => exact ⟨_, tyx_tup hs, kit_ty (show kitB "tuple" "bool" = some false by decide +kernel)⟩
end
theorem get_list {X : Cx} : PGet X (rIxL X.K) := by
  intro pins s σ H x y v u Q I rx ry h
  obtain ⟨p, xs, i, z, rfl, rfl, hq, he, q⟩ := h
  cases rx
  obtain ⟨t, rfl⟩ := ry
  obtain ⟨its, r, pl, hz⟩ := I.list hq
  obtain ⟨j, h1, h2, h3, h4, h5⟩ := atI_get he
  obtain ⟨w, ew, rw'⟩ := r.get h2
  have hl := r.length
  have hn := line63
  have fin : EP X pins σ Q w s := ⟨z, H, I, rw', q⟩
  by_cases h0 : 0 ≤ i
  · have hj : i.toNat = j := by
      rw [seqIndex_of h0 h5] at h1
      exact Option.some.inj h1
    exact wpAny_getItem_list pl.isList h0 (by omega) (by rw [hj]; simpa using ew) fin
  · have hj : (i + (its.toArray.size : Int)).toNat = j := by
      rw [seqIndex_neg (by omega) h4] at h1
      rw [List.size_toArray, ← hl]
      exact Option.some.inj h1
    exact wpAny_getItem_list_neg pl.isList (by omega) (by rw [List.size_toArray] <;> omega) (by omega) (by rw [hj]; simpa using ew) fin

set_option maxHeartbeats 1000000 in
theorem meets_enum1 {v : Value} {o : Obj} {H : Heap → Prop} (B : Begins v o H) :
    Meets (Builtin.«enumerate.__new__» ⟨[.type "enumerate", v], []⟩) (fun _ R s => H s.heap ∧
      R (.ok (.ret (.ref (s.heap.push o).objs.size))) { s with heap := (s.heap.push o).push { cls := .type "enumerate", data := .fields #[.none, .bool false, .ref s.heap.objs.size, rawInt 0, .none, .none] } }) :=
  .of_wp fun prog w A R s h => by
    obtain ⟨hp, g, d, tk, os⟩ := s; obtain ⟨h1, h⟩ := h
    have hsub := sub_enumerate
    have q1 : ∀ {A' : Around} {E : Value → Shared → Prop} {Q : Value → Shared → Prop}, Q (.ref hp.objs.size) ⟨hp.push o, g, d, tk, os⟩ → wpAny (model prog w) A' (pyIter v) Q E ⟨hp, g, d, tk, os⟩ :=
      fun q => B.iter prog w _ _ ⟨hp, g, d, tk, os⟩ _ h1 q
    wp_walk using q1
    refine wpAny_stack_any fun st => wpAny_pure ?_
    split
    · rename_i c _ _ _ _ _
      cases (c == Value.type "enumerate")
      · wp_walk using q1
        exact ⟨_, rfl, h⟩
      · wp_walk using q1
        exact ⟨_, rfl, h⟩
    · wp_walk using q1
      exact ⟨_, rfl, h⟩
theorem call_enum1 {prog : Program} {w : World} {A : Around} {E : Value → Shared → Prop} {s : Shared} {v : Value} {o : Obj} {H : Heap → Prop} {Q : Value → Shared → Prop} (B : Begins v o H) (h1 : H s.heap)
    (h : ∀ h', IsEnum h' (s.heap.objs.size + 1) s.heap.objs.size 0 .none → h'.get? s.heap.objs.size = some o → h'.objs.size = s.heap.objs.size + 2 →
      (∀ b o, s.heap.get? b = some o → h'.get? b = some o) → Q (.ref (s.heap.objs.size + 1)) { s with heap := h' }) :
    wpAny (model prog w) A (call (.type "enumerate") [v]) Q E s := by
  refine callType_new F.called_enumerate (by decide) (F.typeCall_enumerate_1 _) (F.newCall_enumerate_1 _) (fun obj => F.args_object_init_2 obj _) F.entry_enumerate_new
    (meets_enum1 B) ⟨h1, ?_⟩
  have hz : (s.heap.push o).objs.size = s.heap.objs.size + 1 := Heap.size_push ..
  show _ ∧ _
  rw [hz]
  have he : IsEnum ((s.heap.push o).push { cls := .type "enumerate", data := .fields #[.none, .bool false, .ref s.heap.objs.size, rawInt 0, .none, .none] }) (s.heap.objs.size + 1) s.heap.objs.size 0 .none := by
    have := Heap.get?_push_size (s.heap.push o) (o := { cls := .type "enumerate", data := .fields #[.none, .bool false, .ref s.heap.objs.size, rawInt 0, .none, .none] }) rfl
    rw [hz] at this; exact this
  refine ⟨⟨_, he, rfl⟩, h _ he (Heap.get?_push_of_some _ (Heap.get?_push_size _ B.free)) (by rw [Heap.size_push, hz]) fun b o x => Heap.get?_push_of_some _ (Heap.get?_push_of_some _ x)⟩
def IteT (K : PySem.W.Frag) (a : Addr) : It :=
  ⟨fun i H => ∃ (xs : List V) (x : V), SqT K H a xs ∧ xs[i]? = some x, fun i H v H' => ∃ T x, v = .ref T ∧ H T = none ∧ H' = upd H T (.tup [.int (i : Nat), x]) ∧ ∀ xs, SqT K H a xs → xs[i]? = some x, fun i H => ∃ xs : List V, SqT K H a xs ∧ xs.length = i⟩
theorem turn_enumT {P : Program} {w : World} {K : PySem.W.Frag} {elts : List Expr} {kk : Nat} {tpos : Pos} (a e it : Addr) :
    Turn P w K (.Tuple elts kk tpos) (IteT K a) [e, it] e (fun i h => (∃ old, IsEnum h e it ((i : Nat) : Int) old) ∧ h.IsTupleIter it a i ∧ e ≠ it) where
  mem := by simp
  obj := fun i h st b hb => by
    obtain ⟨⟨old, he⟩, ⟨o, ho, hc, hd⟩, _⟩ := st
    have e' : b = e ∨ b = it := by simpa using hb
    rcases e' with z | z
    · rw [z]; exact ⟨_, he, fun v q => nomatch q⟩
    · rw [z]; exact ⟨o, ho, fun v q => by rw [hd] at q; cases q⟩
  keep := fun i h h' st k => let ⟨⟨old, he⟩, hi, hne⟩ := st; ⟨⟨old, k e (by simp) _ he⟩, hi.at fun o q => k it (by simp) o q, hne⟩
  item := by
    intro X hP hw hK hc i pins s σ H E I hf st hg
    subst hP hw hK
    obtain ⟨⟨old, he⟩, hit, hne⟩ := st
    obtain ⟨xs, x, hq, hx⟩ := hg
    obtain ⟨its, rv, p, hz⟩ := I.tuple hq
    obtain ⟨u, hu, ru⟩ := rv.get hx
    have hel : e < s.heap.objs.size := Heap.lt_size he
    have hil : it < s.heap.objs.size := by obtain ⟨_, q, _⟩ := hit; exact Heap.lt_size q
    have hai : a ≠ it := by
      rintro rfl
      obtain ⟨o1, q1, c1, _⟩ := hit
      obtain ⟨o2, q2, c2, _⟩ := p
      rw [q1] at q2
      cases q2
      rw [c1] at c2
      exact absurd c2 (by decide)
    have hea : e ≠ a := by
      rintro rfl
      obtain ⟨o2, q2, c2, _⟩ := p
      have q3 := he.symm.trans q2
      cases q3
      simp at c2
    have hlt : i < its.toArray.size := by
      rw [List.size_toArray, ← rv.length]
      exact (List.getElem?_eq_some_iff.mp hx).1
    refine wpAny_pyNext_enum_itemD (Draws.tuple (A := X.A.in1) (I.ok.hd hc) it a hai its.toArray) he ⟨hit, p⟩ hlt hne (by simp [hne, hea]) fun y h' tk hy ho hst hT hsz hk => ?_
    have eyu : y = u := by
      have h2 : its.toArray[i]? = some u := by simpa using hu
      exact Option.some.inj ((show its.toArray[i]? = some y from hy).symm.trans h2)
    subst eyu
    refine ⟨_, rfl, wpAny_letOwnedTupleGo_enum (s := { s with heap := h', toks := tk + 1 }) ho fun h'' he' sb => ?_⟩
    have hT2 : h''.get? s.heap.objs.size = some { cls := .type "tuple", data := .seq #[.int i tk, y] } := (sb.2 _ (Nat.ne_of_gt hel)).trans hT
    have new : ObjOk X.prog X.w (upd H s.heap.objs.size (.tup [.int (i : Nat), x])) h'' s.heap.objs.size (.tup [.int (i : Nat), x]) :=
      ⟨by show 2 ≤ sizeLine; decide, [.int i tk, y], .cons ⟨_, rfl⟩ (.cons ru .nil), ⟨_, hT2, rfl, _, rfl⟩⟩
    have I1 : Inv X pins σ (upd H s.heap.objs.size (.tup [.int (i : Nat), x])) { s with heap := h'', toks := tk + 1 } :=
      I.turnedNew (ch := [e, it]) (fun b ob hb q => (sb.2 b (fun z => hb (by simp [z]))).trans (hk b ob (fun z => hb (by simp [z])) (fun z => hb (by simp [z])) q)) hf (Nat.le_refl _) new
    refine ⟨.ref s.heap.objs.size, _, I1, rfl, ⟨_, x, rfl, I.hok.fresh (Nat.le_refl _), rfl, fun ys hy => by rw [I.tuple_inj hy hq]; exact hx⟩, ⟨⟨y, ?_⟩, hst.1.at fun o q => (sb.2 it (Ne.symm hne)).trans q, hne⟩, fun b hb => ?_⟩
    · have e1 : ((i + 1 : Nat) : Int) = (i : Int) + 1 := by omega
      rw [e1]; exact he'
    · have hb' : b < s.heap.objs.size := by
        have e' : b = e ∨ b = it := by simpa using hb
        rcases e' with z | z
        · rw [z]; exact hel
        · rw [z]; exact hil
      rw [upd_ne (Nat.ne_of_lt hb')]
      exact (hf b hb).1
  done := by
    intro X hP hw hK hc i pins s σ H E I hf st hg
    subst hP hw hK
    obtain ⟨⟨old, he⟩, hit, hne⟩ := st
    obtain ⟨xs, hq, hx⟩ := hg
    obtain ⟨its, rv, p, hz⟩ := I.tuple hq
    obtain ⟨f0, f1, f2, f3, f4, f5⟩ := hf it (by simp)
    have hl := rv.length
    have hai : a ≠ it := by
      rintro rfl
      obtain ⟨o1, q1, c1, _⟩ := hit
      obtain ⟨o2, q2, c2, _⟩ := p
      rw [q1] at q2
      cases q2
      rw [c1] at c2
      exact absurd c2 (by decide)
    have en : its.toArray.size = i := by rw [List.size_toArray, ← hl]; exact hx
    exact wpAny_pyNext_enum_endD (Draws.tuple (A := X.A.in1) (I.ok.hd hc) it a hai its.toArray) he (by rw [en]; exact ⟨hit, p⟩) fun h' eb => ⟨rfl, I.turned (t' := s.toks) (fun b o hb q => eb b o hb q) f0 f1 f3 f4 f5⟩
  self := fun A i s Q E st h => let ⟨⟨_, he⟩, _⟩ := st; wpAny_pyIter_enum he h
def iEnumT (K : PySem.W.Frag) (ta : TA) : TI := fun σ H R => ta σ H fun vs H1 => ∃ a xs, vs = [.ref a] ∧ SqT K H1 a xs ∧ R (IteT K a) H1
theorem pi_enumT {X : Cx} {e : Expr} {ta : TA} {p pos tpos : Pos} {elts : List Expr} {kk : Nat} (hg : Gl X "enumerate") (hm : X.mg "enumerate" = none) (ha : PA X [e] ta) (hs : starEach [e] X.env = [(false, eval e X.env)] := by rfl) :
    PI X (.Tuple elts kk tpos) (.Call (.Name "enumerate" p) [e] [] pos) (iEnumT X.K ta) := by
  refine ⟨fun pins s σ H R I h => ?_⟩
  refine Call_ (ld_blt I hg hm boot_enumerate (PyProof.Rows.callWith_type1 (thn (ha.run pos pins s σ H _ I h) fun us s1 ⟨vs, H1, I1, r1, q1⟩ => ?_) hs rfl))
  obtain ⟨a, xs, ex, hq, q⟩ := q1
  subst ex
  cases r1 with
  | cons r rr =>
    cases rr
    cases r
    obtain ⟨its, rv, p', hz⟩ := I1.tuple hq
    refine call_enum1 (begins_tuple a its.toArray) p' fun h' he hit hsz hk => wpAny_pyIter_enum he ?_
    have I2 : Inv X pins σ H1 { s1 with heap := h' } := I1.kept (t' := s1.toks) hk
    refine ⟨s1.heap.objs.size + 1, [s1.heap.objs.size + 1, s1.heap.objs.size], _, _, H1, rfl, I2, turn_enumT a (s1.heap.objs.size + 1) s1.heap.objs.size, ⟨⟨.none, he⟩, ⟨_, hit, rfl, rfl⟩, Nat.succ_ne_self _⟩, fun b hb => ?_, q⟩
    have e' : b = s1.heap.objs.size + 1 ∨ b = s1.heap.objs.size := by simpa using hb
    have hle : s1.heap.objs.size ≤ b := by
      rcases e' with z | z
      · rw [z]; exact Nat.le_add_right _ _
      · rw [z]; exact Nat.le_refl _
    exact I1.fpOk hle (I1.hok.fresh hle)
theorem walk_enumT {K : PySem.W.Frag} {a : Addr} {xs : List V} : Walk (IteT K a) xs.length (fun H => SqT K H a xs) (YPair (fun i => some (.int (i : Nat))) (fun i => xs[i]?)) := by
  refine ⟨fun i _ hi q => ⟨xs, xs[i], q, by simp [hi]⟩, fun _ q => ⟨xs, q, rfl⟩, fun i H v H' _ q y => ?_⟩
  obtain ⟨T, x, h1, h2, h3, h4⟩ := y
  exact ⟨T, .int (i : Nat), x, h1, h2, h3, rfl, h4 xs q⟩
end Pf

set_option Elab.async false
set_option linter.all false
set_option maxRecDepth 100000
set_option maxHeartbeats 4000000
namespace Pf
open PySem PySem.Spec PyProof.Rows L2
theorem scWhole : FnScope ["thing", "low", "high"] ["thing", "low", "high"] (defScope sWhole) := ⟨rfl, rfl, rfl, by decide +kernel, rfl, by decide +kernel, by decide +kernel⟩
def loB (i : Int) : Option Int → Bool
  | none => true
  | some l => decide (l ≤ i)
def hiB (i : Int) : Option Int → Bool
  | none => true
  | some h => decide (i ≤ h)
def wholeB (d : PyData) (lo hi : Option Int) : Bool := match d with
  | .int i => loB i lo && hiB i hi
  | _ => false
def optV : Option Int → V
  | none => .non
  | some i => .int i
def spWhole (K : PySem.W.Frag) : Sp := fun vs H Q _ => ∃ v d lo hi, vs = [v, optV lo, optV hi] ∧ Dp K H v d ∧ Q (.bl (wholeB d lo hi)) H
section
variable {P : Program} {w : World} {K : PySem.W.Frag} {mg : Str → Option Value} {base : Heap}
theorem ok_whole {f : Addr} {fd : FuncData} {kws : List (Str × V)} (F : FunD K "is_whole" "is_whole" (defArgs sWhole) (defBody sWhole) (defScope sWhole) [.non, .non] kws f fd) (mi : mg "isinstance" = none) (mt : mg "int" = none) (mb : mg "bool" = none) :
    FnOk P w K mg base CX0 1 f fd ["thing", "low", "high"] (spWhole K) := by
  refine F.ok scWhole (fun vs H Q E h => ?_) (fun cdv A outer s H vs Q E hr h => ?_)
  · obtain ⟨v, d, lo, hi, rfl, _⟩ := h
    rfl
  · obtain ⟨v, d, lo, hi, rfl, hd, q⟩ := h
    refine ⟨_, pss_cons (ps_if (PW.pt (pw_or (pt_not (pt_val (pe_callB call_isi (by rfl) mi (by decide +kernel) (pa_cons (pv 0) (pa_cons (pe_bltn (v := .ty "int") (by rfl) mt boot_int rfl) pa_nil)))))
        (pw_or1 (pt_val (pe_callB call_isi (by rfl) mi (by decide +kernel) (pa_cons (pv 0) (pa_cons (pe_bltn (v := .ty "bool") (by rfl) mb boot_bool rfl) pa_nil))))))) (pss_one (ps_ret pe_bl)) pss_nil)
      (pss_cons (ps_if (PW.pt (pw_and (pt_cmpR op_notN (pv 1) pe_non (nomark _)) (pw_and1 (pt_cmpR op_lt (pv 0) (pv 1) (nomark _))))) (pss_one (ps_ret pe_bl)) pss_nil)
      (pss_one (ps_ret (pe_or (pe_cmp (pc_isN (pv 2))) (pe_one (pe_cmp (pc_le (pv 0) (pv 2)))))))), ?_⟩
    obtain ⟨t, ty, kt⟩ := isi_int hd
    obtain ⟨t2, ty2, kt2⟩ := isi_bool hd
    refine ⟨_, rfl, _, _, t, _, _, rfl, .ty _, ty, kt, _, rfl, ?_⟩
    cases hd with
    | non => exact iteT (iteT q)
    | str x => exact iteT (iteT q)
    | lst _ _ => exact iteT (iteT q)
    | tup _ _ => exact iteT (iteT q)
    | bl b => exact iteF ⟨_, rfl, _, _, t2, _, _, rfl, .ty _, ty2, kt2, _, rfl, iteT q⟩
    | int i =>
      refine iteF ⟨_, rfl, _, _, t2, _, _, rfl, .ty _, ty2, kt2, _, rfl, iteF ?_⟩
      have fin : ∀ b : Bool, Q (.bl (b && hiB i hi)) H → b = true → tRet (tOrV (tIsN (tVar 2)) (tLe (tVar 0) (tVar 2))) { nx := fun _ H' => Q .non H', rt := Q } [some (V.int i), some (optV lo), some (optV hi)] H := by
        intro b q hb
        subst hb
        cases hi with
        | none => exact ⟨_, rfl, _, rfl, iteT q⟩
        | some h => exact ⟨_, rfl, _, rfl, iteF ⟨_, rfl, _, rfl, i, h, rfl, rfl, q⟩⟩
      cases lo with
      | none => exact ⟨_, rfl, rfl, _, rfl, iteF (iteF (fin true q rfl))⟩
      | some l =>
        refine ⟨_, rfl, rfl, _, rfl, iteT ⟨_, rfl, _, rfl, i, l, rfl, rfl, _, rfl, ite2 (fun hc => ?_) (fun hc => ?_)⟩⟩
        · have hl : i < l := of_decide_eq_true hc
          have e : wholeB (.int i) (some l) hi = false := by
            show (decide (l ≤ i) && _) = false
            rw [decide_eq_false (by omega)]
            rfl
          rw [e] at q
          exact q
        · have hl : ¬ i < l := fun z => hc (decide_eq_true z)
          exact fin (decide (l ≤ i)) q (decide_eq_true (by omega))
theorem tyes_go {σ : L2.St} {H : Hp} {A B : Hp → Prop} (h : A H) : tYes σ H (fun b H3 => if b = true then A H3 else B H3) := by
  show if true = true then A H else B H
  rw [if_pos rfl]
  exact h
end
end Pf

set_option Elab.async false
set_option linter.all false
set_option maxRecDepth 100000
set_option maxHeartbeats 4000000
namespace Pf
open PySem PySem.Spec PyProof.Rows L2

def Off (cs : List Addr) (H : Hp) : Hp := fun b => if b ∈ cs then none else H b
theorem off_in {cs : List Addr} {H : Hp} {b : Addr} (h : b ∈ cs) : Off cs H b = none := by unfold Off; rw [if_pos h]
theorem off_out {cs : List Addr} {H : Hp} {b : Addr} (h : b ∉ cs) : Off cs H b = H b := by unfold Off; rw [if_neg h]
theorem off_le {cs : List Addr} {H : Hp} : Same (Off cs H) H := fun b o e => by
  by_cases h : b ∈ cs
  · rw [off_in h] at e; cases e
  · rw [off_out h] at e; exact e
def But (cs : List Addr) (H H' : Hp) : Prop := Same (Off cs H) H'
theorem But.at {cs : List Addr} {H H' : Hp} (s : But cs H H') {b : Addr} {o : HO} (h : H b = some o) (n : b ∉ cs) : H' b = some o := s b o (by rw [off_out n]; exact h)
theorem But.of {cs : List Addr} {H H' : Hp} (s : Same H H') : But cs H H' := (off_le).trans s
theorem But.off {cs ds : List Addr} {H H' : Hp} (s : But cs H H') (h : ∀ c ∈ cs, c ∈ ds) : Same (Off ds H) (Off ds H') := fun b o e => by
  by_cases hb : b ∈ ds
  · rw [off_in hb] at e; cases e
  · rw [off_out hb] at e ⊢
    exact s b o (by rw [off_out (fun z => hb (h b z))]; exact e)

theorem cut_from (xs : List V) (n : Nat) : cutV xs (some (n : Int)) none = xs.drop n := by
  unfold cutV
  rw [HT.sIx_nat, HT.sIx_none]
  by_cases h : n ≤ xs.length
  · rw [Nat.min_eq_left h]
    exact List.take_of_length_le (by rw [List.length_drop]; omega)
  · rw [Nat.min_eq_right (by omega), List.drop_of_length_le (by omega), List.drop_of_length_le (by omega)]
    exact List.take_nil
section
variable {P : Program} {w : World} {K : PySem.W.Frag} {mg : Str → Option Value} {base : Heap}
end
end Pf

set_option Elab.async false
set_option linter.all false
set_option maxRecDepth 100000
set_option maxHeartbeats 4000000
namespace Pf
open PySem PySem.Spec PyProof.Rows L2
theorem n_ml : ¬ (("many" : Str) = "loose") := by decide +kernel
theorem n_ms : ¬ (("many" : Str) = "settled") := by decide +kernel
theorem n_sl : ¬ (("settled" : Str) = "loose") := by decide +kernel
theorem n_sm : ¬ (("settled" : Str) = "many") := by decide +kernel
theorem n_lm : ¬ (("loose" : Str) = "many") := by decide +kernel
theorem n_ls : ¬ (("loose" : Str) = "settled") := by decide +kernel
def fl (n : Int) (s l : Addr) : List (Str × V) := putF "loose" (.ref l) (putF "settled" (.ref s) (putF "many" (.int n) []))
theorem fl_eq (n : Int) (s l : Addr) : fl n s l = ([("many", V.int n), ("settled", V.ref s), ("loose", V.ref l)] : List (Str × V)) := by
  unfold fl
  simp only [putF, if_neg n_ms, if_neg n_sm, if_neg n_ml, if_neg n_lm, if_neg n_sl, if_neg n_ls]
theorem fl_many (n : Int) (s l : Addr) : (fl n s l).lookup ("many" : Str) = some (.int n) := by
  unfold fl
  rw [lookup_putF, if_neg n_ml, lookup_putF, if_neg n_ms, lookup_putF, if_pos rfl]
theorem fl_settled (n : Int) (s l : Addr) : (fl n s l).lookup ("settled" : Str) = some (.ref s) := by
  unfold fl
  rw [lookup_putF, if_neg n_sl, lookup_putF, if_pos rfl]
theorem fl_loose (n : Int) (s l : Addr) : (fl n s l).lookup ("loose" : Str) = some (.ref l) := by
  unfold fl
  rw [lookup_putF, if_pos rfl]
theorem fl_no (n : Int) (s l : Addr) {m : Str} (h1 : ¬ m = "loose") (h2 : ¬ m = "settled") (h3 : ¬ m = "many") : (fl n s l).lookup m = none := by
  unfold fl
  rw [lookup_putF, if_neg h1, lookup_putF, if_neg h2, lookup_putF, if_neg h3]
  rfl
theorem fl_len (n : Int) (s l : Addr) : (fl n s l).length < 1000 := by
  rw [fl_eq]
  show 3 < 1000
  decide
theorem fl_put_loose (n : Int) (s l l' : Addr) : putF "loose" (.ref l') (fl n s l) = fl n s l' := by
  rw [fl_eq, fl_eq]
  simp only [putF, if_neg n_ms, if_neg n_sm, if_neg n_ml, if_neg n_lm, if_neg n_sl, if_neg n_ls, if_pos]
def LsAt (H : Hp) (ts : List V) (lv : List (Int × V)) : Prop := ts.length = lv.length ∧ ∀ (i : Nat) (q : Int × V), lv[i]? = some q → ∃ b, ts[i]? = some (.ref b) ∧ H b = some (.tup [.int q.1, q.2])
theorem LsAt.same {H H' : Hp} {ts : List V} {lv : List (Int × V)} (h : LsAt H ts lv) (s : Same H H') : LsAt H' ts lv := ⟨h.1, fun i q e => by
  obtain ⟨b, e1, e2⟩ := h.2 i q e
  exact ⟨b, e1, s _ _ e2⟩⟩
def DiskAt (C : Addr) (H : Hp) (d : Addr) (n : Int) (sv : List V) (lv : List (Int × V)) : Prop :=
  ∃ dx s l ts, H d = some (.ins C dx (fl n s l)) ∧ H s = some (.tup sv) ∧ sv.length = n.toNat ∧ 0 ≤ n ∧ H l = some (.tup ts) ∧ LsAt H ts lv
theorem DiskAt.same {C : Addr} {H H' : Hp} {d : Addr} {n : Int} {sv : List V} {lv : List (Int × V)} (h : DiskAt C H d n sv lv) (s : Same H H') : DiskAt C H' d n sv lv := by
  obtain ⟨dx, a, b, ts, h1, h2, h3, h4, h5, h6⟩ := h
  exact ⟨dx, a, b, ts, s _ _ h1, s _ _ h2, h3, h4, s _ _ h5, h6.same s⟩
structure DTxt (K : PySem.W.Frag) (C : Addr) : Prop where
  cl : Cls K C
  nM : NoAttr K C "many"
  nS : NoAttr K C "settled"
  nL : NoAttr K C "loose"

theorem scInit : FnScope ["self", "many"] ["self", "many"] (defScope sInit) := ⟨rfl, rfl, rfl, by decide +kernel, rfl, by decide +kernel, by decide +kernel⟩
theorem scWrite : FnScope ["self", "plate", "value"] ["self", "plate", "value"] (defScope sWrite) := ⟨rfl, rfl, rfl, by decide +kernel, rfl, by decide +kernel, by decide +kernel⟩
theorem scCheck : FnScope ["self", "plate"] ["self", "plate"] (defScope sCheck) := ⟨rfl, rfl, rfl, by decide +kernel, rfl, by decide +kernel, by decide +kernel⟩
section
variable {P : Program} {w : World} {K : PySem.W.Frag} {mg : Str → Option Value} {base : Heap} {C : Addr}
def spInit (C : Addr) : Sp := fun vs H Q _ => ∃ (d dx : Addr) (n : Int), vs = [.ref d, .int n] ∧ H d = some (.ins C dx []) ∧ 2 ≤ n ∧ n ≤ 1000 ∧
  ∀ H' e, But [d] H H' → H e = none → H' e = some (.tup []) → DiskAt C H' d n (List.replicate n.toNat (.ref e)) [] → Q .non H'
theorem ok_init {f : Addr} {fd : FuncData} (F : Fun K "__init__" "Disk.__init__" sInit f fd) (T : DTxt K C) : FnOk P w K mg base CX0 1 f fd ["self", "many"] (spInit C) := by
  refine F.ok scInit (fun vs H Q E h => ?_) (fun cdv A outer s H vs Q E hr h => ?_)
  · obtain ⟨d, dx, n, rfl, _⟩ := h
    rfl
  · obtain ⟨d, dx, n, rfl, hd, h2, h3, k⟩ := h
    refine ⟨_, pss_cons (ps_fld (pv 0) (pv 1) rfl) (pss_cons (ps_fld (pv 0) (pe_op op_repT (pe_tup (pa_cons (pe_tup pa_nil) pa_nil)) (pv 1)) rfl) (pss_one (ps_fld (pv 0) (pe_tup pa_nil) rfl))), ?_⟩
    refine ⟨_, rfl, _, rfl, d, C, dx, [], rfl, hd, T.cl, T.nM, (by show 0 < 1000; decide), ?_⟩
    refine ⟨Nat.zero_le _, fun e he => ⟨by show 1 ≤ sizeLine; decide, fun u hu => ?_⟩⟩
    have ned : e ≠ d := fun z => by rw [z, upd_same] at he; cases he
    have nue : u ≠ e := fun z => by rw [z, upd_same] at hu; cases hu
    have nud : u ≠ d := fun z => by rw [z, upd_ne ned.symm, upd_same] at hu; cases hu
    refine ⟨_, rfl, u, n, [.ref e], rfl, rfl, SqT.of upd_same, by simp, h2, h3, by show 1 ≤ 1000; decide, fun s' hs => ?_⟩
    have nsu : s' ≠ u := fun z => by rw [z, upd_same] at hs; cases hs
    have nse : s' ≠ e := fun z => by rw [z, upd_ne nue.symm, upd_same] at hs; cases hs
    have nsd : s' ≠ d := fun z => by rw [z, upd_ne nud.symm, upd_ne ned.symm, upd_same] at hs; cases hs
    refine ⟨_, rfl, d, C, dx, putF "many" (.int n) [], rfl, by rw [upd_ne nsd.symm, upd_ne nud.symm, upd_ne ned.symm, upd_same], T.cl, T.nS, (by show 1 < 1000; decide), ?_⟩
    refine ⟨Nat.zero_le _, fun l hl => ?_⟩
    have nld : l ≠ d := fun z => by rw [z, upd_same] at hl; cases hl
    have nls : l ≠ s' := fun z => by rw [z, upd_ne nsd, upd_same] at hl; cases hl
    have nlu : l ≠ u := fun z => by rw [z, upd_ne nud, upd_ne nsu.symm, upd_same] at hl; cases hl
    have nle : l ≠ e := fun z => by rw [z, upd_ne ned, upd_ne nse.symm, upd_ne nue.symm, upd_same] at hl; cases hl
    have he0 : H e = none := by rw [upd_ne ned] at he; exact he
    have hu0 : H u = none := by rw [upd_ne nue, upd_ne nud] at hu; exact hu
    have hs0 : H s' = none := by rw [upd_ne nsu, upd_ne nse, upd_ne nsd] at hs; exact hs
    have hl0 : H l = none := by rw [upd_ne nld, upd_ne nls, upd_ne nlu, upd_ne nle, upd_ne nld] at hl; exact hl
    refine ⟨_, rfl, d, C, dx, putF "settled" (.ref s') (putF "many" (.int n) []), rfl, by rw [upd_ne nld.symm, upd_same], T.cl, T.nL, ?_, ?_⟩
    · show (if ("many" : Str) = "settled" then _ else (("many" : Str), V.int n) :: putF "settled" (V.ref s') []).length < 1000
      rw [if_neg n_ms]
      show 2 < 1000
      decide
    refine k _ e (fun b o q => ?_) he0 ?_ ⟨dx, s', l, [], upd_same, ?_, ?_, by omega, ?_, ⟨rfl, fun i q z => by simp at z⟩⟩
    · have hb : b ∉ [d] := fun z => by rw [off_in z] at q; cases q
      rw [off_out hb] at q
      have nbd : b ≠ d := fun z => hb (by rw [z]; simp)
      rw [upd_ne nbd, upd_ne (ne_of_none q hl0), upd_ne nbd, upd_ne (ne_of_none q hs0), upd_ne (ne_of_none q hu0), upd_ne (ne_of_none q he0), upd_ne nbd]
      exact q
    · rw [upd_ne ned, upd_ne nle.symm, upd_ne ned, upd_ne nse.symm, upd_ne nue.symm, upd_same]
    · rw [upd_ne nsd, upd_ne nls.symm, upd_ne nsd, upd_same, List.flatten_replicate_singleton]
    · rw [List.length_replicate]
    · rw [upd_ne nld, upd_same]
def spCheck (C : Addr) : Sp := fun vs H Q _ => ∃ (d : Addr) (n p : Int) (sv : List V) (lv : List (Int × V)), vs = [.ref d, .int p] ∧ DiskAt C H d n sv lv ∧ 0 ≤ p ∧ p < n ∧ Q .non H
theorem ok_check {f fW : Addr} {fd fdW : FuncData} (F : Fun K "check_plate" "Disk.check_plate" sCheck f fd) (T : DTxt K C) (GW : FnOk P w K mg base CX0 1 fW fdW ["thing", "low", "high"] (spWhole K)) (kW : PySem.W.keepIn K (.ref fW) = true) (gW : mg "is_whole" = some (.ref fW))
    (b3 : Binds K fdW ["thing", "low", "high"] []) : FnOk P w K mg base CX0 2 f fd ["self", "plate"] (spCheck C) := by
  refine F.ok scCheck (fun vs H Q E h => ?_) (fun cdv A outer s H vs Q E hr h => ?_)
  · obtain ⟨d, n, p, sv, lv, rfl, _⟩ := h
    rfl
  · obtain ⟨d, n, p, sv, lv, rfl, D, h0, h1, k⟩ := h
    obtain ⟨dx, a, b, ts, e1, e2, e3, e4, e5, e6⟩ := id D
    refine ⟨_, pss_one (ps_if (pt_not (pt_val (pe_call GW hr rfl gW kW b3 .nil pass0 (pa_cons (pv 1) (pa_cons pe_int (pa_cons (pe_op op_sub (pe_fld (pv 0) rfl) pe_int) pa_nil)))))) (pss_one ps_never) pss_nil), ?_⟩
    refine ⟨_, rfl, _, rfl, d, C, dx, _, _, rfl, e1, T.cl, T.nM, fl_many _ _ _, _, _, rfl, rfl, .int p, .int p, some 0, some (n - 1), rfl, .int p, _, rfl, ?_⟩
    have e : wholeB (.int p) (some 0) (some (n - 1)) = true := by
      show (decide (0 ≤ p) && decide (p ≤ n - 1)) = true
      rw [decide_eq_true h0, decide_eq_true (by omega)]
      rfl
    rw [e]
    exact iteF k
def spWrite (C : Addr) : Sp := fun vs H Q _ => ∃ (d : Addr) (n p : Int) (v : V) (sv : List V) (lv : List (Int × V)), vs = [.ref d, .int p, v] ∧ DiskAt C H d n sv lv ∧ 0 ≤ p ∧ p < n ∧ lv.length ≤ 1000 ∧
  ∀ H', But [d] H H' → DiskAt C H' d n sv (lv ++ [(p, v)]) → Q .non H'
theorem ok_write {f fK : Addr} {fd fdK : FuncData} (F : Fun K "write" "Disk.write" sWrite f fd) (T : DTxt K C) (GK : FnOk P w K mg base CX0 2 fK fdK ["self", "plate"] (spCheck C)) (mK : Meth K C "check_plate" fK) (bK : Binds K fdK ["self", "plate"] []) :
    FnOk P w K mg base CX0 3 f fd ["self", "plate", "value"] (spWrite C) := by
  refine F.ok scWrite (fun vs H Q E h => ?_) (fun cdv A outer s H vs Q E hr h => ?_)
  · obtain ⟨d, n, p, v, sv, lv, rfl, _⟩ := h
    rfl
  · obtain ⟨d, n, p, v, sv, lv, rfl, D, h0, h1, hz, k⟩ := h
    obtain ⟨dx, a, b, ts, e1, e2, e3, e4, e5, e6⟩ := id D
    refine ⟨_, pss_cons (ps_expr (pe_meth (pv 0) T.cl mK GK hr bK .nil pass0 (pa_cons (pv 1) pa_nil)))
      (pss_one (ps_fld (pv 0) (pe_op op_catA (pe_fld (pv 0) rfl) (pe_tup (pa_cons (pe_tup (pa_cons (pv 1) (pa_cons (pv 2) pa_nil))) pa_nil))) rfl)), ?_⟩
    refine ⟨_, rfl, d, dx, _, rfl, e1, fl_no _ _ _ (by decide +kernel) (by decide +kernel) (by decide +kernel), _, rfl, d, n, p, sv, lv, rfl, D, h0, h1, ?_⟩
    refine ⟨_, rfl, d, C, dx, _, _, rfl, e1, T.cl, T.nL, fl_loose _ _ _, ?_⟩
    refine ⟨_, rfl, _, rfl, by show 2 ≤ sizeLine; decide, fun u hu => ⟨by show 1 ≤ sizeLine; decide, fun u2 hu2 => ?_⟩⟩
    have nu2 : u2 ≠ u := fun z => by rw [z, upd_same] at hu2; cases hu2
    have hu20 : H u2 = none := by rw [upd_ne nu2] at hu2; exact hu2
    have s2 : Same H (upd (upd H u (.tup [.int p, v])) u2 (.tup [.ref u])) := (same_upd hu).trans (same_upd hu2)
    have hlen : ts.length = lv.length := e6.1
    -- behind: the new tuple of pairs stands at c
    have fin : ∀ (c : Addr) (H2 : Hp), Same (upd (upd H u (.tup [.int p, v])) u2 (.tup [.ref u])) H2 → H2 c = some (.tup (ts ++ [.ref u])) →
        ∃ v1, (L2.start ["self", "plate", "value"] [V.ref d, V.int p, v])[0]? = some (some v1) ∧ ∃ a C' dx' fs, v1 = V.ref a ∧ H2 a = some (.ins C' dx' fs) ∧ Cls K C' ∧ NoAttr K C' "loose" ∧ fs.length < 1000 ∧ Q .non (upd H2 a (.ins C' dx' (putF "loose" (.ref c) fs))) := by
      intro c H2 s hc
      have s' : Same H H2 := s2.trans s
      refine ⟨_, rfl, d, C, dx, _, rfl, s' _ _ e1, T.cl, T.nL, fl_len _ _ _, ?_⟩
      rw [fl_put_loose]
      have nd : ∀ {q : Addr} {xs : List V}, H2 q = some (.tup xs) → q ≠ d := fun h z => by
        rw [z, s' _ _ e1] at h
        cases h
      refine k _ (fun q o z => ?_) ⟨dx, a, c, ts ++ [.ref u], upd_same, ?_, e3, e4, ?_, ?_, ?_⟩
      · have hb : q ∉ [d] := fun y => by rw [off_in y] at z; cases z
        rw [off_out hb] at z
        rw [upd_ne (fun y => hb (by rw [y]; simp))]
        exact s' _ _ z
      · rw [upd_ne (nd (s' _ _ e2))]
        exact s' _ _ e2
      · rw [upd_ne (nd hc)]
        exact hc
      · rw [List.length_append, List.length_append, hlen]
        rfl
      · intro i q z
        by_cases hi : i < lv.length
        · rw [List.getElem?_append_left hi] at z
          obtain ⟨b', y1, y2⟩ := e6.2 i q z
          refine ⟨b', ?_, ?_⟩
          · rw [List.getElem?_append_left (by omega)]
            exact y1
          · rw [upd_ne (nd (s' _ _ y2))]
            exact s' _ _ y2
        · rw [List.getElem?_append_right (by omega)] at z
          have hi0 : i - lv.length = 0 := by
            have := (List.getElem?_eq_some_iff.mp z).1
            simp at this
            omega
          rw [hi0] at z
          cases (Option.some.inj z)
          refine ⟨u, ?_, ?_⟩
          · rw [List.getElem?_append_right (by omega), hlen, hi0]
            rfl
          · have hu' : H2 u = some (.tup [.int p, v]) := s _ _ (by rw [upd_ne nu2.symm, upd_same])
            rw [upd_ne (nd hu')]
            exact hu'
    refine ⟨b, u2, ts, [.ref u], rfl, rfl, SqT.of (s2 _ _ e5), SqT.of upd_same, ?_, fun z => ?_, fun _ z => absurd z (by simp), fun _ _ c hc => ?_⟩
    · rw [hlen]
      have := small1000 (n := 1000) (by decide)
      show lv.length + 1 ≤ sizeLine
      omega
    · subst z
      exact fin u2 _ (Same.refl _) upd_same
    · exact fin c _ (same_upd hc) upd_same
end
end Pf

set_option Elab.async false
set_option linter.all false
set_option maxRecDepth 100000
set_option maxHeartbeats 4000000
namespace Pf
open PySem PySem.Spec PyProof.Rows L2
theorem lay_ints : ∀ ns : List Int, PyData.canLayAll0 (ns.map PyData.int) = true
  | [] => by simp [PyData.canLayAll0]
  | n :: ns => by simp [PyData.canLayAll0, PyData.canLay0, lay_ints ns]
theorem dep_ints : ∀ ns : List Int, PyData.depthAll (ns.map PyData.int) = 0
  | [] => by simp [PyData.depthAll]
  | n :: ns => by simp [PyData.depthAll, PyData.depth, dep_ints ns]
theorem shaped_list {ds : List PyData} (h1 : PyData.canLayAll0 ds = true) (h2 : PyData.depthAll ds ≤ 60) : SeqAt.shaped (.list ds) = true := by
  have h3 : PyData.depth (.list ds) ≤ 64 := by
    simp only [PyData.depth]
    omega
  show (PyData.canLay0 (.list ds) && decide (PyData.depth (.list ds) ≤ 64)) = true
  rw [Bool.and_eq_true]
  exact ⟨by simp only [PyData.canLay0]; exact h1, decide_eq_true h3⟩
theorem shaped_tup {ds : List PyData} (h1 : PyData.canLayAll0 ds = true) (h2 : PyData.depthAll ds ≤ 60) : SeqAt.shaped (.tuple ds) = true := by
  have h3 : PyData.depth (.tuple ds) ≤ 64 := by
    simp only [PyData.depth]
    omega
  show (PyData.canLay0 (.tuple ds) && decide (PyData.depth (.tuple ds) ≤ 64)) = true
  rw [Bool.and_eq_true]
  exact ⟨by simp only [PyData.canLay0]; exact h1, decide_eq_true h3⟩
theorem scNum : FnScope ["script", "index", "cell", "blend"] ["script", "index"] (defScope sNum) := ⟨rfl, rfl, rfl, by decide +kernel, rfl, by decide +kernel, by decide +kernel⟩
theorem scTake : FnScope ["draw", "many"] ["draw", "many"] (defScope sTake) := ⟨rfl, rfl, rfl, by decide +kernel, rfl, by decide +kernel, by decide +kernel⟩
theorem scPick : FnScope ["draw", "items"] ["draw", "items"] (defScope sPick) := ⟨rfl, rfl, rfl, by decide +kernel, rfl, by decide +kernel, by decide +kernel⟩
section
variable {P : Program} {w : World} {K : PySem.W.Frag} {mg : Str → Option Value} {base : Heap}
def spNum (K : PySem.W.Frag) : Sp := fun vs H Q _ => ∃ (a : Addr) (ns : List Int) (i : Int), vs = [.ref a, .int i] ∧ SqL K H a (ns.map V.int) ∧ ns.length ≤ 63 ∧ ∀ r H', Same H H' → Q (.int r) H'
theorem ok_num {f : Addr} {fd : FuncData} (F : Fun K "_law_number" "_law_number" sNum f fd) (mi : mg "int" = none) (ml : mg "len" = none) (ma : mg "abs" = none) : FnOk P w K mg base CX0 1 f fd ["script", "index"] (spNum K) := by
  refine F.ok scNum (fun vs H Q E h => ?_) (fun cdv A outer s H vs Q E hr h => ?_)
  · obtain ⟨a, ns, i, rfl, _⟩ := h
    rfl
  · obtain ⟨a, ns, i, rfl, hS, hlen, k⟩ := h
    refine ⟨_, pss_cons (ps_if (pt_cmpR (op_eqD hr.units) (pv 0) (pe_lst pa_nil) (nomark _))
        (pss_one (ps_ret (pe_callTy call_int1 (by rfl) mi boot_int (pa_cons (pe_op op_mod (pe_op op_add (pe_op op_mul (pv 1) pe_int) pe_int) pe_int) pa_nil)))) pss_nil)
      (pss_cons (ps_set (i := 2) scNum.nd rfl (.inl rfl) (pe_ix ix_list (pv 0) (pe_op op_mod (pv 1) (pe_callB call_len_seq (by rfl) ml boot_len (pa_cons (pv 0) pa_nil))) (fun _ _ => rfl)))
      (pss_cons (ps_if (pt_cmpR op_ge (pe_callB call_abs (by rfl) ma (by decide +kernel) (pa_cons (pv 2) pa_nil)) (pe_op op_pow pe_int pe_int) (nomark _))
        (pss_one (ps_set (i := 2) scNum.nd rfl (.inl rfl) (pe_op op_mod (pv 2) (pe_op op_pow pe_int pe_int)))) pss_nil)
      (pss_cons (ps_set (i := 3) scNum.nd rfl (.inl rfl) (pe_op op_mod (pe_op op_add (pe_op op_mul (pe_op op_add (pv 2) (pe_op op_mul pe_int (pv 1))) pe_int) (pe_op op_mul pe_int (pe_callB call_len_seq (by rfl) ml boot_len (pa_cons (pv 0) pa_nil)))) pe_int))
      (pss_one (ps_ret (pe_callTy call_int1 (by rfl) mi boot_int (pa_cons (pe_op op_mod (pe_op op_add (pe_op op_mul (pe_op op_mod (pe_op op_mul (pv 3) pe_int) pe_int) pe_int) (pv 1)) pe_int) pa_nil))))))), ?_⟩
    refine ⟨_, rfl, Nat.zero_le _, fun p hp => ?_⟩
    have s1 : Same H (upd H p (.lst [])) := same_upd hp
    have hS1 : SqL K (upd H p (.lst [])) a (ns.map V.int) := s1.seq hS
    refine ⟨.list (ns.map PyData.int), .list [], .lst hS1 (dps_ints ns), .lst (SqL.of upd_same) .nil, shaped_list (lay_ints ns) (by rw [dep_ints]; decide), shaped_list (by simp [PyData.canLayAll0]) (by simp [PyData.depthAll]), _, rfl, ?_⟩
    cases ns with
    | nil =>
      have e : PyData.eqv (.list (([] : List Int).map PyData.int)) (.list []) = true := by simp [PyData.eqv, PyData.eqvAll]
      rw [e]
      exact iteT ⟨_, rfl, _, _, rfl, rfl, .inr ⟨by decide, by decide⟩, _, _, rfl, rfl, _, _, rfl, rfl, (by show (0 : Int) < 2147483647; decide), .inl ⟨_, rfl, k _ _ s1⟩⟩
    | cons n0 ns =>
      have e : PyData.eqv (.list ((n0 :: ns).map PyData.int)) (.list []) = false := by simp [PyData.eqv, PyData.eqvAll]
      rw [e]
      have hpos : (0 : Int) < (((n0 :: ns).map V.int).length : Nat) := by simp
      have hj0 : 0 ≤ i % (((n0 :: ns).map V.int).length : Nat) := Int.emod_nonneg _ (by omega)
      have hj1 : i % (((n0 :: ns).map V.int).length : Nat) < (((n0 :: ns).map V.int).length : Nat) := Int.emod_lt_of_pos _ hpos
      obtain ⟨j, ej⟩ : ∃ j : Nat, i % (((n0 :: ns).map V.int).length : Nat) = (j : Int) := ⟨_, (Int.toNat_of_nonneg hj0).symm⟩
      have hjl : j < (n0 :: ns).length := by
        rw [ej, List.length_map] at hj1
        omega
      have hat : atI ((n0 :: ns).map V.int) (i % (((n0 :: ns).map V.int).length : Nat)) = some (.int ((n0 :: ns)[j])) := by
        rw [ej]
        exact atI_nat (by rw [List.getElem?_map, List.getElem?_eq_getElem hjl]; rfl)
      refine iteF ⟨_, rfl, _, rfl, _, rfl, a, _, rfl, .inl hS1, _, _, rfl, rfl, hpos, a, _, _, _, rfl, rfl, hS1, hat, ?_⟩
      refine ⟨_, rfl, _, rfl, _, _, rfl, rfl, ⟨by decide, by decide, by decide⟩, _, _, rfl, rfl, _, rfl, ite2 (fun _ => ?_) (fun _ => ?_)⟩
      · refine ⟨_, rfl, _, _, rfl, rfl, ⟨by decide, by decide, by decide⟩, _, _, rfl, rfl, (by show (0 : Int) < 10 ^ 18; decide), ?_⟩
        refine ⟨_, rfl, _, rfl, _, _, rfl, rfl, .inl ⟨by decide, by decide⟩, _, _, rfl, rfl, _, _, rfl, rfl, .inr ⟨by decide, by decide⟩, _, rfl, a, _, rfl, .inl hS1, _, _, rfl, rfl, .inl ⟨by decide, by decide⟩, _, _, rfl, rfl, _, _, rfl, rfl, (by show (0 : Int) < 2147483647; decide), ?_⟩
        exact ⟨_, rfl, _, _, rfl, rfl, .inr ⟨by decide, by decide⟩, _, _, rfl, rfl, (by show (0 : Int) < 2147483629; decide), _, _, rfl, rfl, .inr ⟨by decide, by decide⟩, _, rfl, _, _, rfl, rfl, _, _, rfl, rfl, (by show (0 : Int) < 2147483587; decide), .inl ⟨_, rfl, k _ _ s1⟩⟩
      · refine ⟨_, rfl, _, rfl, _, _, rfl, rfl, .inl ⟨by decide, by decide⟩, _, _, rfl, rfl, _, _, rfl, rfl, .inr ⟨by decide, by decide⟩, _, rfl, a, _, rfl, .inl hS1, _, _, rfl, rfl, .inl ⟨by decide, by decide⟩, _, _, rfl, rfl, _, _, rfl, rfl, (by show (0 : Int) < 2147483647; decide), ?_⟩
        exact ⟨_, rfl, _, _, rfl, rfl, .inr ⟨by decide, by decide⟩, _, _, rfl, rfl, (by show (0 : Int) < 2147483629; decide), _, _, rfl, rfl, .inr ⟨by decide, by decide⟩, _, rfl, _, _, rfl, rfl, _, _, rfl, rfl, (by show (0 : Int) < 2147483587; decide), .inl ⟨_, rfl, k _ _ s1⟩⟩
def DrawAt (K : PySem.W.Frag) (H : Hp) (a sc : Addr) (ns : List Int) : Prop := (∃ i : Int, H a = some (.lst [.ref sc, .int i])) ∧ SqL K (Off [a] H) sc (ns.map V.int) ∧ ns.length ≤ 63
theorem DrawAt.next {H H' : Hp} {a sc : Addr} {ns : List Int} (D : DrawAt K H a sc ns) (s : But [a] H H') (h : ∃ i : Int, H' a = some (.lst [.ref sc, .int i])) : DrawAt K H' a sc ns :=
  ⟨h, (s.off (fun c z => z)).seq D.2.1, D.2.2⟩
theorem DrawAt.same {H H' : Hp} {a sc : Addr} {ns : List Int} (D : DrawAt K H a sc ns) (s : Same H H') : DrawAt K H' a sc ns :=
  D.next (.of s) (let ⟨i, e⟩ := D.1; ⟨i, s _ _ e⟩)
def spTake (K : PySem.W.Frag) : Sp := fun vs H Q _ => ∃ (a sc : Addr) (ns : List Int) (m : Int), vs = [.ref a, .int m] ∧ DrawAt K H a sc ns ∧ 0 < m ∧ ∀ r H', 0 ≤ r → r < m → But [a] H H' → DrawAt K H' a sc ns → Q (.int r) H'
theorem ok_take {f fN : Addr} {fd fdN : FuncData} (F : Fun K "_law_take" "_law_take" sTake f fd) (GN : FnOk P w K mg base CX0 1 fN fdN ["script", "index"] (spNum K)) (kN : PySem.W.keepIn K (.ref fN) = true) (gN : mg "_law_number" = some (.ref fN))
    (bN : Binds K fdN ["script", "index"] []) (mi : mg "int" = none) : FnOk P w K mg base CX0 2 f fd ["draw", "many"] (spTake K) := by
  refine F.ok scTake (fun vs H Q E h => ?_) (fun cdv A outer s H vs Q E hr h => ?_)
  · obtain ⟨a, sc, ns, m, rfl, _⟩ := h
    rfl
  · obtain ⟨a, sc, ns, m, rfl, D, hm, k⟩ := h
    obtain ⟨⟨i, ha⟩, hS, hlen⟩ := id D
    refine ⟨_, pss_cons (ps_augS (pv 0) pe_int get_list pe_int ip_add set_list)
      (pss_one (ps_ret (pe_op op_mod (pe_callTy call_int1 (by rfl) mi boot_int (pa_cons (pe_call GN hr rfl gN kN bN .nil pass0
        (pa_cons (pe_ix ix_list (pv 0) pe_int (fun _ _ => rfl)) (pa_cons (pe_callTy call_int1 (by rfl) mi boot_int (pa_cons (pe_ix ix_list (pv 0) pe_int (fun _ _ => rfl)) pa_nil)) pa_nil))) pa_nil)) (pv 1)))), ?_⟩
    have sB : ∀ o, But [a] H (upd H a o) := fun o b u z => by
      have hb : b ∉ [a] := fun y => by rw [off_in y] at z; cases z
      rw [off_out hb] at z
      rw [upd_ne (fun y => hb (by rw [y]; simp))]
      exact z
    refine ⟨_, rfl, a, _, 1, .int i, rfl, rfl, SqL.of ha, rfl, i, 1, rfl, rfl, a, _, 1, 1, rfl, rfl, ha, rfl, ?_⟩
    refine ⟨_, rfl, a, _, 0, _, rfl, rfl, SqL.of upd_same, rfl, _, rfl, a, _, 1, _, rfl, rfl, SqL.of upd_same, rfl, .inl ⟨_, rfl, ?_⟩⟩
    refine ⟨sc, ns, i + 1, rfl, (sB _).seq hS, hlen, fun r H' s' => .inl ⟨_, rfl, _, rfl, _, _, rfl, rfl, hm, ?_⟩⟩
    have ha' : H' a = some (.lst [.ref sc, .int (i + 1)]) := s' _ _ upd_same
    have s2 : But [a] H H' := (sB _).trans s'
    exact k _ _ (Int.emod_nonneg _ (by omega)) (Int.emod_lt_of_pos _ hm) s2 (D.next s2 ⟨_, ha'⟩)
def spPick (K : PySem.W.Frag) : Sp := fun vs H Q _ => ∃ (a b sc : Addr) (ns : List Int) (xs : List V), vs = [.ref a, .ref b] ∧ DrawAt K H a sc ns ∧ H b = some (.lst xs) ∧ b ≠ a ∧ xs ≠ [] ∧ ∀ v H', v ∈ xs → But [a] H H' → DrawAt K H' a sc ns → Q v H'
theorem ok_pick {f fT : Addr} {fd fdT : FuncData} (F : Fun K "_law_pick" "_law_pick" sPick f fd) (GT : FnOk P w K mg base CX0 2 fT fdT ["draw", "many"] (spTake K)) (kT : PySem.W.keepIn K (.ref fT) = true) (gT : mg "_law_take" = some (.ref fT))
    (bT : Binds K fdT ["draw", "many"] []) (ml : mg "len" = none) : FnOk P w K mg base CX0 3 f fd ["draw", "items"] (spPick K) := by
  refine F.ok scPick (fun vs H Q E h => ?_) (fun cdv A outer s H vs Q E hr h => ?_)
  · obtain ⟨a, b, sc, ns, xs, rfl, _⟩ := h
    rfl
  · obtain ⟨a, b, sc, ns, xs, rfl, D, hb, hne, hx, k⟩ := h
    refine ⟨_, pss_one (ps_ret (pe_ix ix_list (pv 1) (pe_call GT hr rfl gT kT bT .nil pass0 (pa_cons (pv 0) (pa_cons (pe_callB call_len_seq (by rfl) ml boot_len (pa_cons (pv 1) pa_nil)) pa_nil))) (fun _ _ => rfl))), ?_⟩
    have hpos : 0 < xs.length := List.length_pos_iff.mpr hx
    refine ⟨_, rfl, _, rfl, _, rfl, b, xs, rfl, .inl (SqL.of hb), a, sc, ns, xs.length, rfl, D, by omega, fun r H' h0 h1 s' D' => ?_⟩
    have hb' : H' b = some (.lst xs) := s'.at hb (by simp [hne])
    have hr' : r.toNat < xs.length := by omega
    have er : ((r.toNat : Nat) : Int) = r := by omega
    refine ⟨b, xs, r, xs[r.toNat], rfl, rfl, SqL.of hb', ?_, k _ _ (List.getElem_mem hr') s' D'⟩
    have hat := atI_nat (j := r.toNat) (List.getElem?_eq_getElem hr')
    rw [er] at hat
    exact hat
end
end Pf

set_option Elab.async false
set_option linter.all false
set_option maxRecDepth 100000
set_option maxHeartbeats 4000000
namespace Pf
open PySem PySem.Spec PyProof.Rows L2
def rowD (ns : List Int) : PyData := .tuple (ns.map PyData.int)
section
variable {K : PySem.W.Frag} {H : Hp}
end
section
variable {P : Program} {w : World} {K : PySem.W.Frag} {mg : Str → Option Value} {base : Heap} {C : Addr}
end
end Pf

set_option Elab.async false
set_option linter.all false
set_option maxRecDepth 100000
set_option maxHeartbeats 4000000
namespace Pf
open PySem PySem.Spec PyProof.Rows L2
def isT : HO → Bool
  | .tup _ => true
  | .frz _ (.tup _) => true
  | .frz _ (.lst _) => true
  | _ => false
def Fr (cs : List Addr) (H H' : Hp) : Prop := ∀ b o, H b = some o → (b ∉ cs ∨ isT o = true) → H' b = some o
theorem Fr.of {cs : List Addr} {H H' : Hp} (s : Same H H') : Fr cs H H' := fun b o e _ => s b o e
theorem Fr.trans {cs : List Addr} {H H1 H2 : Hp} (h : Fr cs H H1) (g : Fr cs H1 H2) : Fr cs H H2 := fun b o e c => g b o (h b o e c) c
theorem Fr.mono {cs ds : List Addr} {H H' : Hp} (h : Fr cs H H') (s : ∀ c ∈ cs, c ∈ ds) : Fr ds H H' := fun b o e c => h b o e (c.imp (fun z y => z (s b y)) id)
theorem Fr.drop {cs ds : List Addr} {H H' : Hp} (h : Fr ds H H') (s : ∀ c ∈ ds, c ∈ cs ∨ H c = none) : Fr cs H H' := fun b o e c => by
  refine h b o e ?_
  rcases c with c | c
  · by_cases hb : b ∈ ds
    · rcases s b hb with z | z
      · exact absurd z c
      · rw [z] at e; cases e
    · exact .inl hb
  · exact .inr c
theorem Fr.at {cs : List Addr} {H H' : Hp} (h : Fr cs H H') {b : Addr} {o : HO} (e : H b = some o) (n : b ∉ cs) : H' b = some o := h b o e (.inl n)
theorem Fr.tup {cs : List Addr} {H H' : Hp} (h : Fr cs H H') {b : Addr} {xs : List V} (e : H b = some (.tup xs)) : H' b = some (.tup xs) := h b _ e (.inr rfl)
theorem Fr.same {H H' : Hp} (h : Fr [] H H') : Same H H' := fun b o e => h b o e (.inl (by simp))
theorem Fr.put {cs : List Addr} {H : Hp} {c : Addr} {o : HO} (hc : c ∈ cs) (ht : ∀ u, H c = some u → isT u = false) : Fr cs H (upd H c o) := fun b u e z => by
  by_cases hb : b = c
  · subst hb
    rcases z with z | z
    · exact absurd hc z
    · rw [ht _ e] at z; cases z
  · rw [upd_ne hb]
    exact e
theorem Fr.new {cs : List Addr} {H : Hp} {c : Addr} {o : HO} (hc : H c = none) : Fr cs H (upd H c o) := .of (same_upd hc)
theorem Fr.but {cs : List Addr} {H H' : Hp} (s : But cs H H') (ht : ∀ c ∈ cs, ∀ u, H c = some u → isT u = false) : Fr cs H H' := fun b o e z => by
  by_cases hb : b ∈ cs
  · rcases z with z | z
    · exact absurd hb z
    · rw [ht b hb _ e] at z; cases z
  · exact s.at e hb
def Tp (H : Hp) : Hp := fun b => match H b with
  | some o => if isT o = true then some o else none
  | none => none
theorem tp_some {H : Hp} {b : Addr} {o : HO} (h : Tp H b = some o) : H b = some o ∧ isT o = true := by
  unfold Tp at h
  split at h
  · split at h
    · rename_i e c
      cases h
      exact ⟨e, c⟩
    · cases h
  · cases h
theorem tp_le {H : Hp} : Same (Tp H) H := fun b o e => (tp_some e).1
theorem tp_at {H : Hp} {b : Addr} {o : HO} (h : H b = some o) (t : isT o = true) : Tp H b = some o := by
  unfold Tp
  rw [h]
  exact if_pos t
theorem Fr.tp {cs : List Addr} {H H' : Hp} (h : Fr cs H H') : Same (Tp H) (Tp H') := fun b o e => by
  obtain ⟨e1, e2⟩ := tp_some e
  exact tp_at (h b o e1 (.inr e2)) e2
theorem sqt_tp {K : PySem.W.Frag} {H : Hp} {a : Addr} {xs : List V} (h : SqT K H a xs) : SqT K (Tp H) a xs := by
  rcases h with (h | ⟨o, h⟩) | h
  · exact .inl (.inl (tp_at h rfl))
  · exact .inl (.inr ⟨o, tp_at h rfl⟩)
  · exact .inr h
theorem DiskAt.fr {C : Addr} {H H' : Hp} {cs : List Addr} {d : Addr} {n : Int} {sv : List V} {lv : List (Int × V)} (h : DiskAt C H d n sv lv) (s : Fr cs H H') (nd : d ∉ cs) : DiskAt C H' d n sv lv := by
  obtain ⟨dx, a, b, ts, h1, h2, h3, h4, h5, h6⟩ := h
  exact ⟨dx, a, b, ts, s.at h1 nd, s.tup h2, h3, h4, s.tup h5, h6.1, fun i q e => let ⟨c, e1, e2⟩ := h6.2 i q e; ⟨c, e1, s.tup e2⟩⟩
theorem DiskAt.obj {C : Addr} {H : Hp} {d : Addr} {n : Int} {sv : List V} {lv : List (Int × V)} (h : DiskAt C H d n sv lv) : ∀ u, H d = some u → isT u = false := by
  obtain ⟨dx, a, b, ts, h1, _⟩ := h
  intro u e
  rw [h1] at e
  cases e
  rfl
theorem ixN_nn {n j : Nat} (hj : j < n) : ixN n (j : Int) = some j := by
  unfold ixN
  rw [if_pos (Int.natCast_nonneg j), if_pos (by omega), Int.toNat_natCast]
theorem scBar : FnScope ["self", "settled", "plate", "value"] ["self"] (defScope sBar) := ⟨rfl, rfl, rfl, by decide +kernel, rfl, by decide +kernel, by decide +kernel⟩
def settleV (sv : List V) (lv : List (Int × V)) : List V := lv.foldl (fun sv q => sv.set q.1.toNat q.2) sv
theorem settle_len (sv : List V) (lv : List (Int × V)) : (settleV sv lv).length = sv.length := by
  unfold settleV
  induction lv generalizing sv with
  | nil => rfl
  | cons q lv ih =>
    rw [List.foldl_cons, ih, List.length_set]
theorem settle_more {sv : List V} {lv : List (Int × V)} {i : Nat} {q : Int × V} (h : lv[i]? = some q) : settleV sv (lv.take (i + 1)) = (settleV sv (lv.take i)).set q.1.toNat q.2 := by
  unfold settleV
  rw [List.take_add_one, h, List.foldl_append]
  rfl
theorem fl_put_settled (n : Int) (s l s' : Addr) : putF "settled" (.ref s') (fl n s l) = fl n s' l := by
  rw [fl_eq, fl_eq]
  simp only [putF, if_neg n_ms, if_neg n_sm, if_neg n_ml, if_neg n_lm, if_neg n_sl, if_neg n_ls, if_pos]
section
variable {P : Program} {w : World} {K : PySem.W.Frag} {mg : Str → Option Value} {base : Heap} {C : Addr}
def InB (n : Int) (lv : List (Int × V)) : Prop := ∀ q ∈ lv, 0 ≤ q.1 ∧ q.1 < n
def spBar (C : Addr) : Sp := fun vs H Q _ => ∃ (d : Addr) (n : Int) (sv : List V) (lv : List (Int × V)), vs = [.ref d] ∧ DiskAt C H d n sv lv ∧ InB n lv ∧ n ≤ 1000 ∧
  ∀ H', Fr [d] H H' → DiskAt C H' d n (settleV sv lv) [] → Q .non H'
theorem ok_bar {f : Addr} {fd : FuncData} (F : Fun K "barrier" "Disk.barrier" sBar f fd) (T : DTxt K C) (mL : mg "list" = none) (mT : mg "tuple" = none) : FnOk P w K mg base CX0 1 f fd ["self"] (spBar C) := by
  refine F.ok scBar (fun vs H Q E h => ?_) (fun cdv A outer s H vs Q E hr h => ?_)
  · obtain ⟨d, n, sv, lv, rfl, _⟩ := h
    rfl
  · obtain ⟨d, n, sv, lv, rfl, D, hB, hn, k⟩ := h
    obtain ⟨dx, a, b, ts, e1, e2, e3, e4, e5, e6⟩ := id D
    refine ⟨_, pss_cons (ps_set (i := 1) scBar.nd rfl (.inl rfl) (pe_callTy call_list_of (by rfl) mL (by decide +kernel) (pa_cons (pe_fld (pv 0) rfl) pa_nil)))
      (pss_cons (ps_for PassesOwn.never rfl (pi_tup (pe_fld (pv 0) rfl)) (pg_tup rfl (pgs_cons (pg_name (i := 2) scBar.nd rfl (.inl rfl)) (pgs_cons (pg_name (i := 3) scBar.nd rfl (.inl rfl)) pgs_nil)))
        (pss_one (ps_asg (pv 3) (pg_sub (pv 1) (pv 2) set_list))))
      (pss_cons (ps_fld (pv 0) (pe_callTy call_tuple_of (by rfl) mT boot_tuple (pa_cons (pv 1) pa_nil)) rfl)
      (pss_one (ps_fld (pv 0) (pe_tup pa_nil) rfl)))), ?_⟩
    refine ⟨_, rfl, d, C, dx, _, _, rfl, e1, T.cl, T.nS, fl_settled _ _ _, a, sv, rfl, .inr (SqT.of e2), fun l hl => ?_⟩
    have f1 : Fr [d] H (upd H l (.lst sv)) := .new hl
    refine ⟨_, rfl, d, C, dx, _, _, rfl, same_upd hl _ _ e1, T.cl, T.nL, fl_loose _ _ _, b, rfl, ⟨_, SqT.of (f1.tup e5)⟩, for_tup (K := K) (a := b) (xs := ts)
      (fun i σ H' => ∃ y2 y3, σ = [some (.ref d), some (.ref l), y2, y3] ∧ Same H H' ∧ H' l = some (.lst (settleV sv (lv.take i)))) ⟨none, none, rfl, same_upd hl, upd_same⟩ (fun i σ H' _ z => by obtain ⟨_, _, _, z, _⟩ := z; exact SqT.of (z _ _ e5)) ?_ ?_⟩
    · rintro i x σ H' hi ⟨y2, y3, rfl, s, el⟩
      have hil : i < lv.length := by
        rw [← e6.1]
        exact (List.getElem?_eq_some_iff.mp hi).1
      obtain ⟨c, z1, z2⟩ := e6.2 i _ (List.getElem?_eq_getElem hil)
      have ex : x = .ref c := Option.some.inj (hi.symm.trans z1)
      subst ex
      obtain ⟨b1, b2⟩ := hB _ (List.getElem_mem hil)
      have hj : lv[i].1.toNat < (settleV sv (lv.take i)).length := by rw [settle_len, e3]; omega
      have ei : ixN (settleV sv (lv.take i)).length lv[i].1 = some lv[i].1.toNat := by
        have := ixN_nn hj
        rw [Int.toNat_of_nonneg b1] at this
        exact this
      refine ⟨c, _, rfl, SqT.of (s _ _ z2), rfl, _, _, rfl, _, _, rfl, rfl, _, rfl, _, rfl, _, rfl, l, _, _, _, rfl, rfl, el, ei, _, _, rfl, fun q o e => ?_, ?_⟩
      · rw [upd_ne (ne_of_none e hl)]
        exact s _ _ e
      · rw [upd_same, settle_more (List.getElem?_eq_getElem hil)]
    · rintro σ H' ⟨y2, y3, rfl, s, el⟩
      rw [e6.1, List.take_length] at el
      refine ⟨_, rfl, l, _, rfl, .inl ⟨SqL.of el, fun t ht => ?_⟩⟩
      have s1 := s.trans (same_upd (o := .tup (settleV sv lv)) ht)
      refine ⟨_, rfl, d, C, dx, _, rfl, s1 _ _ e1, T.cl, T.nS, fl_len _ _ _, ?_⟩
      rw [fl_put_settled]
      refine ⟨Nat.zero_le _, fun u hu => ?_⟩
      have ntd : t ≠ d := fun z => by rw [z, s _ _ e1] at ht; cases ht
      have nud : u ≠ d := fun z => by rw [z, upd_same] at hu; cases hu
      have nut : u ≠ t := fun z => by rw [z, upd_ne ntd, upd_same] at hu; cases hu
      refine ⟨_, rfl, d, C, dx, _, rfl, by rw [upd_ne nud.symm, upd_same], T.cl, T.nL, fl_len _ _ _, ?_⟩
      rw [fl_put_loose]
      refine k _ (fun q o e z => ?_) ⟨dx, t, u, [], upd_same, ?_, by rw [settle_len]; exact e3, e4, ?_, rfl, fun i q z => by simp at z⟩
      · have nqd : q ≠ d := fun y => by
          subst y
          rw [e1] at e
          cases e
          rcases z with z | z
          · exact z (by simp)
          · cases z
        have hu0 : H' u = none := by rw [upd_ne nud, upd_ne nut] at hu; exact hu
        rw [upd_ne nqd, upd_ne (ne_of_none (s _ _ e) hu0), upd_ne nqd]
        exact s1 _ _ e
      · rw [upd_ne ntd, upd_ne nut.symm, upd_ne ntd, upd_same]
      · rw [upd_ne nud, upd_same]
end
end Pf

set_option Elab.async false
set_option linter.all false
set_option maxRecDepth 100000
set_option maxHeartbeats 4000000
namespace Pf
open PySem PySem.Spec PyProof.Rows L2
abbrev Tr := Int × V × List Int
def tk (ts : List Tr) : List (Key × V) := ts.map fun t => (Sum.inl t.1, t.2.1)
section
variable {P : Program} {w : World} {K : PySem.W.Frag} {mg : Str → Option Value} {base : Heap} {C : Addr}
theorem tp_same {H H' : Hp} (s : Same H H') : Same (Tp H) (Tp H') := (Fr.of (cs := []) s).tp
theorem tp_put {H : Hp} {c : Addr} {o : HO} (ht : ∀ u, H c = some u → isT u = false) : Same (Tp H) (Tp (upd H c o)) := (Fr.put (cs := [c]) (by simp) ht).tp
end
end Pf

set_option Elab.async false
set_option linter.all false
set_option maxRecDepth 100000
set_option maxHeartbeats 4000000
namespace Pf
open PySem PySem.Spec PyProof.Rows L2
def LvD (K : PySem.W.Frag) (G : Hp) (lv : List (Int × V)) (ls : List (Int × PyData)) : Prop := lv.map (·.1) = ls.map (·.1) ∧ DpAll K G (lv.map (·.2)) (ls.map (·.2))
def DkAt (K : PySem.W.Frag) (CD : Addr) (H : Hp) (d : Addr) (ds : List PyData) (ls : List (Int × PyData)) : Prop := ∃ sv lv, DiskAt CD H d (ds.length : Nat) sv lv ∧ DpAll K (Tp H) sv ds ∧ LvD K (Tp H) lv ls
theorem LvD.same {K : PySem.W.Frag} {H H' : Hp} {lv : List (Int × V)} {ls : List (Int × PyData)} (A : LvD K H lv ls) (s : Same H H') : LvD K H' lv ls := ⟨A.1, dps_same s _ _ A.2⟩
theorem DkAt.fr {K : PySem.W.Frag} {CD : Addr} {H H' : Hp} {d : Addr} {ds : List PyData} {ls : List (Int × PyData)} {xs : List Addr} (A : DkAt K CD H d ds ls) (f : Fr xs H H') (n : d ∉ xs) : DkAt K CD H' d ds ls := by
  obtain ⟨sv, lv, D, h1, h2⟩ := A
  exact ⟨sv, lv, D.fr f n, dps_same f.tp _ _ h1, h2.same f.tp⟩
def settleD (ds : List PyData) (ls : List (Int × PyData)) : List PyData := ls.foldl (fun s q => s.set q.1.toNat q.2) ds
theorem settleD_len : ∀ (ls : List (Int × PyData)) (ds : List PyData), (settleD ds ls).length = ds.length
  | [], _ => rfl
  | q :: ls, ds => by
    show (settleD (ds.set q.1.toNat q.2) ls).length = _
    rw [settleD_len ls, List.length_set]
theorem settle_dp {K : PySem.W.Frag} {G : Hp} : ∀ {lv : List (Int × V)} {ls : List (Int × PyData)} {sv : List V} {ds : List PyData}, LvD K G lv ls → DpAll K G sv ds → DpAll K G (settleV sv lv) (settleD ds ls)
  | [], [], _, _, _, h => h
  | [], q :: ls, _, _, h, _ => by have := h.1; simp at this
  | q :: lv, [], _, _, h, _ => by have := h.1; simp at this
  | (p, v) :: lv, (p', e) :: ls, sv, ds, h, g => by
    obtain ⟨h1, h2⟩ := h
    rw [List.map_cons, List.map_cons] at h1 h2
    have e1 : p = p' := (List.cons.inj h1).1
    subst e1
    cases h2 with
    | cons g1 g2 => exact settle_dp (lv := lv) (ls := ls) ⟨(List.cons.inj h1).2, g2⟩ (dps_set p.toNat g g1)
section
variable {P : Program} {w : World} {K : PySem.W.Frag} {mg : Str → Option Value} {base : Heap} {CS CD : Addr}
end
end Pf

set_option Elab.async false
set_option linter.all false
set_option maxRecDepth 100000
set_option maxHeartbeats 4000000
namespace Pf
open PySem PySem.Spec PyProof.Rows L2
theorem dps_repl {K : PySem.W.Frag} {G : Hp} {v : V} {d : PyData} (h : Dp K G v d) : ∀ n : Nat, DpAll K G (List.replicate n v) (List.replicate n d)
  | 0 => .nil
  | n + 1 => .cons h (dps_repl h n)
section
variable {P : Program} {w : World} {K : PySem.W.Frag} {mg : Str → Option Value} {base : Heap} {CS CD CN : Addr}
end
end Pf

set_option Elab.async false
set_option linter.all false
set_option maxRecDepth 100000
set_option maxHeartbeats 1000000
namespace Pf
open PySem PySem.Spec PyProof.Rows L2
abbrev Lw := List (Int × PyData)
section
variable {ds es : List PyData} {ls : Lw} {ch : Int → Int}
end
section
variable {n S : Nat} {ds es : List PyData} {a g : Int} {t : Nat} {zs : List Gr} {F : Nat → List Int}
end
end Pf

set_option Elab.async false
set_option linter.all false
set_option maxRecDepth 100000
set_option maxHeartbeats 1000000
namespace Pf
open PySem PySem.Spec PyProof.Rows L2
def fb (ls : Lw) (ch : Int → Int) : Nat := (ls.takeWhile fun q => decide (ch q.1 = 1)).length
end Pf

set_option Elab.async false
set_option linter.all false
set_option maxRecDepth 100000
set_option maxHeartbeats 4000000
namespace Pf
open PySem PySem.Spec PyProof.Rows L2
structure Df (P : Program) (w : World) (K : PySem.W.Frag) (mg : Str → Option Value) (base : Heap) (CX : CXT) (k : Nat) (x : Str) (ps : List Str) (sp : Sp) (f : Addr) (fd : FuncData) : Prop where
  G : FnOk P w K mg base CX k f fd ps sp
  kp : PySem.W.keepIn K (.ref f) = true
  g : mg x = some (.ref f)
  b : Binds K fd ps []
structure Me (P : Program) (w : World) (K : PySem.W.Frag) (mg : Str → Option Value) (base : Heap) (k : Nat) (C : Addr) (x : Str) (ps : List Str) (sp : Sp) (f : Addr) (fd : FuncData) : Prop where
  G : FnOk P w K mg base CX0 k f fd ps sp
  m : Meth K C x f
  b : Binds K fd ps []
section
variable {P : Program} {w : World} {K : PySem.W.Frag} {mg : Str → Option Value} {base : Heap} {CS CD : Addr}
end
end Pf

set_option Elab.async false
set_option linter.all false
set_option maxRecDepth 100000
set_option maxHeartbeats 4000000
namespace Pf
open PySem PySem.Spec PyProof.Rows L2
def Obj1 (H : Hp) (c : Addr) : Prop := (∃ C dx fs, H c = some (.ins C dx fs)) ∨ ∃ kvs, H c = some (.dK kvs)
theorem DrawAt.fr {K : PySem.W.Frag} {H H' : Hp} {a sc : Addr} {ns : List Int} {cs : List Addr} (D : DrawAt K H a sc ns) (f : Fr cs H H') (na : a ∉ cs) (ob : ∀ c ∈ cs, Obj1 H c) : DrawAt K H' a sc ns := by
  obtain ⟨⟨i, e⟩, hs, hl⟩ := D
  have nl : ∀ {p : Addr} {o : HO}, H p = some o → (∀ C dx fs, o ≠ .ins C dx fs) → (∀ kvs, o ≠ .dK kvs) → p ∉ cs := fun {p o} e h1 h2 z => by
    rcases ob p z with ⟨C, dx, fs, q⟩ | ⟨kvs, q⟩
    · rw [q] at e; exact h1 C dx fs (Option.some.inj e).symm
    · rw [q] at e; exact h2 kvs (Option.some.inj e).symm
  refine ⟨⟨i, f.at e na⟩, ?_, hl⟩
  have key : ∀ {p : Addr} {o : HO}, Off [a] H p = some o → (∀ C dx fs, o ≠ .ins C dx fs) → (∀ kvs, o ≠ .dK kvs) → Off [a] H' p = some o := fun {p o} e h1 h2 => by
    by_cases hb : p ∈ [a]
    · rw [off_in hb] at e; cases e
    · rw [off_out hb] at e ⊢
      exact f.at e (nl e h1 h2)
  rcases hs with (h | ⟨o, h⟩) | h
  · exact .inl (.inl (key h (fun _ _ _ z => by cases z) (fun _ z => by cases z)))
  · exact .inl (.inr ⟨o, key h (fun _ _ _ z => by cases z) (fun _ z => by cases z)⟩)
  · exact .inr h
theorem But.free {cs : List Addr} {H H' : Hp} {p : Addr} (s : But cs H H') (h : H' p = none) (n : p ∉ cs) : H p = none := by
  cases e : H p with
  | none => rfl
  | some o => rw [s.at e n] at h; cases h
theorem DrawAt.ne {K : PySem.W.Frag} {H : Hp} {a sc x : Addr} {ns : List Int} (D : DrawAt K H a sc ns) (h : H x = none) : x ≠ a := fun z => by
  obtain ⟨i, e⟩ := D.1
  rw [z, e] at h
  cases h
theorem DrawAt.frb {K : PySem.W.Frag} {H H' : Hp} {a sc : Addr} {ns : List Int} (D : DrawAt K H a sc ns) (s : But [a] H H') : Fr [a] H H' := Fr.but s fun c hc u e => by
  obtain ⟨i, e2⟩ := D.1
  rw [List.mem_singleton.mp hc, e2] at e
  cases e
  rfl
theorem but_trans {cs : List Addr} {H H1 H2 : Hp} (s : But cs H H1) (g : But cs H1 H2) : But cs H H2 := fun b o e => by
  have hb : b ∉ cs := fun y => by rw [off_in y] at e; cases e
  rw [off_out hb] at e
  exact g.at (s.at e hb) hb
theorem but_same {cs : List Addr} {H H1 H2 : Hp} (s : But cs H H1) (g : Same H1 H2) : But cs H H2 := but_trans s (.of g)
section
variable {P : Program} {w : World} {K : PySem.W.Frag} {mg : Str → Option Value} {base : Heap} {CS CD : Addr}
end
end Pf

set_option Elab.async false
set_option linter.all false
set_option maxRecDepth 100000
set_option maxHeartbeats 4000000
namespace Pf
open PySem PySem.Spec PyProof.Rows L2
theorem ints_read {K : PySem.W.Frag} {G : Hp} : ∀ {ns : List Int} {vs : List V}, DpAll K G vs (ns.map PyData.int) → vs = ns.map V.int
  | [], _, h => by cases h; rfl
  | n :: ns, _, h => by
    cases h with
    | cons h1 h2 =>
      cases h1
      rw [ints_read h2]
      rfl
theorem row_read {K : PySem.W.Frag} {G : Hp} {v : V} {l : List Int} (h : Dp K G v (rowD l)) : ∃ a, v = .ref a ∧ SqT K G a (l.map V.int) := by
  have h' : Dp K G v (.tuple (l.map PyData.int)) := h
  cases h' with
  | tup h1 h2 =>
    rw [ints_read h2] at h1
    exact ⟨_, rfl, h1⟩
end Pf

set_option Elab.async false
set_option linter.all false
set_option maxRecDepth 100000
set_option maxHeartbeats 4000000
namespace Pf
open PySem PySem.Spec PyProof.Rows L2 TL
/-! ### words of whole numbers -/
/-- a text of these signs -/
def mkS (l : List Nat) : Str := ⟨l.toArray⟩
theorem tl_mkS (l : List Nat) : tl (mkS l) = l := rfl
theorem mk_tlS (x : Str) : mkS (tl x) = x := TL.mk_tl x
theorem len_mkS (l : List Nat) : (mkS l).length = l.length := by rw [len_tl, tl_mkS]
/-- a word without its sign -/
def figL : List Nat → List Nat
  | 45 :: r => r
  | l => l
def isNumL (l : List Nat) : Bool := !(figL l).isEmpty && (figL l).all (fun c => decide (48 ≤ c ∧ c ≤ 57)) && (decide ((figL l).head? ≠ some 48) || decide (l = [48]))
def valL : List Nat → Int
  | 45 :: r => -((NumText.digitsVal r : Nat) : Int)
  | l => ((NumText.digitsVal l : Nat) : Int)
theorem figL_no {l : List Nat} (h : l.head? ≠ some 45) : figL l = l := by
  unfold figL
  split
  · exact absurd rfl h
  · rfl
theorem valL_no {l : List Nat} (h : l.head? ≠ some 45) : valL l = ((NumText.digitsVal l : Nat) : Int) := by
  unfold valL
  split
  · exact absurd rfl h
  · rfl
theorem num_parts {l : List Nat} (h : isNumL l = true) : figL l ≠ [] ∧ NumText.AllDigits (figL l) := by
  unfold isNumL at h
  rw [Bool.and_eq_true, Bool.and_eq_true] at h
  refine ⟨fun z => ?_, fun c hc => of_decide_eq_true (List.all_eq_true.mp h.1.2 c hc)⟩
  rw [z] at h
  exact absurd h.1.1 (by decide)
theorem int_word {w : Str} (h : isNumL (tl w) = true) (hl : w.length ≤ 640) : PySem.intText? w = some (valL (tl w)) := by
  obtain ⟨h1, h2⟩ := num_parts h
  by_cases c : (tl w).head? = some 45
  · obtain ⟨r, hr⟩ : ∃ r, tl w = 45 :: r := by
      cases e : tl w with
      | nil => rw [e] at c; cases c
      | cons x r =>
        rw [e] at c
        cases c
        exact ⟨r, rfl⟩
    rw [hr] at h1 h2 ⊢
    exact PySem.intText_neg hr h2 h1 (by omega)
  · rw [figL_no c] at h1 h2
    rw [valL_no c]
    exact PySem.intText_digits h2 h1 (by omega)
/-- the signs of a whole number -/
def iL (n : Int) : List Nat := tl (Str.ofString (toString n))
theorem iL_nat (n : Nat) : iL ((n : Nat) : Int) = numL n := tl_num n
theorem iL_neg (n : Nat) : iL (Int.negSucc n) = 45 :: numL (n + 1) := by
  show tl (Str.ofString (toString (Int.negSucc n))) = _
  rw [tl_ofString]
  show ("-" ++ Nat.repr (n + 1)).toList.map Char.toNat = _
  rw [String.toList_append, List.map_append]
  show [45] ++ _ = _
  have h := tl_num (n + 1)
  rw [tl_ofString] at h
  exact congrArg (fun l => 45 :: l) h
theorem numL_head : ∀ n : Nat, 0 < n → (numL n).head? ≠ some 48 := fun n => by
  induction n using Nat.strongRecOn with
  | _ n ih =>
    intro h0
    by_cases h : n < 10
    · rw [numL_lt h]
      intro z
      have : 48 + n = 48 := Option.some.inj z
      omega
    · rw [numL_step (by omega)]
      have := ih (n / 10) (by omega) (by omega)
      cases e : numL (n / 10) with
      | nil => exact absurd e (numL_ne _)
      | cons x r => rw [e] at this; exact this
theorem numL_no (n : Nat) : (numL n).head? ≠ some 45 := fun z => by
  have hm : 45 ∈ numL n := List.mem_of_mem_head? z
  exact numL_free (n := n) (s := 45) (by decide) hm
theorem num_numL (n : Nat) : isNumL (numL n) = true := by
  unfold isNumL
  rw [figL_no (numL_no n)]
  rw [Bool.and_eq_true, Bool.and_eq_true, Bool.or_eq_true]
  refine ⟨⟨?_, List.all_eq_true.mpr fun c hc => decide_eq_true (numL_digits n c hc)⟩, ?_⟩
  · cases e : numL n with
    | nil => exact absurd e (numL_ne n)
    | cons x r => rfl
  · by_cases h : n = 0
    · subst h
      exact .inr (by rw [numL_lt (by decide)]; decide)
    · exact .inl (decide_eq_true (numL_head n (by omega)))
theorem num_iL (n : Int) : isNumL (iL n) = true := by
  cases n with
  | ofNat n => exact (congrArg isNumL (iL_nat n)).trans (num_numL n)
  | negSucc n =>
    rw [iL_neg]
    have h1 := num_numL (n + 1)
    unfold isNumL at h1 ⊢
    rw [figL_no (numL_no (n + 1))] at h1
    show (!(numL (n + 1)).isEmpty && (numL (n + 1)).all _ && (decide ((numL (n + 1)).head? ≠ some 48) || decide (45 :: numL (n + 1) = [48]))) = true
    rw [Bool.and_eq_true] at h1 ⊢
    exact ⟨h1.1, by rw [decide_eq_true (numL_head (n + 1) (by omega))]; rfl⟩
theorem val_iL (n : Int) : valL (iL n) = n := by
  cases n with
  | ofNat n =>
    refine (congrArg valL (iL_nat n)).trans ?_
    rw [valL_no (numL_no n), numL_val]
    rfl
  | negSucc n =>
    rw [iL_neg]
    show -((NumText.digitsVal (numL (n + 1)) : Nat) : Int) = _
    rw [numL_val]
    rfl
theorem iL_free {n : Int} {s : Nat} (h : s < 45 ∨ s = 46 ∨ s = 47 ∨ 57 < s) : s ∉ iL n := by
  cases n with
  | ofNat n =>
    intro z
    have z' : s ∈ numL n := (iL_nat n) ▸ z
    exact numL_free (by omega) z'
  | negSucc n =>
    rw [iL_neg]
    intro z
    rcases List.mem_cons.mp z with z | z
    · omega
    · exact numL_free (by omega) z
theorem iL_ne (n : Int) : iL n ≠ [] := fun z => by
  have := num_iL n
  rw [z] at this
  exact absurd this (by decide)
/-- a number of few figures -/
def Few (n : Int) : Prop := n.natAbs < 10 ^ 30
theorem few_len {n : Int} (h : Few n) : (iL n).length ≤ 31 := by
  cases n with
  | ofNat n =>
    have e : iL (Int.ofNat n) = numL n := iL_nat n
    rw [e]
    have h' : n < 10 ^ 30 := h
    exact Nat.le_trans (numL_len (by decide) h') (by decide)
  | negSucc n =>
    rw [iL_neg]
    have h' : n + 1 < 10 ^ 30 := h
    have h3 := numL_len (n := n + 1) (k := 30) (by decide) h'
    show (numL (n + 1)).length + 1 ≤ 31
    omega
theorem few_log {n : Int} (h : Few n) : n.natAbs.log2 < 1920 := by
  by_cases c : n.natAbs = 0
  · rw [c]; decide
  · rw [Nat.log2_lt c]
    have h' : n.natAbs < 10 ^ 30 := h
    exact Nat.lt_trans h' (by decide)
end Pf

set_option Elab.async false
set_option linter.all false
set_option maxRecDepth 100000
set_option maxHeartbeats 4000000
namespace Pf
open PySem PySem.Spec PyProof.Rows L2 TL
def isShL (l : List Nat) : Bool := decide ((figL l).length ≤ 4000) && isNumL l
def isInL (lo hi : Int) (l : List Nat) : Bool := isShL l && (decide (lo ≤ valL l) && decide (valL l ≤ hi))
theorem starts_pre {x y : Str} (hy : tl y ≠ []) : Txt.startswith x y = pre (tl y) (tl x) := by
  have h := at_iff (x := x) (y := y) hy 0
  rw [List.drop_zero] at h
  rw [Bool.eq_iff_iff, ← h]
  unfold Txt.startswith
  rw [Bool.and_eq_true, decide_eq_true_iff]
  rfl
theorem pre_dash (l : List Nat) : pre [45] l = decide (l.head? = some 45) := by
  unfold pre
  cases l with
  | nil => rfl
  | cons x r =>
    show ([x] == [45]) = decide (some x = some 45)
    by_cases c : x = 45
    · subst c; rfl
    · rw [decide_eq_false (fun z => c (Option.some.inj z))]
      simp [c]
theorem tl_cut1 (w : Str) : tl (cutS w (some 1) none) = (tl w).tail := by
  show (((w.cps.toList.drop (HT.sIx w.length 0 (some ((1 : Nat) : Int)))).take (HT.sIx w.length w.length none - HT.sIx w.length 0 (some ((1 : Nat) : Int))))) = _
  rw [HT.sIx_nat, HT.sIx_none]
  have hl : w.cps.toList.length = w.length := len_tl w ▸ rfl
  cases e : w.cps.toList with
  | nil => simp [e]
  | cons x r =>
    rw [e] at hl
    have h1 : min 1 w.length = 1 := by
      rw [← hl]
      show min 1 (r.length + 1) = 1
      omega
    rw [h1, List.drop_succ_cons, List.drop_zero]
    show r.take _ = (tl w).tail
    rw [show tl w = x :: r from e, List.tail_cons]
    exact List.take_of_length_le (by rw [← hl]; show r.length ≤ r.length + 1 - 1; omega)
section
variable {P : Program} {w : World} {K : PySem.W.Frag} {mg : Str → Option Value} {base : Heap}
theorem scFigs : FnScope ["word"] ["word"] (defScope sFigs) := ⟨rfl, rfl, rfl, by decide +kernel, rfl, by decide +kernel, by decide +kernel⟩
theorem scNw : FnScope ["word", "figures", "figure"] ["word"] (defScope sNw) := ⟨rfl, rfl, rfl, by decide +kernel, rfl, by decide +kernel, by decide +kernel⟩
theorem scSnw : FnScope ["word"] ["word"] (defScope sSnw) := ⟨rfl, rfl, rfl, by decide +kernel, rfl, by decide +kernel, by decide +kernel⟩
theorem scNin : FnScope ["word", "low", "high"] ["word", "low", "high"] (defScope sNin) := ⟨rfl, rfl, rfl, by decide +kernel, rfl, by decide +kernel, by decide +kernel⟩
theorem scWordAt : FnScope ["words", "place"] ["words", "place"] (defScope sWordAt) := ⟨rfl, rfl, rfl, by decide +kernel, rfl, by decide +kernel, by decide +kernel⟩
def spFigs : Sp := fun vs H Q _ => ∃ z : Str, vs = [.str z] ∧ z.length ≤ 100000 ∧ Q (.str (mkS (figL (tl z)))) H
theorem ok_figs {f : Addr} {fd : FuncData} (F : Fun K "figures_of" "figures_of" sFigs f fd) : FnOk P w K mg base CX0 1 f fd ["word"] spFigs := by
  refine F.ok scFigs (fun vs H Q E h => ?_) (fun cdv A outer s H vs Q E hr h => ?_)
  · obtain ⟨z, rfl, _⟩ := h
    rfl
  · obtain ⟨z, rfl, hz, k⟩ := h
    refine ⟨_, pss_one (ps_ret (pe_ifExp (pt_val (pe_m1 PySem.F.slot_str_startswith PySem.F.type_str_startswith mt_startswith (pv 0) pe_str)) (pe_slice sl_str (pv 0) (po_some pe_int) po_none) (pv 0))), ?_⟩
    refine ⟨_, rfl, ⟨_, rfl⟩, z, _, rfl, rfl, ?_⟩
    rw [starts_pre (by rw [tl_ofString]; decide), show tl (Str.ofString "-") = [45] from by rw [tl_ofString]; rfl, pre_dash]
    refine ⟨_, rfl, ite2 (fun hc => ?_) (fun hc => ?_)⟩
    · have hc' := of_decide_eq_true hc
      (try dsimp -proj only [tNoPart])
      refine ⟨_, rfl, _, rfl, z, rfl, by rw [sizeLine_eq]; omega, ?_⟩
      have e : cutS z (some (1 : Int)) none = mkS (figL (tl z)) := TL.ext_tl (by
        rw [tl_cut1, tl_mkS]
        cases hz : tl z with
        | nil => rw [hz] at hc'; cases hc'
        | cons x r =>
          rw [hz] at hc'
          cases hc'
          rfl)
      rw [e]
      exact k
    · have hc' : (tl z).head? ≠ some 45 := fun y => hc (decide_eq_true y)
      refine ⟨_, rfl, ?_⟩
      rw [figL_no hc', mk_tlS] at k
      exact k
theorem figL_len (l : List Nat) : (figL l).length ≤ l.length := by
  unfold figL
  split
  · rw [List.length_cons]; omega
  · exact Nat.le_refl _
theorem figs_in (c : Nat) : decide (c ∈ (("0123456789" : Str)).cps.toList) = decide (48 ≤ c ∧ c ≤ 57) := by
  have e : (("0123456789" : Str)).cps.toList = [48, 49, 50, 51, 52, 53, 54, 55, 56, 57] := by
    show tl (Str.ofString "0123456789") = _
    rw [tl_ofString]
    rfl
  rw [e, Bool.eq_iff_iff, decide_eq_true_iff, decide_eq_true_iff]
  simp only [List.mem_cons, List.not_mem_nil, or_false]
  omega
theorem str_eq {x y : Str} : decide (V.str x = V.str y) = decide (tl x = tl y) := by
  rw [Bool.eq_iff_iff, decide_eq_true_iff, decide_eq_true_iff]
  constructor
  · intro h
    injection h with h
    rw [h]
  · intro h
    rw [TL.ext_tl h]
def spNw : Sp := fun vs H Q _ => ∃ z : Str, vs = [.str z] ∧ z.length ≤ 100000 ∧ ∀ H', Same H H' → Q (.bl (isNumL (tl z))) H'
theorem ok_nw {f fF : Addr} {fd dF : FuncData} (F : Fun K "is_number_word" "is_number_word" sNw f fd) (DF : Df P w K mg base CX0 1 "figures_of" ["word"] spFigs fF dF) {th : Tok} (mF : mg "FIGURES" = some (.str ("0123456789" : Str) th)) (mal : mg "all" = none) : FnOk P w K mg base CX0 2 f fd ["word"] spNw := by
  refine F.ok scNw (fun vs H Q E h => ?_) (fun cdv A outer s H vs Q E hr h => ?_)
  · obtain ⟨z, rfl, _⟩ := h
    rfl
  · obtain ⟨z, rfl, hz, k⟩ := h
    have nd := scNw.nd
    have h1 : Room 1 _ := hr.mono (by decide)
    refine ⟨_, pss_cons (ps_set (i := 1) nd rfl (.inl rfl) (pe_call DF.G h1 rfl DF.g DF.kp DF.b .nil pass0 (pa_cons (pv 0) pa_nil)))
      (pss_cons (ps_if (PW.pt (pw_or (pt_cmpR op_eq (pv 1) pe_str (nomark _)) (pw_or1 (pt_not (pt_val (pe_callB (cr_all rfl) (by rfl) mal boot_all (pa_cons
          (pe_lc (own := [("figure", 2)]) (g := gName 2) (tt := tYes) (te := tOp rInS (tVar 2) (tC (.str ("0123456789" : Str)))) rfl nd (pi_str (pv 1)) (blkOk_by (N := ["word", "figures", "figure"]) (sc := defScope sNw) (by decide +kernel))
            (fun _ _ _ _ _ => pg_name (i := 2) nd rfl (.inl rfl)) (fun _ _ _ _ _ => pts_nil)
            (fun _ _ _ _ _ => pe_cmpR op_inS (pv 2) (pe_glob (v := .str ("0123456789" : Str)) rfl mF ⟨_, rfl⟩) (by rfl))) pa_nil))))))) (pss_one (ps_ret pe_bl)) pss_nil)
      (pss_one (ps_ret (pe_or (pe_cmpR op_ne (pe_ix ix_str (pv 1) pe_int (fun _ _ => rfl)) pe_str (nomark _)) (pe_one (pe_cmpR op_eq (pv 0) pe_str (nomark _))))))), ?_⟩
    have hl : (figL (tl z)).length ≤ 100000 := by
      have h9 : (tl z).length = z.length := (len_tl z).symm
      unfold figL
      split
      · rename_i e
        rw [e] at h9
        have h8 : (45 :: _).length = z.length := h9
        rw [List.length_cons] at h8
        omega
      · omega
    have hnum : isNumL (tl z) = (!(figL (tl z)).isEmpty && (figL (tl z)).all (fun c => decide (48 ≤ c ∧ c ≤ 57)) && (decide ((figL (tl z)).head? ≠ some 48) || decide (tl z = [48]))) := rfl
    rw [hnum] at k
    generalize hfl : figL (tl z) = fl at hl k
    refine ⟨_, rfl, z, rfl, hz, ?_⟩
    rw [hfl]
    refine ⟨_, rfl, rfl, ?_⟩
    rw [str_eq, tl_mkS, show tl (("" : Str)) = [] from by show tl (Str.ofString "") = []; rw [tl_ofString]; rfl]
    by_cases h0 : fl = []
    · subst h0
      exact ⟨_, rfl, iteT (iteT (k H (Same.refl _)))⟩
    rw [decide_eq_false h0]
    refine ⟨_, rfl, iteF ?_⟩
    refine ⟨_, rfl, mkS fl, rfl, fun D hD => lc_it (walk_str (z := mkS fl)) (fun i H' => Same H H' ∧ H' D = some (.lst ((fl.take i).map fun c => V.bl (decide (48 ≤ c ∧ c ≤ 57))))) ⟨same_upd hD, upd_same⟩ (fun _ _ _ _ => trivial) ?_ ?_⟩
    · rintro i x Hy Hz hi ⟨sy, ey⟩ ⟨rfl, c, hc, rfl⟩
      have hc' : fl[i]? = some c := by
        have h9 : fl.toArray[i]? = some c := hc
        rwa [List.getElem?_toArray] at h9
      refine ⟨rfl, tyes_go ⟨_, rfl, c, _, rfl, rfl, _, ey, ?_, fun b o q => ?_, ?_⟩⟩
      · rw [List.length_map, List.length_take, sizeLine_eq]
        omega
      · rw [upd_ne (ne_of_none q hD)]
        exact sy _ _ q
      · rw [upd_same, figs_in, List.take_add_one, hc', List.map_append]
        rfl
    · rintro Hz ⟨sz, ez⟩
      have e9 : fl.take (mkS fl).cps.size = fl := by
        show fl.take fl.toArray.size = fl
        rw [List.size_toArray, List.take_length]
      rw [e9] at ez
      have e8 : (fl.map fun c => V.bl (decide (48 ≤ c ∧ c ≤ 57))) = (fl.map fun c => decide (48 ≤ c ∧ c ≤ 57)).map V.bl := by rw [List.map_map]; rfl
      rw [e8] at ez
      refine ⟨D, _, rfl, SqL.of ez, _, rfl, ?_⟩
      rw [List.all_map]
      have hid : (id ∘ fun c => decide (48 ≤ c ∧ c ≤ 57)) = fun c : Nat => decide (48 ≤ c ∧ c ≤ 57) := rfl
      rw [hid]
      have k' := k Hz sz
      cases hb : fl.all (fun c => decide (48 ≤ c ∧ c ≤ 57)) with
      | false =>
        rw [hb, Bool.and_false, Bool.false_and] at k'
        exact iteT k'
      | true =>
        rw [hb, Bool.and_true] at k'
        refine iteF ?_
        cases fl with
        | nil => exact absurd rfl h0
        | cons x0 r =>
        have e0 : tl (("0" : Str)) = [48] := by
          show tl (Str.ofString "0") = _
          rw [tl_ofString]
          rfl
        refine ⟨_, rfl, mkS (x0 :: r), 0, x0, rfl, rfl, by rw [len_mkS, sizeLine_eq]; omega, atI_nat (j := 0) (xs := x0 :: r) rfl, rfl, ?_⟩
        rw [str_eq, e0]
        have hh : (decide ((x0 :: r).head? ≠ some 48)) = !decide (tl (⟨#[x0]⟩ : Str) = [48]) := by
          show decide (some x0 ≠ some 48) = !decide ([x0] = [48])
          by_cases c : x0 = 48
          · subst c; rfl
          · simp [c]
        rw [hh] at k'
        cases hx : decide (tl (⟨#[x0]⟩ : Str) = [48]) with
        | false =>
          rw [hx] at k'
          exact ⟨_, rfl, iteT k'⟩
        | true =>
          rw [hx] at k'
          refine ⟨_, rfl, iteF ⟨_, rfl, rfl, ?_⟩⟩
          rw [str_eq, e0]
          exact k'
def spSnw : Sp := fun vs H Q _ => ∃ z : Str, vs = [.str z] ∧ z.length ≤ 100000 ∧ ∀ H', Same H H' → Q (.bl (isShL (tl z))) H'
theorem ok_snw {f fF fN : Addr} {fd dF dN : FuncData} (F : Fun K "is_short_number_word" "is_short_number_word" sSnw f fd) (DF : Df P w K mg base CX0 1 "figures_of" ["word"] spFigs fF dF) (DN : Df P w K mg base CX0 2 "is_number_word" ["word"] spNw fN dN) {th : Tok} (mM : mg "MOST_FIGURES" = some (.int 4000 th)) (ml : mg "len" = none) : FnOk P w K mg base CX0 3 f fd ["word"] spSnw := by
  refine F.ok scSnw (fun vs H Q E h => ?_) (fun cdv A outer s H vs Q E hr h => ?_)
  · obtain ⟨z, rfl, _⟩ := h
    rfl
  · obtain ⟨z, rfl, hz, k⟩ := h
    have nd := scSnw.nd
    have h1 : Room 1 _ := hr.mono (by decide)
    have h2 : Room 2 _ := hr.mono (by decide)
    refine ⟨_, pss_one (ps_ret (pe_and (pe_cmp (pc_le (pe_callB call_len_str (by rfl) ml boot_len (pa_cons (pe_call DF.G h1 rfl DF.g DF.kp DF.b .nil pass0 (pa_cons (pv 0) pa_nil)) pa_nil)) (pe_glob (v := .int 4000) rfl mM ⟨_, rfl⟩))) (pe_one (pe_call DN.G h2 rfl DN.g DN.kp DN.b .nil pass0 (pa_cons (pv 0) pa_nil))))), ?_⟩
    have hfl := figL_len (tl z)
    rw [← len_tl] at hfl
    have hk : isShL (tl z) = (decide ((figL (tl z)).length ≤ 4000) && isNumL (tl z)) := rfl
    rw [hk] at k
    refine ⟨_, rfl, z, rfl, hz, _, rfl, by rw [len_mkS, sizeLine_eq]; omega, _, _, rfl, rfl, ?_⟩
    rw [len_mkS]
    refine ⟨_, rfl, ite2 (fun hc => ?_) (fun hc => ?_)⟩
    · have c : (figL (tl z)).length ≤ 4000 := by
        have := of_decide_eq_true hc
        omega
      rw [decide_eq_true c, Bool.true_and] at k
      exact ⟨_, rfl, z, rfl, hz, fun H' s' => k H' s'⟩
    · have c : ¬ (figL (tl z)).length ≤ 4000 := fun y => hc (decide_eq_true (by omega))
      rw [decide_eq_false c, Bool.false_and] at k
      exact k H (Same.refl _)
def spNin : Sp := fun vs H Q _ => ∃ (z : Str) (lo hi : Int), vs = [.str z, .int lo, .int hi] ∧ z.length ≤ 100000 ∧ (isShL (tl z) = true → z.length ≤ 640) ∧ ∀ H', Same H H' → Q (.bl (isInL lo hi (tl z))) H'
theorem ok_nin {f fS : Addr} {fd dS : FuncData} (F : Fun K "is_number_within" "is_number_within" sNin f fd) (DS : Df P w K mg base CX0 3 "is_short_number_word" ["word"] spSnw fS dS) (mi : mg "int" = none) : FnOk P w K mg base CX0 4 f fd ["word", "low", "high"] spNin := by
  refine F.ok scNin (fun vs H Q E h => ?_) (fun cdv A outer s H vs Q E hr h => ?_)
  · obtain ⟨z, lo, hi, rfl, _⟩ := h
    rfl
  · obtain ⟨z, lo, hi, rfl, hz, h6, k⟩ := h
    have nd := scNin.nd
    have h3 : Room 3 _ := hr.mono (by decide)
    refine ⟨_, pss_one (ps_ret (pe_and (pe_call DS.G h3 rfl DS.g DS.kp DS.b .nil pass0 (pa_cons (pv 0) pa_nil)) (pe_one (pe_chain op_le op_le (pv 1) (pe_callTy call_int_str (by rfl) mi boot_int (pa_cons (pv 0) pa_nil)) (pv 2))))), ?_⟩
    have hk : isInL lo hi (tl z) = (isShL (tl z) && (decide (lo ≤ valL (tl z)) && decide (valL (tl z) ≤ hi))) := rfl
    rw [hk] at k
    refine ⟨_, rfl, z, rfl, hz, fun H1 s1 => ⟨_, rfl, ?_⟩⟩
    cases hs : isShL (tl z) with
    | false =>
      rw [hs, Bool.false_and] at k
      exact iteF (k H1 s1)
    | true =>
      rw [hs, Bool.true_and] at k
      have hn : isNumL (tl z) = true := by
        unfold isShL at hs
        rw [Bool.and_eq_true] at hs
        exact hs.2
      refine iteT ⟨_, rfl, _, rfl, z, _, rfl, int_word hn (h6 hs), h6 hs, _, _, rfl, rfl, ?_⟩
      refine ⟨_, rfl, ite2 (fun hc => ?_) (fun hc => ?_)⟩
      · rw [decide_eq_true (of_decide_eq_true hc), Bool.true_and] at k
        exact ⟨_, rfl, _, _, rfl, rfl, k H1 s1⟩
      · have c : ¬ lo ≤ valL (tl z) := fun y => hc (decide_eq_true y)
        rw [decide_eq_false c, Bool.false_and] at k
        exact k H1 s1
def spWordAt (K : PySem.W.Frag) : Sp := fun vs H Q _ => ∃ (p : Addr) (ws : List Str) (i : Nat), vs = [.ref p, .int ((i : Nat) : Int)] ∧ SqL K H p (ws.map V.str) ∧ Q (.str (ws.getD i ("" : Str))) H
theorem ok_wordAt {f : Addr} {fd : FuncData} (F : Fun K "word_at" "word_at" sWordAt f fd) (ml : mg "len" = none) : FnOk P w K mg base CX0 1 f fd ["words", "place"] (spWordAt K) := by
  refine F.ok scWordAt (fun vs H Q E h => ?_) (fun cdv A outer s H vs Q E hr h => ?_)
  · obtain ⟨p, ws, i, rfl, _⟩ := h
    rfl
  · obtain ⟨p, ws, i, rfl, hp, k⟩ := h
    have nd := scWordAt.nd
    refine ⟨_, pss_one (ps_ret (pe_ifExp (pt_cmpR op_lt (pv 1) (pe_callB call_len_seq (by rfl) ml boot_len (pa_cons (pv 0) pa_nil)) (nomark _)) (pe_ix ix_list (pv 0) (pv 1) (fun _ _ => rfl)) pe_str)), ?_⟩
    refine ⟨_, rfl, _, rfl, p, _, rfl, .inl hp, _, _, rfl, rfl, _, rfl, ite2 (fun hc => ?_) (fun hc => ?_)⟩
    · have hc' := of_decide_eq_true hc
      rw [List.length_map] at hc'
      have hi : i < ws.length := by omega
      refine ⟨_, rfl, _, rfl, p, _, _, _, rfl, rfl, hp, atI_nat (j := i) (by rw [List.getElem?_map, List.getElem?_eq_getElem hi]; rfl), ?_⟩
      rw [List.getD_eq_getElem?_getD, List.getElem?_eq_getElem hi] at k
      exact k
    · have hi : ¬ i < ws.length := fun z => hc (decide_eq_true (by rw [List.length_map]; omega))
      rw [List.getD_eq_getElem?_getD, List.getElem?_eq_none (by omega)] at k
      exact k
end
end Pf

set_option Elab.async false
set_option linter.all false
set_option maxRecDepth 100000
set_option maxHeartbeats 4000000
namespace Pf
open PySem PySem.Spec PyProof.Rows L2 TL
/-! ### what stands on a plate, as a word -/
abbrev Ov := Option (List Int)
def dV : Ov → PyData
  | none => .none
  | some ns => rowD ns
def OFew : Ov → Prop
  | none => True
  | some ns => ns.length ≤ 100 ∧ ∀ n ∈ ns, Few n
def tornL : List Nat := [116, 111, 114, 110]
def emptyL : List Nat := [101, 109, 112, 116, 121]
def txN (ns : List Int) : List Nat := if ns = [] then emptyL else joinL [44] (ns.map iL)
def txO : Ov → List Nat
  | none => tornL
  | some ns => txN ns
theorem tl_torn : tl (("torn" : Str)) = tornL := by
  show tl (Str.ofString "torn") = _
  rw [tl_ofString]; rfl
theorem tl_empty : tl (("empty" : Str)) = emptyL := by
  show tl (Str.ofString "empty") = _
  rw [tl_ofString]; rfl
theorem tl_comma : tl (("," : Str)) = [44] := by
  show tl (Str.ofString ",") = _
  rw [tl_ofString]; rfl
theorem tl_blank : tl ((" " : Str)) = [32] := by
  show tl (Str.ofString " ") = _
  rw [tl_ofString]; rfl
theorem tl_nil : tl (("" : Str)) = [] := by
  show tl (Str.ofString "") = _
  rw [tl_ofString]; rfl
theorem split_tl (x : Str) (s : Nat) (y : Str) (hy : tl y = [s]) (hs : s < 256) : (Txt.split x y).map tl = spl [s] 0 [] (tl x) := by
  rw [split_spl x y (by rw [hy]; simp) (kind_ok ?_), hy]
  have e : y.cps.toList = [s] := hy
  have h2 : y.cps = #[s] := by
    rw [← Array.toArray_toList (xs := y.cps), e]
  rw [h2]
  simp [hs]
theorem map_tl {ws : List Str} {ls : List (List Nat)} (h : ws.map tl = ls) : ws = ls.map mkS := by
  rw [← h, List.map_map]
  exact (List.map_id' ws).symm.trans (List.map_congr_left fun w _ => (mk_tlS w).symm)
theorem iL_no44 (n : Int) : 44 ∉ iL n := iL_free (.inl (by decide))
theorem iL_no32 (n : Int) : 32 ∉ iL n := iL_free (.inl (by decide))
theorem split_num {x : Str} {ns : List Int} (h : ns ≠ []) (hx : tl x = joinL [44] (ns.map iL)) : Txt.split x ("," : Str) = ns.map fun n => mkS (iL n) := by
  have h1 := split_tl x 44 ("," : Str) tl_comma (by decide)
  rw [hx, spl_join (by simpa using h) (fun p hp => by
    obtain ⟨n, _, rfl⟩ := List.mem_map.mp hp
    exact iL_no44 n)] at h1
  rw [map_tl h1, List.map_map]
  rfl
theorem txN_head {ns : List Int} (h : ns ≠ []) : ∃ c r, joinL [44] (ns.map iL) = c :: r ∧ (c = 45 ∨ (48 ≤ c ∧ c ≤ 57)) := by
  cases ns with
  | nil => exact absurd rfl h
  | cons n ns =>
    have hc : ∀ c r, iL n = c :: r → (c = 45 ∨ (48 ≤ c ∧ c ≤ 57)) := fun c r e => by
      have h2 : ∀ s, (s < 45 ∨ s = 46 ∨ s = 47 ∨ 57 < s) → c ≠ s := fun s hs z => iL_free (n := n) hs (by rw [e, ← z]; exact List.mem_cons_self)
      by_cases a : c = 45
      · exact .inl a
      · refine .inr ⟨?_, ?_⟩
        · refine Decidable.byContradiction fun z => h2 c (by omega) rfl
        · refine Decidable.byContradiction fun z => h2 c (by omega) rfl
    cases e : iL n with
    | nil => exact absurd e (iL_ne n)
    | cons c r =>
      cases ns with
      | nil => exact ⟨c, r, by show iL n = _; exact e, hc c r e⟩
      | cons m ms => exact ⟨c, r ++ ([44] ++ joinL [44] ((m :: ms).map iL)), by show iL n ++ ([44] ++ joinL [44] ((m :: ms).map iL)) = _; rw [e]; rfl, hc c r e⟩
theorem txN_ne_torn {ns : List Int} (h : ns ≠ []) : joinL [44] (ns.map iL) ≠ tornL := fun z => by
  obtain ⟨c, r, e, hc⟩ := txN_head h
  rw [e] at z
  injection z with z _
  omega
theorem txN_ne_empty {ns : List Int} (h : ns ≠ []) : joinL [44] (ns.map iL) ≠ emptyL := fun z => by
  obtain ⟨c, r, e, hc⟩ := txN_head h
  rw [e] at z
  injection z with z _
  omega
section
variable {P : Program} {w : World} {K : PySem.W.Frag} {mg : Str → Option Value} {base : Heap}
theorem scVt : FnScope ["value", "number"] ["value"] (defScope sVt) := ⟨rfl, rfl, rfl, by decide +kernel, rfl, by decide +kernel, by decide +kernel⟩
theorem scIvw : FnScope ["word", "part"] ["word"] (defScope sIvw) := ⟨rfl, rfl, rfl, by decide +kernel, rfl, by decide +kernel, by decide +kernel⟩
theorem scVo : FnScope ["word", "part"] ["word"] (defScope sVo) := ⟨rfl, rfl, rfl, by decide +kernel, rfl, by decide +kernel, by decide +kernel⟩
def spVt (K : PySem.W.Frag) : Sp := fun vs H Q _ => ∃ (v : V) (o : Ov), vs = [v] ∧ Dp K (Tp H) v (dV o) ∧ OFew o ∧ ∀ H', Same H H' → Q (.str (mkS (txO o))) H'
abbrev tStr (j : Nat) : TE := tCB (fun xs H Q => ∃ i : Int, xs = [.int i] ∧ i.natAbs.log2 < 1920 ∧ Q (.str (toString i)) H) (tCons (tVar j) tNil)
theorem eqv_none_tup (ds : List PyData) : PyData.eqv .none (.tuple ds) = false := by simp [PyData.eqv]
theorem sum_le : ∀ {ls : List Str} {k : Nat}, (∀ x ∈ ls, x.length ≤ k) → (ls.map (·.length)).sum ≤ ls.length * k
  | [], _, _ => Nat.le_of_eq (Nat.zero_mul _).symm
  | x :: ls, k, h => by
    have h1 := sum_le (ls := ls) fun y hy => h y (List.mem_cons_of_mem _ hy)
    have h2 := h x List.mem_cons_self
    rw [List.map_cons, List.sum_cons, List.length_cons, Nat.add_mul]
    omega
theorem ok_vt {f : Addr} {fd : FuncData} (F : Fun K "value_text" "value_text" sVt f fd) (ms : mg "str" = none) : FnOk P w K mg base CX0 1 f fd ["value"] (spVt K) := by
  refine F.ok scVt (fun vs H Q E h => ?_) (fun cdv A outer s H vs Q E hr h => ?_)
  · obtain ⟨v, o, rfl, _⟩ := h
    rfl
  · obtain ⟨v, o, rfl, hd, hf, k⟩ := h
    have nd := scVt.nd
    refine ⟨_, pss_cons (ps_if (pt_cmpR op_isN (pv 0) pe_non (nomark _)) (pss_one (ps_ret pe_str)) pss_nil)
      (pss_cons (ps_if (pt_cmpR (op_eqD hr.units) (pv 0) (pe_tup pa_nil) (nomark _)) (pss_one (ps_ret pe_str)) pss_nil)
      (pss_one (ps_ret (pe_join pe_str (pe_lc (own := [("number", 1)]) (g := gName 1) (tt := tYes) (te := tStr 1) rfl nd (pi_tup (pv 0)) (blkOk_by (N := ["value", "number"]) (sc := defScope sVt) (by decide +kernel))
            (fun _ _ _ _ _ => pg_name (i := 1) nd rfl (.inl rfl)) (fun _ _ _ _ _ => pts_nil)
            (fun _ _ _ _ _ => pe_callTy call_str_int (by rfl) ms (by decide +kernel) (pa_cons (pv 1) pa_nil))))))), ?_⟩
    cases o with
    | none =>
      have ev : v = .non := by cases hd; rfl
      subst ev
      refine ⟨_, rfl, rfl, _, rfl, iteT ?_⟩
      have e : ("torn" : Str) = mkS (txO none) := TL.ext_tl (by rw [tl_torn, tl_mkS]; rfl)
      show Q (.str ("torn" : Str)) H
      rw [e]
      exact k H (Same.refl _)
    | some ns =>
      obtain ⟨a, rfl, ha⟩ := row_read hd
      have hq : SqT K H a (ns.map V.int) := same_seqT tp_le ha
      refine ⟨_, rfl, rfl, _, rfl, iteF ?_⟩
      refine ⟨_, rfl, (by show 0 ≤ sizeLine; decide), fun em hem => ?_⟩
      have s1 := same_upd (o := .tup []) hem
      refine ⟨rowD ns, .tuple [], .tup (same_seqT s1 hq) (dps_ints _), .tup (SqT.of upd_same) .nil, shaped_tup (lay_ints _) (by rw [dep_ints]; decide), by decide +kernel, ?_⟩
      have eq0 : PyData.eqv (rowD ns) (.tuple []) = decide (ns = []) := by
        cases ns with
        | nil => simp [rowD, PyData.eqv, PyData.eqvAll]
        | cons n ns => simp [rowD, PyData.eqv, PyData.eqvAll]
      rw [eq0]
      refine ⟨_, rfl, ite2 (fun hc => ?_) (fun hc => ?_)⟩
      · have hn := of_decide_eq_true hc
        subst hn
        have e : ("empty" : Str) = mkS (txO (some [])) := TL.ext_tl (by rw [tl_empty, tl_mkS]; rfl)
        show Q (.str ("empty" : Str)) _
        rw [e]
        exact k _ s1
      · have hn : ns ≠ [] := fun z => hc (decide_eq_true z)
        refine ⟨⟨_, rfl⟩, _, rfl, a, rfl, ⟨_, same_seqT s1 hq⟩, fun D hD => lc_tup (K := K) (a := a) (xs := ns.map V.int) (fun i H' => Same (upd H em (.tup [])) H' ∧ H' D = some (.lst ((ns.take i).map fun n => V.str (mkS (iL n))))) ⟨same_upd hD, upd_same⟩ (fun i H' _ z => same_seqT (s1.trans z.1) hq) ?_ ?_⟩
        · rintro i x Hy hi ⟨sy, ey⟩
          rw [List.getElem?_map] at hi
          cases hni : ns[i]? with
          | none => rw [hni] at hi; cases hi
          | some n =>
          rw [hni] at hi
          have ev : V.int n = x := Option.some.inj hi
          subst ev
          have hfn := hf.2 n (List.mem_of_getElem? hni)
          refine ⟨rfl, tyes_go ⟨_, rfl, n, rfl, few_log hfn, _, ey, ?_, fun b o q => ?_, ?_⟩⟩
          · rw [List.length_map, List.length_take, sizeLine_eq]
            have := hf.1
            omega
          · rw [upd_ne (ne_of_none q hD)]
            exact sy _ _ q
          · rw [upd_same, List.take_add_one, hni, List.map_append]
            have e : mkS (iL n) = Str.ofString (toString n) := mk_tlS _
            show some (HO.lst (_ ++ [V.str (mkS (iL n))])) = _
            rw [e]
            rfl
        · rintro Hz ⟨sz, ez⟩
          rw [List.length_map, List.take_length] at ez
          have e8 : (ns.map fun n => V.str (mkS (iL n))) = (ns.map fun n => mkS (iL n)).map V.str := by rw [List.map_map]; rfl
          rw [e8] at ez
          refine ⟨_, D, ns.map (fun n => mkS (iL n)), rfl, rfl, .inl (SqL.of ez), ?_, ?_⟩
          · have h1 := sum_le (ls := ns.map (fun n => mkS (iL n))) (k := 31) fun x hx => by
              obtain ⟨n, hn2, rfl⟩ := List.mem_map.mp hx
              rw [len_mkS]
              exact few_len (hf.2 n hn2)
            have h2 := hf.1
            have h3 : (("," : Str)).length = 1 := by rw [len_tl, tl_comma]; rfl
            rw [List.length_map] at h1 ⊢
            have h4 : (Str.ofString ",").length = 1 := h3
            rw [h4]
            omega
          · have e : Txt.join ("," : Str) (ns.map fun n => mkS (iL n)) = mkS (txO (some ns)) := TL.ext_tl (by
              rw [join_eq, tl_join, tl_comma, tl_mkS]
              show _ = txN ns
              unfold txN
              rw [if_neg hn, List.map_map]
              rfl)
            show Q (.str (Txt.join ("," : Str) (ns.map fun n => mkS (iL n)))) _
            rw [e]
            exact k _ (s1.trans sz)
def isVS (z : Str) : Bool := (decide (tl z = tornL) || decide (tl z = emptyL)) || (Txt.split z ("," : Str)).all (fun w => isShL (tl w))
theorem str_beq (a b : Str) : (a == b) = decide (tl a = tl b) := by
  rw [Bool.eq_iff_iff, beq_iff_eq, decide_eq_true_iff]
  exact ⟨fun h => by rw [h], fun h => TL.ext_tl h⟩
def spIvw : Sp := fun vs H Q _ => ∃ z : Str, vs = [.str z] ∧ z.length ≤ 100000 ∧ (∀ p ∈ Txt.split z ("," : Str), p.length ≤ 100000) ∧ (Txt.split z ("," : Str)).length ≤ 100000 ∧ ∀ H', Same H H' → Q (.bl (isVS z)) H'
theorem ok_ivw {f fS : Addr} {fd dS : FuncData} (F : Fun K "is_value_word" "is_value_word" sIvw f fd) (DS : Df P w K mg base CX0 3 "is_short_number_word" ["word"] spSnw fS dS) (mal : mg "all" = none) : FnOk P w K mg base CX0 4 f fd ["word"] spIvw := by
  refine F.ok scIvw (fun vs H Q E h => ?_) (fun cdv A outer s H vs Q E hr h => ?_)
  · obtain ⟨z, rfl, _⟩ := h
    rfl
  · obtain ⟨z, rfl, hz, hp, hn, k⟩ := h
    have nd := scIvw.nd
    have h3 : Room 3 _ := hr.mono (by decide)
    refine ⟨_, pss_one (ps_ret (pe_or (pe_cmpR op_in_seq (pv 0) (pe_tup (pa_cons pe_str (pa_cons pe_str pa_nil))) (by rfl)) (pe_one (pe_callB (cr_all rfl) (by rfl) mal boot_all (pa_cons
        (pe_lc (own := [("part", 1)]) (g := gName 1) (tt := tYes) (te := tCall spSnw [] E0 (tCons (tVar 1) tNil)) rfl nd (pi_list (pe_split (pv 0) pe_str)) (blkOk_by (N := ["word", "part"]) (sc := defScope sIvw) (by decide +kernel))
            (fun _ _ _ _ _ => pg_name (i := 1) nd rfl (.inl rfl)) (fun _ _ _ _ _ => pts_nil)
            (fun _ _ _ _ _ => pe_call DS.G h3 rfl DS.g DS.kp DS.b .nil pass0 (pa_cons (pv 1) pa_nil))) pa_nil))))), ?_⟩
    refine ⟨_, rfl, (by show 2 ≤ sizeLine; decide), fun tp htp => ?_⟩
    have s1 := same_upd (o := .tup [V.str ("torn" : Str), V.str ("empty" : Str)]) htp
    refine ⟨tp, _, rfl, .inr (SqT.of upd_same), rfl, rfl, ?_⟩
    have ein : inV (V.str z) [V.str ("torn" : Str), V.str ("empty" : Str)] = (decide (tl z = tornL) || decide (tl z = emptyL)) := by
      show ((("torn" : Str) == z) || ((("empty" : Str) == z) || false)) = _
      rw [str_beq, str_beq, tl_torn, tl_empty, Bool.or_false]
      congr 1
      · rw [Bool.eq_iff_iff, decide_eq_true_iff, decide_eq_true_iff]; exact eq_comm
      · rw [Bool.eq_iff_iff, decide_eq_true_iff, decide_eq_true_iff]; exact eq_comm
    have hk : isVS z = ((decide (tl z = tornL) || decide (tl z = emptyL)) || (Txt.split z ("," : Str)).all (fun w => isShL (tl w))) := rfl
    rw [hk] at k
    rw [if_neg (by decide)]
    refine ⟨_, rfl, ite2 (fun hc => ?_) (fun hc => ?_)⟩
    · have hc' := ein.symm.trans hc
      rw [hc', Bool.true_or] at k
      exact k _ s1
    · have hc' : (decide (tl z = tornL) || decide (tl z = emptyL)) = false := by
        rw [← ein]
        exact Bool.eq_false_iff.mpr hc
      rw [hc', Bool.false_or] at k
      refine ⟨_, rfl, ⟨_, rfl⟩, z, _, rfl, rfl, by decide +kernel, by rw [sizeLine_eq]; omega, fun q hq => ?_⟩
      have s2 := s1.trans (same_upd (o := .lst ((Txt.split z ("," : Str)).map V.str)) hq)
      have eq1 : (upd (upd H tp (.tup [V.str ("torn" : Str), V.str ("empty" : Str)])) q (.lst ((Txt.split z ("," : Str)).map V.str))) q = some (.lst ((Txt.split z ("," : Str)).map V.str)) := upd_same
      generalize Txt.split z ("," : Str) = ws at hp hn k s2 eq1 ⊢
      generalize upd (upd H tp (.tup [V.str ("torn" : Str), V.str ("empty" : Str)])) q (.lst (ws.map V.str)) = H2 at s2 eq1 ⊢
      refine ⟨q, rfl, ⟨_, SqL.of eq1⟩, fun D hD => lc_list (K := K) (a := q) (xs := ws.map V.str) (fun i H' => Same H2 H' ∧ H' D = some (.lst ((ws.take i).map fun w => V.bl (isShL (tl w))))) ⟨same_upd hD, upd_same⟩ (fun i H' _ y => SqL.of (y.1 _ _ eq1)) ?_ ?_⟩
      · rintro i x Hy hi ⟨sy, ey⟩
        rw [List.getElem?_map] at hi
        cases hni : ws[i]? with
        | none => rw [hni] at hi; cases hi
        | some n =>
        rw [hni] at hi
        have ev : V.str n = x := Option.some.inj hi
        subst ev
        refine ⟨rfl, tyes_go ⟨_, rfl, n, rfl, hp n (List.mem_of_getElem? hni), fun H3 s3 => ⟨_, s3 _ _ ey, ?_, fun b o y => ?_, ?_⟩⟩⟩
        · rw [List.length_map, List.length_take, sizeLine_eq]
          omega
        · rw [upd_ne (ne_of_none y hD)]
          exact s3 _ _ (sy _ _ y)
        · rw [upd_same, List.take_add_one, hni, List.map_append]
          rfl
      · rintro Hz ⟨sz, ez⟩
        rw [List.length_map, List.take_length] at ez
        have e8 : (ws.map fun w => V.bl (isShL (tl w))) = (ws.map fun w => isShL (tl w)).map V.bl := by rw [List.map_map]; rfl
        rw [e8] at ez
        refine ⟨D, _, rfl, SqL.of ez, ?_⟩
        have k' := k Hz (s2.trans sz)
        rw [List.all_map]
        exact k'
def spVo (K : PySem.W.Frag) : Sp := fun vs H Q _ => ∃ (z : Str) (o : Ov), vs = [.str z] ∧ tl z = txO o ∧ OFew o ∧ ∀ v H', Same H H' → Dp K (Tp H') v (dV o) → Q v H'
theorem ok_vo {f : Addr} {fd : FuncData} (F : Fun K "value_of" "value_of" sVo f fd) (mTo : mg "TORN" = some .none) (mi : mg "int" = none) (mt : mg "tuple" = none) : FnOk P w K mg base CX0 1 f fd ["word"] (spVo K) := by
  refine F.ok scVo (fun vs H Q E h => ?_) (fun cdv A outer s H vs Q E hr h => ?_)
  · obtain ⟨z, o, rfl, _⟩ := h
    rfl
  · obtain ⟨z, o, rfl, hz, hf, k⟩ := h
    have nd := scVo.nd
    refine ⟨_, pss_cons (ps_if (pt_cmpR op_eq (pv 0) pe_str (nomark _)) (pss_one (ps_ret (pe_glob (v := .non) rfl mTo rfl))) pss_nil)
      (pss_cons (ps_if (pt_cmpR op_eq (pv 0) pe_str (nomark _)) (pss_one (ps_ret (pe_tup pa_nil))) pss_nil)
      (pss_one (ps_ret (pe_callTy call_tuple_of (by rfl) mt boot_tuple (pa_cons
        (pe_lc (own := [("part", 1)]) (g := gName 1) (tt := tYes) (te := tCB (fun xs H Q => ∃ a n, xs = [.str a] ∧ PySem.intText? a = some n ∧ a.length ≤ 640 ∧ Q (.int n) H) (tCons (tVar 1) tNil)) rfl nd (pi_list (pe_split (pv 0) pe_str)) (blkOk_by (N := ["word", "part"]) (sc := defScope sVo) (by decide +kernel))
            (fun _ _ _ _ _ => pg_name (i := 1) nd rfl (.inl rfl)) (fun _ _ _ _ _ => pts_nil)
            (fun _ _ _ _ _ => pe_callTy call_int_str (by rfl) mi boot_int (pa_cons (pv 1) pa_nil))) pa_nil))))), ?_⟩
    refine ⟨_, rfl, rfl, ?_⟩
    rw [str_eq, tl_torn, hz]
    cases o with
    | none =>
      rw [decide_eq_true (show txO none = tornL from rfl)]
      exact ⟨_, rfl, iteT (k .non H (Same.refl _) .non)⟩
    | some ns =>
    by_cases hn : ns = []
    · subst hn
      rw [decide_eq_false (show ¬ txO (some []) = tornL by decide)]
      refine ⟨_, rfl, iteF ⟨_, rfl, rfl, ?_⟩⟩
      rw [str_eq, tl_empty, hz, decide_eq_true (show txO (some []) = emptyL from rfl)]
      exact ⟨_, rfl, iteT ⟨(by show 0 ≤ sizeLine; decide), fun p hp => k (.ref p) _ (same_upd hp) (.tup (SqT.of (tp_at upd_same rfl)) .nil)⟩⟩
    · have hx : txO (some ns) = joinL [44] (ns.map iL) := if_neg hn
      rw [hx, decide_eq_false (txN_ne_torn hn)]
      refine ⟨_, rfl, iteF ⟨_, rfl, rfl, ?_⟩⟩
      rw [str_eq, tl_empty, hz, hx, decide_eq_false (txN_ne_empty hn)]
      refine ⟨_, rfl, iteF ?_⟩
      have hsp := split_num hn (hz.trans hx)
      have hzl : z.length ≤ 100000 := by
        have h1 : tl z = joinL [44] (ns.map iL) := hz.trans hx
        rw [len_tl, h1]
        have h2 : ∀ ms : List Int, ms.length ≤ 100 → (∀ n ∈ ms, Few n) → (joinL [44] (ms.map iL)).length ≤ ms.length * 32 := by
          intro ms
          induction ms with
          | nil => intro _ _; exact Nat.zero_le _
          | cons m ms ih =>
            intro hl hm
            have h3 := few_len (hm m List.mem_cons_self)
            rw [List.length_cons] at hl
            have h4 := ih (by omega) fun n hn => hm n (List.mem_cons_of_mem _ hn)
            cases ms with
            | nil => show (iL m).length ≤ 1 * 32; omega
            | cons m2 ms =>
              show (iL m ++ ([44] ++ joinL [44] ((m2 :: ms).map iL))).length ≤ _
              rw [List.length_append, List.length_append, List.length_cons (a := m)]
              show (iL m).length + (1 + (joinL [44] ((m2 :: ms).map iL)).length) ≤ ((m2 :: ms).length + 1) * 32
              omega
        have h3 := h2 ns hf.1 hf.2
        have := hf.1
        omega
      refine ⟨_, rfl, ⟨_, rfl⟩, z, _, rfl, rfl, by decide +kernel, by rw [sizeLine_eq]; omega, fun q hq => ?_⟩
      have hsp' : Txt.split z (Str.ofString ",") = ns.map fun n => mkS (iL n) := hsp
      rw [hsp']
      have s2 := same_upd (o := .lst ((ns.map fun n => mkS (iL n)).map V.str)) hq
      have eq1 : (upd H q (.lst ((ns.map fun n => mkS (iL n)).map V.str))) q = some (.lst ((ns.map fun n => mkS (iL n)).map V.str)) := upd_same
      generalize upd H q (.lst ((ns.map fun n => mkS (iL n)).map V.str)) = H2 at s2 eq1 ⊢
      refine ⟨q, rfl, ⟨_, SqL.of eq1⟩, fun D hD => lc_list (K := K) (a := q) (xs := (ns.map fun n => mkS (iL n)).map V.str) (fun i H' => Same H2 H' ∧ H' D = some (.lst ((ns.take i).map V.int))) ⟨same_upd hD, upd_same⟩ (fun i H' _ y => SqL.of (y.1 _ _ eq1)) ?_ ?_⟩
      · rintro i x Hy hi ⟨sy, ey⟩
        rw [List.map_map, List.getElem?_map] at hi
        cases hni : ns[i]? with
        | none => rw [hni] at hi; cases hi
        | some n =>
        rw [hni] at hi
        have ev : V.str (mkS (iL n)) = x := Option.some.inj hi
        subst ev
        have hfn := few_len (hf.2 n (List.mem_of_getElem? hni))
        have hiw := int_word (w := mkS (iL n)) (by rw [tl_mkS]; exact num_iL n) (by rw [len_mkS]; omega)
        rw [tl_mkS, val_iL] at hiw
        refine ⟨rfl, tyes_go ⟨_, rfl, _, _, rfl, hiw, by rw [len_mkS]; omega, _, ey, ?_, fun b o y => ?_, ?_⟩⟩
        · rw [List.length_map, List.length_take, sizeLine_eq]
          have := hf.1
          omega
        · rw [upd_ne (ne_of_none y hD)]
          exact sy _ _ y
        · rw [upd_same, List.take_add_one, hni, List.map_append]
          rfl
      · rintro Hz ⟨sz, ez⟩
        rw [List.length_map, List.length_map, List.take_length] at ez
        refine ⟨D, _, rfl, .inl ⟨SqL.of ez, fun l hl => k (.ref l) _ ((s2.trans sz).trans (same_upd hl)) (.tup (SqT.of (tp_at upd_same rfl)) (dps_ints _))⟩⟩
end
end Pf

set_option Elab.async false
set_option linter.all false
set_option maxRecDepth 100000
set_option maxHeartbeats 4000000
namespace Pf
open PySem PySem.Spec PyProof.Rows L2 TL
def diskW : List Nat := [100, 105, 115, 107, 32]
def plateW : List Nat := [112, 108, 97, 116, 101, 32]
def looseW : List Nat := [108, 111, 111, 115, 101, 32]
theorem tl_diskW : tl (("disk " : Str)) = diskW := by
  show tl (Str.ofString "disk ") = _
  rw [tl_ofString]; rfl
theorem tl_plateW : tl (("plate " : Str)) = plateW := by
  show tl (Str.ofString "plate ") = _
  rw [tl_ofString]; rfl
theorem tl_looseW : tl (("loose " : Str)) = looseW := by
  show tl (Str.ofString "loose ") = _
  rw [tl_ofString]; rfl
def lnD (n : Int) : List Nat := diskW ++ iL n
def lnP (i : Int) (o : Ov) : List Nat := plateW ++ iL i ++ [32] ++ txO o
def lnL (i : Int) (o : Ov) : List Nat := looseW ++ iL i ++ [32] ++ txO o
/-- the lines of the first plates -/
def plK (os : List Ov) (k : Nat) : List (List Nat) := ((List.range k).filter fun i => decide (os.getD i none ≠ some [])).map fun i => lnP ((i : Nat) : Int) (os.getD i none)
def allL (os : List Ov) (qs : List (Int × Ov)) : List (List Nat) := [lnD ((os.length : Nat) : Int)] ++ plK os os.length ++ qs.map fun q => lnL q.1 q.2
theorem plK_more (os : List Ov) (k : Nat) : plK os (k + 1) = plK os k ++ (if os.getD k none ≠ some [] then [lnP ((k : Nat) : Int) (os.getD k none)] else []) := by
  unfold plK
  rw [List.range_succ, List.filter_append, List.map_append]
  congr 1
  by_cases c : os.getD k none ≠ some []
  · rw [if_pos c, List.filter_cons, if_pos (decide_eq_true c)]
    rfl
  · rw [if_neg c, List.filter_cons, if_neg (by simpa using c)]
    rfl
theorem plK_len (os : List Ov) (k : Nat) : (plK os k).length ≤ k := by
  unfold plK
  rw [List.length_map]
  exact Nat.le_trans (List.length_filter_le _ _) (by rw [List.length_range]; exact Nat.le_refl _)
def strV (ls : List (List Nat)) : List V := ls.map fun l => V.str (mkS l)
theorem strV_app (a b : List (List Nat)) : strV (a ++ b) = strV a ++ strV b := List.map_append
theorem strV_len (a : List (List Nat)) : (strV a).length = a.length := List.length_map _
theorem tx_len {o : Ov} (h : OFew o) : (txO o).length ≤ 3300 := by
  cases o with
  | none => show 4 ≤ 3300; decide
  | some ns =>
    by_cases hn : ns = []
    · subst hn; show 5 ≤ 3300; decide
    · have hx : txO (some ns) = joinL [44] (ns.map iL) := if_neg hn
      rw [hx]
      have h2 : ∀ ms : List Int, ms.length ≤ 100 → (∀ n ∈ ms, Few n) → (joinL [44] (ms.map iL)).length ≤ ms.length * 32 := by
        intro ms
        induction ms with
        | nil => intro _ _; exact Nat.zero_le _
        | cons m ms ih =>
          intro hl hm
          have h3 := few_len (hm m List.mem_cons_self)
          rw [List.length_cons] at hl
          have h4 := ih (by omega) fun n hn => hm n (List.mem_cons_of_mem _ hn)
          cases ms with
          | nil => show (iL m).length ≤ 1 * 32; omega
          | cons m2 ms =>
            show (iL m ++ ([44] ++ joinL [44] ((m2 :: ms).map iL))).length ≤ _
            rw [List.length_append, List.length_append, List.length_cons (a := m)]
            show (iL m).length + (1 + (joinL [44] ((m2 :: ms).map iL)).length) ≤ ((m2 :: ms).length + 1) * 32
            omega
      have h3 := h2 ns h.1 h.2
      have := h.1
      omega
theorem few_nat {n : Nat} (h : n < 1000000) : Few ((n : Nat) : Int) := by
  show n < 10 ^ 30
  exact Nat.lt_trans h (by decide)
section
variable {P : Program} {w : World} {K : PySem.W.Frag} {mg : Str → Option Value} {base : Heap} {CD : Addr}
theorem scWd : FnScope ["disk", "lines", "plate", "value"] ["disk"] (defScope sWd) := ⟨rfl, rfl, rfl, by decide +kernel, rfl, by decide +kernel, by decide +kernel⟩
theorem len_app (a b : Str) : (a ++ b).length = a.length + b.length := by rw [len_tl, tl_append, List.length_append, ← len_tl, ← len_tl]
theorem shaped_dV (o : Ov) : SeqAt.shaped (dV o) = true := by
  cases o with
  | none => decide +kernel
  | some ns => exact shaped_tup (lay_ints _) (by rw [dep_ints]; decide)
theorem eqv_dV (o : Ov) : PyData.eqv (dV o) (.tuple []) = decide (o = some []) := by
  cases o with
  | none => simp [dV, PyData.eqv]
  | some ns =>
    cases ns with
    | nil => simp [dV, rowD, PyData.eqv, PyData.eqvAll]
    | cons n ns => simp [dV, rowD, PyData.eqv, PyData.eqvAll]
theorem line_eq {x : Str} {l : List Nat} (h : tl x = l) : x = mkS l := TL.ext_tl (by rw [h, tl_mkS])
theorem tl_int (i : Int) : tl (Str.ofString (toString i)) = iL i := rfl
def spWd (K : PySem.W.Frag) (CD : Addr) : Sp := fun vs H Q _ => ∃ (d : Addr) (os : List Ov) (qs : List (Int × Ov)), vs = [.ref d] ∧ DkAt K CD H d (os.map dV) (qs.map fun q => (q.1, dV q.2)) ∧ (∀ o ∈ os, OFew o) ∧ (∀ q ∈ qs, OFew q.2 ∧ Few q.1) ∧ os.length ≤ 1000 ∧ qs.length ≤ 1000 ∧
  ∀ p H', Same H H' → SqT K H' p (strV (allL os qs)) → Q (.ref p) H'
theorem ok_wd {f fV : Addr} {fd dV' : FuncData} (F : Fun K "write_disk" "write_disk" sWd f fd) (T : DTxt K CD) (DV : Df P w K mg base CX0 1 "value_text" ["value"] (spVt K) fV dV') (ml : mg "len" = none) (me : mg "enumerate" = none) (mt : mg "tuple" = none) : FnOk P w K mg base CX0 2 f fd ["disk"] (spWd K CD) := by
  refine F.ok scWd (fun vs H Q E h => ?_) (fun cdv A outer s H vs Q E hr h => ?_)
  · obtain ⟨d, os, qs, rfl, _⟩ := h
    rfl
  · obtain ⟨d, os, qs, rfl, Dk, ho, hq, hol, hql, k⟩ := h
    have nd := scWd.nd
    have h1 : Room 1 _ := hr.mono (by decide)
    refine ⟨_, pss_cons (ps_set (i := 1) nd rfl (.inl rfl) (pe_lst (pa_cons (pe_joined (.cons pe_str (.cons (pe_fmt (pe_callB call_len_seq (by rfl) ml boot_len (pa_cons (pe_fld (pv 0) rfl) pa_nil))) .nil))) pa_nil)))
      (pss_cons (ps_for PassesOwn.never rfl (pi_enumT (by rfl) me (pa_cons (pe_fld (pv 0) rfl) pa_nil)) (pg_tup rfl (pgs_cons (pg_name (i := 2) nd rfl (.inl rfl)) (pgs_cons (pg_name (i := 3) nd rfl (.inl rfl)) pgs_nil)))
        (pss_one (ps_if (pt_cmpR (op_neD hr.units) (pv 3) (pe_tup pa_nil) (nomark _)) (pss_one (ps_expr (pe_bm PySem.F.plainAttrs_list PySem.F.slot_list_append PySem.F.type_list_append mt_append (pv 1) (pa_cons (pe_joined (.cons pe_str (.cons (pe_fmt (pv 2)) (.cons pe_str (.cons (pe_fmt (pe_call DV.G h1 rfl DV.g DV.kp DV.b .nil pass0 (pa_cons (pv 3) pa_nil))) .nil))))) pa_nil)))) pss_nil)))
      (pss_cons (ps_for PassesOwn.never rfl (pi_tup (pe_fld (pv 0) rfl)) (pg_tup rfl (pgs_cons (pg_name (i := 2) nd rfl (.inl rfl)) (pgs_cons (pg_name (i := 3) nd rfl (.inl rfl)) pgs_nil)))
        (pss_one (ps_expr (pe_bm PySem.F.plainAttrs_list PySem.F.slot_list_append PySem.F.type_list_append mt_append (pv 1) (pa_cons (pe_joined (.cons pe_str (.cons (pe_fmt (pv 2)) (.cons pe_str (.cons (pe_fmt (pe_call DV.G h1 rfl DV.g DV.kp DV.b .nil pass0 (pa_cons (pv 3) pa_nil))) .nil))))) pa_nil)))))
      (pss_one (ps_ret (pe_callTy call_tuple_of (by rfl) mt boot_tuple (pa_cons (pv 1) pa_nil)))))), ?_⟩
    obtain ⟨sv, lv, ⟨dx, sa, la, ts, x1, x2, x3, x4, x5, x6⟩, D2, D3⟩ := id Dk
    have hsl := dps_len D2
    rw [List.length_map] at hsl
    have hn : Few ((os.length : Nat) : Int) := few_nat (by omega)
    have e0 : (Str.empty ++ ("disk " : Str)) ++ Str.ofString (toString ((sv.length : Nat) : Int)) = mkS (lnD ((os.length : Nat) : Int)) := line_eq (by
      rw [tl_append, tl_append, tl_diskW, tl_int, hsl]
      rfl)
    have hl5 : (Str.empty ++ ("disk " : Str)).length = 5 := by rw [len_app, len_tl (x := ("disk " : Str)), tl_diskW]; rfl
    have hl6 : ∀ {i : Int}, Few i → (Str.ofString (toString i)).length ≤ 31 := fun {i} h => by rw [len_tl, tl_int]; exact few_len h
    refine ⟨_, rfl, by rw [sizeLine_eq]; show (Str.empty ++ ("disk " : Str)).length ≤ _; omega, _, rfl, d, CD, dx, _, _, rfl, x1, T.cl, T.nS, fl_settled _ _ _, sa, sv, rfl, .inr (SqT.of x2), .inr ⟨_, rfl, by rw [hsl]; exact few_log hn, _, rfl, ?_, ?_⟩⟩
    · rw [sizeLine_eq]
      show ((Str.empty ++ ("disk " : Str)) ++ Str.ofString (toString ((sv.length : Nat) : Int))).length ≤ _
      rw [e0, len_mkS]
      have := few_len hn
      show (diskW ++ iL _).length ≤ _
      rw [List.length_append]
      show 5 + _ ≤ _
      omega
    refine ⟨(by show 1 ≤ sizeLine; decide), fun D hD => ?_⟩
    rw [e0]
    have ex0 : (upd H D (.lst [V.str (mkS (lnD ((os.length : Nat) : Int)))])) D = some (.lst (strV ([lnD ((os.length : Nat) : Int)] ++ plK os 0))) := upd_same
    have s0 := same_upd (o := .lst [V.str (mkS (lnD ((os.length : Nat) : Int)))]) hD
    generalize upd H D (.lst [V.str (mkS (lnD ((os.length : Nat) : Int)))]) = H0 at ex0 s0 ⊢
    have line : ∀ (W : Str) (Wl : List Nat) (i : Int) (o : Ov), tl W = Wl → Wl.length = 6 → Few i → OFew o → (((Str.empty ++ W) ++ Str.ofString (toString i)) ++ (" " : Str)) ++ mkS (txO o) = mkS (Wl ++ iL i ++ [32] ++ txO o) ∧
        (Str.empty ++ W).length ≤ 16777216 ∧ ((Str.empty ++ W) ++ Str.ofString (toString i)).length ≤ 16777216 ∧ (((Str.empty ++ W) ++ Str.ofString (toString i)) ++ (" " : Str)).length ≤ 16777216 ∧ ((((Str.empty ++ W) ++ Str.ofString (toString i)) ++ (" " : Str)) ++ mkS (txO o)).length ≤ 16777216 ∧ (mkS (txO o)).length ≤ 16777216 := fun W Wl i o h1 h2 h3 h4 => by
      have a1 : (Str.empty ++ W).length = 6 := by rw [len_app, len_tl (x := W), h1, h2]; rfl
      have a2 := hl6 h3
      have a3 : ((" " : Str)).length = 1 := by rw [len_tl, tl_blank]; rfl
      have a4 := tx_len h4
      refine ⟨line_eq (by rw [tl_append, tl_append, tl_append, tl_append, h1, tl_int, tl_blank, tl_mkS]; rfl), by omega, by rw [len_app]; omega, by rw [len_app, len_app]; omega, by rw [len_app, len_app, len_app, len_mkS]; omega, by rw [len_mkS]; omega⟩
    have hsv : ∀ (i : Nat) (x : V), sv[i]? = some x → ∃ o, os[i]? = some o ∧ Dp K (Tp H) x (dV o) := fun i x hx => by
      obtain ⟨e, he, hd⟩ := dps_get D2 hx
      rw [List.getElem?_map] at he
      cases ho' : os[i]? with
      | none => rw [ho'] at he; cases he
      | some o =>
        rw [ho'] at he
        cases (Option.some.inj he)
        exact ⟨o, rfl, hd⟩
    refine ⟨_, rfl, d, CD, dx, _, _, rfl, s0 _ _ x1, T.cl, T.nS, fl_settled _ _ _, sa, sv, rfl, SqT.of (s0 _ _ x2), for_it (walk_enumT (K := K) (a := sa) (xs := sv)) (fun i σ' Hx => ∃ y2 y3, σ' = [some (.ref d), some (.ref D), y2, y3] ∧ Same H Hx ∧ Hx D = some (.lst (strV ([lnD ((os.length : Nat) : Int)] ++ plK os i))))
      ⟨_, _, rfl, s0, ex0⟩ (fun i σ' Hx _ z => by obtain ⟨_, _, _, z, _⟩ := z; exact SqT.of (z _ _ x2)) ?_ ?_⟩
    · rintro i v σ' Hx Hy hi ⟨y2, y3, rfl, sx, ex⟩ hy
      obtain ⟨T', v0, v1, rfl, nT, rfl, q0, q1⟩ := hy
      cases (Option.some.inj q0)
      have sT := same_upd (o := .tup [.int (i : Nat), v1]) nT
      have sy := sx.trans sT
      obtain ⟨o, hoi, hdo⟩ := hsv i v1 q1
      have hfo := ho o (List.mem_of_getElem? hoi)
      have hod : os.getD i none = o := by rw [List.getD_eq_getElem?_getD, hoi]; rfl
      have hil := (List.getElem?_eq_some_iff.mp hoi).1
      refine ⟨T', _, rfl, SqT.of upd_same, rfl, _, _, rfl, _, _, rfl, rfl, _, rfl, (by show 0 ≤ sizeLine; decide), fun em hem => ?_⟩
      have se := sy.trans (same_upd (o := .tup []) hem)
      have eD := same_upd (o := .tup []) hem _ _ (sT _ _ ex)
      refine ⟨dV o, .tuple [], dp_same (tp_le.trans se) _ _ hdo, .tup (SqT.of upd_same) .nil, shaped_dV o, by decide +kernel, ?_⟩
      rw [eqv_dV]
      obtain ⟨le, b1, b2, b3, b4, b5⟩ := line ("plate " : Str) plateW ((i : Nat) : Int) o tl_plateW rfl (few_nat (by omega)) hfo
      rw [← sizeLine_eq] at b1 b2 b3 b4 b5
      refine ⟨_, rfl, ite2 (fun hc => ?_) (fun hc => ?_)⟩
      · have hno : o ≠ some [] := fun z => by rw [decide_eq_true z] at hc; cases hc
        refine ⟨_, rfl, .inl ⟨rfl, _, SqL.of eD⟩, _, rfl, b1, _, rfl, .inr ⟨_, rfl, few_log (few_nat (by omega)), _, rfl, b2, _, rfl, b3, _, rfl, v1, o, rfl, dp_same (tp_same se) _ _ hdo, hfo, fun H5 s5 => .inl ⟨_, rfl, b5, _, rfl, b4, ?_⟩⟩⟩
        refine ⟨D, _, _, rfl, rfl, s5 _ _ eD, ?_, _, _, rfl, fun b z q => ?_, ?_⟩
        · rw [sizeLine_eq, strV_len, List.length_append]
          have := plK_len os i
          show 1 + (plK os i).length < _
          omega
        · rw [upd_ne (ne_of_none q hD)]
          exact s5 _ _ (se _ _ q)
        · rw [upd_same, plK_more, hod, if_pos hno, ← List.append_assoc, strV_app _ [lnP _ _], le]
          rfl
      · have hno : o = some [] := by
          refine Decidable.byContradiction fun z => hc ?_
          rw [decide_eq_false z]
          rfl
        refine ⟨_, _, rfl, se, ?_⟩
        rw [plK_more, hod, if_neg (fun z => z hno), List.append_nil]
        exact eD
    · rintro σ' Hx ⟨y2, y3, rfl, sx, ex⟩
      rw [hsl] at ex
      have llv : lv.length = qs.length := by
        have h1 := congrArg List.length D3.1
        rw [List.length_map, List.length_map, List.length_map] at h1
        exact h1
      refine ⟨_, rfl, d, CD, dx, _, _, rfl, sx _ _ x1, T.cl, T.nL, fl_loose _ _ _, la, rfl, ⟨_, SqT.of (sx _ _ x5)⟩, for_tup (K := K) (a := la) (xs := ts) (fun i σ' Hy => ∃ y2 y3, σ' = [some (.ref d), some (.ref D), y2, y3] ∧ Same H Hy ∧ Hy D = some (.lst (strV ([lnD ((os.length : Nat) : Int)] ++ plK os os.length ++ (qs.take i).map fun q => lnL q.1 q.2))))
        ⟨_, _, rfl, sx, by rw [List.take_zero, List.map_nil, List.append_nil]; exact ex⟩ (fun i σ' Hy _ z => by obtain ⟨_, _, _, z, _⟩ := z; exact SqT.of (z _ _ x5)) ?_ ?_⟩
      · rintro i x σ' Hy hi ⟨y2, y3, rfl, sy, ey⟩
        have hil : i < lv.length := by
          have := (List.getElem?_eq_some_iff.mp hi).1
          rw [x6.1] at this
          exact this
        obtain ⟨b, hb1, hb2⟩ := x6.2 i _ (List.getElem?_eq_getElem hil)
        rw [hi] at hb1
        cases (Option.some.inj hb1)
        obtain ⟨q, hqi⟩ : ∃ q, qs[i]? = some q := ⟨_, List.getElem?_eq_getElem (by omega)⟩
        have hk : lv[i].1 = q.1 := by
          have h1 : (lv.map (·.1))[i]? = some lv[i].1 := by rw [List.getElem?_map, List.getElem?_eq_getElem hil]; rfl
          rw [D3.1, List.map_map, List.getElem?_map, hqi] at h1
          exact (Option.some.inj h1).symm
        have hd : Dp K (Tp H) lv[i].2 (dV q.2) := by
          have h1 : (lv.map (·.2))[i]? = some lv[i].2 := by rw [List.getElem?_map, List.getElem?_eq_getElem hil]; rfl
          obtain ⟨e, he, hd⟩ := dps_get D3.2 h1
          rw [List.map_map, List.getElem?_map, hqi] at he
          cases (Option.some.inj he)
          exact hd
        have hfq := hq q (List.mem_of_getElem? hqi)
        obtain ⟨le, b1, b2, b3, b4, b5⟩ := line ("loose " : Str) looseW q.1 q.2 tl_looseW rfl hfq.2 hfq.1
        rw [← sizeLine_eq] at b1 b2 b3 b4 b5
        rw [hk] at hb2
        refine ⟨b, _, rfl, SqT.of (sy _ _ hb2), rfl, _, _, rfl, _, _, rfl, rfl, _, rfl, .inl ⟨rfl, _, SqL.of ey⟩, _, rfl, b1, _, rfl, .inr ⟨_, rfl, few_log hfq.2, _, rfl, b2, _, rfl, b3, _, rfl, _, q.2, rfl, dp_same (tp_same sy) _ _ hd, hfq.1, fun H5 s5 => .inl ⟨_, rfl, b5, _, rfl, b4, ?_⟩⟩⟩
        refine ⟨D, _, _, rfl, rfl, s5 _ _ ey, ?_, _, _, rfl, fun b z q => ?_, ?_⟩
        · rw [sizeLine_eq, strV_len, List.length_append, List.length_append, List.length_map, List.length_take]
          have := plK_len os os.length
          show 1 + (plK os os.length).length + _ < _
          omega
        · rw [upd_ne (ne_of_none q hD)]
          exact s5 _ _ (sy _ _ q)
        · rw [upd_same, List.take_add_one, hqi, List.map_append, ← List.append_assoc, strV_app _ (List.map _ (some q).toList), le]
          rfl
      · rintro σ' Hy ⟨y2, y3, rfl, sy, ey⟩
        rw [x6.1, llv, List.take_length] at ey
        exact ⟨_, rfl, D, _, rfl, .inl ⟨SqL.of ey, fun l hl => k l _ (sy.trans (same_upd hl)) (SqT.of upd_same)⟩⟩
end
end Pf

set_option Elab.async false
set_option linter.all false
set_option maxRecDepth 100000
set_option maxHeartbeats 4000000
namespace Pf
open PySem PySem.Spec PyProof.Rows L2
/-! ### t * 1 is t -/
theorem tuple_mul1 (l : Addr) (items : Array Value) (n : Nat) (dd : Option Addr) (sl : Array (Option Value)) (u : Tok) :
    Meets (Builtin.«tuple.__mul__» ⟨[.ref l, .int 1 u], []⟩) (fun _ R s => s.heap.get? l = some { cls := .type "tuple", dict := dd, data := .seq items n, slots := sl } ∧ R (.ok (.ret (Value.ref l))) s) :=
  .of_wp fun prog w A R s h => by
    obtain ⟨hp, g, d, tk, os⟩ := s
    obtain ⟨hl, h⟩ := h
    have f1 := AutoSeq1.idx_int
    have c1 : (items.isEmpty || (1 : Int) == 1) = true := by simp
    wp_walk using wpAny_loadPart' hl
    repeat (first
      | (refine wpAny_ite_true (by rw [c1]) ?_; wp_walk using wpAny_loadPart' hl)
      | (refine wpAny_ite_false (by simp) ?_; wp_walk using wpAny_loadPart' hl))
    exact ⟨_, rfl, h⟩
def rRep1 (K : PySem.W.Frag) : R2 := fun x y H Q => ∃ l xs, x = .ref l ∧ y = .int 1 ∧ SqT K H l xs ∧ Q (.ref l) H
theorem op_rep1 {X : Cx} : OpR X (binaryOp .Mult) (rRep1 X.K) := by
  intro pins s σ H x y v u Q I rx ry h
  obtain ⟨l, xs, rfl, rfl, hT, q⟩ := h
  cases rx
  obtain ⟨t, rfl⟩ := ry
  obtain ⟨its, r, ⟨⟨cls, dd, data, sl⟩, ho, hc, n, hd⟩, hs⟩ := I.tuple hT
  simp only at hc hd
  subst hc hd
  exact wpAny_binaryOp_repeat_ref (T := "tuple") (U := "int") (by decide) ⟨_, ho, rfl⟩ (fun s' => typeIs_int s' 1 t) noFill_tuple_mul F.fills_int_mul F.slot_int_rmul repeat_tuple F.slot_int_index.lookup
    (call_meets F.slot_int_rmul (typeIs_int s 1 t) F.entry_int_rmul (F.args_int_rmul_2 _ _) (int_rmul_tuple 1 t l its.toArray n dd sl)
      ⟨ho, rfl, ⟨_, ho, rfl⟩, call_meets F.slot_tuple_mul ⟨_, ho, rfl⟩ F.entry_tuple_mul (F.args_tuple_mul_2 _ _) (tuple_mul1 l its.toArray n dd sl t) ⟨ho, ⟨.ref l, H, I, rfl, q⟩⟩⟩)

/-! ### disks whose plates hold values -/
theorem FnOk.weak {P : Program} {w : World} {K : PySem.W.Frag} {mg : Str → Option Value} {base : Heap} {CX : CXT} {k : Nat} {f : Addr} {fd : FuncData} {ps : List Str} {sp sp' : Sp} (F : FnOk P w K mg base CX k f fd ps sp) (h : ∀ vs H Q E, sp' vs H Q E → sp vs H Q E) : FnOk P w K mg base CX k f fd ps sp' :=
  ⟨fun vs H Q E q => F.len _ _ _ _ (h _ _ _ _ q), fun A outer s H args us vs Q E hr he hb hv q => F.run A outer s H args us vs Q E hr he hb hv (h _ _ _ _ q)⟩
def OvAt (K : PySem.W.Frag) (CD : Addr) (H : Hp) (d : Addr) (os : List Ov) (qs : List (Int × Ov)) : Prop := DkAt K CD H d (os.map dV) (qs.map fun q => (q.1, dV q.2))
theorem OvAt.fr {K : PySem.W.Frag} {CD : Addr} {H H' : Hp} {d : Addr} {os : List Ov} {qs : List (Int × Ov)} {xs : List Addr} (A : OvAt K CD H d os qs) (f : Fr xs H H') (n : d ∉ xs) : OvAt K CD H' d os qs := DkAt.fr A f n
theorem OvAt.same {K : PySem.W.Frag} {CD : Addr} {H H' : Hp} {d : Addr} {os : List Ov} {qs : List (Int × Ov)} (A : OvAt K CD H d os qs) (s : Same H H') : OvAt K CD H' d os qs := A.fr (xs := []) (.of s) (by simp)
def settleO (os : List Ov) (qs : List (Int × Ov)) : List Ov := qs.foldl (fun os q => os.set q.1.toNat q.2) os
theorem settleO_len : ∀ (qs : List (Int × Ov)) (os : List Ov), (settleO os qs).length = os.length
  | [], _ => rfl
  | q :: qs, os => by
    show (settleO (os.set q.1.toNat q.2) qs).length = _
    rw [settleO_len qs, List.length_set]
theorem settle_map : ∀ (qs : List (Int × Ov)) (os : List Ov), settleD (os.map dV) (qs.map fun q => (q.1, dV q.2)) = (settleO os qs).map dV
  | [], _ => rfl
  | q :: qs, os => by
    show settleD ((os.map dV).set q.1.toNat (dV q.2)) (qs.map fun q => (q.1, dV q.2)) = (settleO (os.set q.1.toNat q.2) qs).map dV
    rw [← settle_map qs, List.map_set]
def spWrO (K : PySem.W.Frag) (CD : Addr) : Sp := fun vs H Q _ => ∃ (d : Addr) (os : List Ov) (qs : List (Int × Ov)) (p : Int) (v : V) (o : Ov), vs = [.ref d, .int p, v] ∧ OvAt K CD H d os qs ∧ 0 ≤ p ∧ p < ((os.length : Nat) : Int) ∧ qs.length ≤ 1000 ∧ Dp K (Tp H) v (dV o) ∧
  ∀ H', Fr [d] H H' → OvAt K CD H' d os (qs ++ [(p, o)]) → Q .non H'
theorem wrO_of {K : PySem.W.Frag} {CD : Addr} : ∀ vs H Q E, spWrO K CD vs H Q E → spWrite CD vs H Q E := fun vs H Q E h => by
  obtain ⟨d, os, qs, p, v, o, rfl, Dk, p0, p1, hl, hd, k⟩ := h
  obtain ⟨sv, lv, D, D2, D3⟩ := Dk
  have lvl : lv.length = qs.length := by
    have := congrArg List.length D3.1
    rw [List.length_map, List.length_map, List.length_map] at this
    exact this
  refine ⟨d, _, p, v, sv, lv, rfl, D, p0, by rw [List.length_map]; exact p1, by omega, fun H1 b1 D1 => ?_⟩
  have f1 : Fr [d] H H1 := .but b1 (fun c hc u z => by rw [List.mem_singleton.mp hc] at z; exact D.obj u z)
  refine k H1 f1 ⟨sv, lv ++ [(p, v)], D1, dps_same f1.tp _ _ D2, by rw [List.map_append, List.map_append, List.map_append, D3.1]; rfl, ?_⟩
  rw [List.map_append, List.map_append, List.map_append]
  exact dps_app (dps_same f1.tp _ _ D3.2) (.cons (dp_same f1.tp _ _ hd) .nil)
def spBrO (K : PySem.W.Frag) (CD : Addr) : Sp := fun vs H Q _ => ∃ (d : Addr) (os : List Ov) (qs : List (Int × Ov)), vs = [.ref d] ∧ OvAt K CD H d os qs ∧ (∀ q ∈ qs, 0 ≤ q.1 ∧ q.1 < ((os.length : Nat) : Int)) ∧ os.length ≤ 1000 ∧
  ∀ H', Fr [d] H H' → OvAt K CD H' d (settleO os qs) [] → Q .non H'
theorem brO_of {K : PySem.W.Frag} {CD : Addr} : ∀ vs H Q E, spBrO K CD vs H Q E → spBar CD vs H Q E := fun vs H Q E h => by
  obtain ⟨d, os, qs, rfl, Dk, hB, hl, k⟩ := h
  obtain ⟨sv, lv, D, D2, D3⟩ := Dk
  refine ⟨d, _, sv, lv, rfl, D, fun q hq => ?_, by rw [List.length_map]; omega, fun H1 f1 D1 => k H1 f1 ?_⟩
  · have h1 : q.1 ∈ lv.map (·.1) := List.mem_map.mpr ⟨q, hq, rfl⟩
    rw [D3.1, List.map_map] at h1
    obtain ⟨q', h2, h3⟩ := List.mem_map.mp h1
    rw [← h3, List.length_map]
    exact hB q' h2
  · show DkAt K CD H1 d ((settleO os qs).map dV) []
    rw [← settle_map]
    exact ⟨settleV sv lv, [], by rw [settleD_len]; exact D1, dps_same f1.tp _ _ (settle_dp D3 D2), rfl, .nil⟩
section
variable {P : Program} {w : World} {K : PySem.W.Frag} {mg : Str → Option Value} {base : Heap} {C CD : Addr}
def spInit1 (C : Addr) : Sp := fun vs H Q _ => ∃ (d dx : Addr), vs = [.ref d, .int 1] ∧ H d = some (.ins C dx []) ∧
  ∀ H' e, But [d] H H' → H e = none → H' e = some (.tup []) → DiskAt C H' d 1 [.ref e] [] → Q .non H'
theorem ok_init1 {f : Addr} {fd : FuncData} (F : Fun K "__init__" "Disk.__init__" sInit f fd) (T : DTxt K C) : FnOk P w K mg base CX0 1 f fd ["self", "many"] (spInit1 C) := by
  refine F.ok scInit (fun vs H Q E h => ?_) (fun cdv A outer s H vs Q E hr h => ?_)
  · obtain ⟨d, dx, rfl, _⟩ := h
    rfl
  · obtain ⟨d, dx, rfl, hd, k⟩ := h
    refine ⟨_, pss_cons (ps_fld (pv 0) (pv 1) rfl) (pss_cons (ps_fld (pv 0) (pe_op op_rep1 (pe_tup (pa_cons (pe_tup pa_nil) pa_nil)) (pv 1)) rfl) (pss_one (ps_fld (pv 0) (pe_tup pa_nil) rfl))), ?_⟩
    refine ⟨_, rfl, _, rfl, d, C, dx, [], rfl, hd, T.cl, T.nM, (by show 0 < 1000; decide), ?_⟩
    refine ⟨Nat.zero_le _, fun e he => ⟨by show 1 ≤ sizeLine; decide, fun u hu => ?_⟩⟩
    have ned : e ≠ d := fun z => by rw [z, upd_same] at he; cases he
    have nue : u ≠ e := fun z => by rw [z, upd_same] at hu; cases hu
    have nud : u ≠ d := fun z => by rw [z, upd_ne ned.symm, upd_same] at hu; cases hu
    refine ⟨_, rfl, u, [.ref e], rfl, rfl, SqT.of upd_same, ?_⟩
    refine ⟨_, rfl, d, C, dx, putF "many" (.int 1) [], rfl, by rw [upd_ne nud.symm, upd_ne ned.symm, upd_same], T.cl, T.nS, (by show 1 < 1000; decide), ?_⟩
    refine ⟨Nat.zero_le _, fun l hl => ?_⟩
    have nld : l ≠ d := fun z => by rw [z, upd_same] at hl; cases hl
    have nlu : l ≠ u := fun z => by rw [z, upd_ne nud, upd_same] at hl; cases hl
    have nle : l ≠ e := fun z => by rw [z, upd_ne ned, upd_ne nue.symm, upd_same] at hl; cases hl
    have he0 : H e = none := by rw [upd_ne ned] at he; exact he
    have hu0 : H u = none := by rw [upd_ne nue, upd_ne nud] at hu; exact hu
    have hl0 : H l = none := by rw [upd_ne nld, upd_ne nlu, upd_ne nle, upd_ne nld] at hl; exact hl
    refine ⟨_, rfl, d, C, dx, putF "settled" (.ref u) (putF "many" (.int 1) []), rfl, by rw [upd_ne nld.symm, upd_same], T.cl, T.nL, ?_, ?_⟩
    · show (if ("many" : Str) = "settled" then _ else (("many" : Str), V.int 1) :: putF "settled" (V.ref u) []).length < 1000
      rw [if_neg n_ms]
      show 2 < 1000
      decide
    refine k _ e (fun b o q => ?_) he0 ?_ ⟨dx, u, l, [], upd_same, ?_, rfl, by omega, ?_, ⟨rfl, fun i q z => by simp at z⟩⟩
    · have hb : b ∉ [d] := fun z => by rw [off_in z] at q; cases q
      rw [off_out hb] at q
      have nbd : b ≠ d := fun z => hb (by rw [z]; simp)
      rw [upd_ne nbd, upd_ne (ne_of_none q hl0), upd_ne nbd, upd_ne (ne_of_none q hu0), upd_ne (ne_of_none q he0), upd_ne nbd]
      exact q
    · rw [upd_ne ned, upd_ne nle.symm, upd_ne ned, upd_ne nue.symm, upd_same]
    · rw [upd_ne nud, upd_ne nlu.symm, upd_ne nud, upd_same]
    · rw [upd_ne nld, upd_same]
/-- a new disk of n plates, n from 1 on -/
def spInO (K : PySem.W.Frag) (C : Addr) : Sp := fun vs H Q _ => ∃ (d dx : Addr) (n : Nat), vs = [.ref d, .int ((n : Nat) : Int)] ∧ H d = some (.ins C dx []) ∧ 1 ≤ n ∧ n ≤ 1000 ∧
  ∀ H', But [d] H H' → OvAt K C H' d (List.replicate n (some [])) [] → Q .non H'
theorem inO_of {K : PySem.W.Frag} {C : Addr} : ∀ vs H Q E, spInO K C vs H Q E → (spInit C vs H Q E ∨ spInit1 C vs H Q E) := fun vs H Q E h => by
  obtain ⟨d, dx, n, rfl, hd, h1, h2, k⟩ := h
  by_cases c : n = 1
  · subst c
    refine .inr ⟨d, dx, rfl, hd, fun H' e b he e1 D => k H' b ⟨[.ref e], [], D, .cons (.tup (SqT.of (tp_at e1 rfl)) .nil) .nil, rfl, .nil⟩⟩
  · refine .inl ⟨d, dx, _, rfl, hd, by omega, by omega, fun H' e b he e1 D => k H' b ⟨List.replicate n (.ref e), [], ?_, ?_, rfl, .nil⟩⟩
    · rw [List.length_map, List.length_replicate]
      rw [Int.toNat_natCast] at D
      exact D
    · rw [List.map_replicate]
      exact dps_repl (.tup (SqT.of (tp_at e1 rfl)) .nil) n
end
end Pf

set_option Elab.async false
set_option linter.all false
set_option maxRecDepth 100000
set_option maxHeartbeats 4000000
namespace Pf
open PySem PySem.Spec PyProof.Rows L2 TL
def dkW : List Nat := [100, 105, 115, 107]
def plW : List Nat := [112, 108, 97, 116, 101]
def loW : List Nat := [108, 111, 111, 115, 101]
theorem tl_dkW : tl (("disk" : Str)) = dkW := by
  show tl (Str.ofString "disk") = _
  rw [tl_ofString]; rfl
theorem tl_plW : tl (("plate" : Str)) = plW := by
  show tl (Str.ofString "plate") = _
  rw [tl_ofString]; rfl
theorem tl_loW : tl (("loose" : Str)) = loW := by
  show tl (Str.ofString "loose") = _
  rw [tl_ofString]; rfl
theorem split_words {x : Str} {ps : List (List Nat)} (hn : ps ≠ []) (h : ∀ p ∈ ps, 32 ∉ p) (hx : tl x = joinL [32] ps) : Txt.split x (" " : Str) = ps.map mkS := by
  have h1 := split_tl x 32 (" " : Str) tl_blank (by decide)
  rw [hx, spl_join hn h] at h1
  exact map_tl h1
theorem tx_no32 (o : Ov) : 32 ∉ txO o := by
  cases o with
  | none => decide
  | some ns =>
    by_cases hn : ns = []
    · subst hn; decide
    · have hx : txO (some ns) = joinL [44] (ns.map iL) := if_neg hn
      rw [hx]
      have : ∀ ms : List Int, 32 ∉ joinL [44] (ms.map iL) := by
        intro ms
        induction ms with
        | nil => exact fun z => by cases z
        | cons m ms ih =>
          cases ms with
          | nil => exact iL_no32 m
          | cons m2 ms =>
            show 32 ∉ iL m ++ ([44] ++ joinL [44] ((m2 :: ms).map iL))
            intro z
            rcases List.mem_append.mp z with z | z
            · exact iL_no32 m z
            · rcases List.mem_append.mp z with z | z
              · cases z with
                | tail _ z => cases z
              · exact ih z
      exact this ns
theorem split_lnD (n : Int) : Txt.split (mkS (lnD n)) (" " : Str) = [dkW, iL n].map mkS := split_words (by simp) (fun p hp => by
  rcases List.mem_cons.mp hp with z | z
  · rw [z]; decide
  · rw [List.mem_singleton.mp z]; exact iL_no32 n) rfl
theorem split_ln {kw : List Nat} (hk : 32 ∉ kw) (i : Int) (o : Ov) : Txt.split (mkS (kw ++ [32] ++ iL i ++ [32] ++ txO o)) (" " : Str) = [kw, iL i, txO o].map mkS := split_words (by simp) (fun p hp => by
  rcases List.mem_cons.mp hp with z | z
  · rw [z]; exact hk
  · rcases List.mem_cons.mp z with z | z
    · rw [z]; exact iL_no32 i
    · rw [List.mem_singleton.mp z]; exact tx_no32 o) (by
  rw [tl_mkS]
  show _ = kw ++ ([32] ++ (iL i ++ ([32] ++ txO o)))
  simp)
theorem shL_few {n : Int} (h : Few n) : isShL (iL n) = true := by
  unfold isShL
  rw [Bool.and_eq_true, num_iL]
  have h1 := figL_len (iL n)
  have h2 := few_len h
  exact ⟨decide_eq_true (by omega), rfl⟩
theorem inL_few {n lo hi : Int} (h : Few n) (h1 : lo ≤ n) (h2 : n ≤ hi) : isInL lo hi (iL n) = true := by
  unfold isInL
  rw [shL_few h, val_iL, decide_eq_true h1, decide_eq_true h2]
  rfl
theorem isVS_tx {o : Ov} (h : OFew o) {z : Str} (hz : tl z = txO o) : isVS z = true := by
  unfold isVS
  rw [hz]
  cases o with
  | none => rfl
  | some ns =>
    by_cases hn : ns = []
    · subst hn; rfl
    · have hx : txO (some ns) = joinL [44] (ns.map iL) := if_neg hn
      rw [split_num hn (hz.trans hx)]
      rw [Bool.or_eq_true]
      refine .inr (List.all_eq_true.mpr fun w hw => ?_)
      obtain ⟨n, hn2, rfl⟩ := List.mem_map.mp hw
      rw [tl_mkS]
      exact shL_few (h.2 n hn2)
/-- a list or a tuple -/
def LT (K : PySem.W.Frag) (H : Hp) (p : Addr) (xs : List V) : Prop := SqL K H p xs ∨ SqT K H p xs
theorem LT.same {K : PySem.W.Frag} {H H' : Hp} {p : Addr} {xs : List V} (h : LT K H p xs) (s : Same H H') : LT K H' p xs := h.imp (fun z => s.seq z) fun z => same_seqT s z
theorem LT.ix {K : PySem.W.Frag} {H : Hp} {p : Addr} {xs : List V} {i : Int} {v : V} {Q : VK} (h : LT K H p xs) (e : atI xs i = some v) (q : Q v H) : rIx K (.ref p) (.int i) H Q :=
  h.elim (fun z => .inl ⟨p, xs, i, v, rfl, rfl, z, e, q⟩) fun z => .inr (.inl ⟨p, xs, i, v, rfl, rfl, z, e, q⟩)
theorem str_tt {x y : Str} (h : tl x = tl y) : V.bl (decide (V.str x = V.str y)) = V.bl true := by rw [TL.ext_tl h, decide_eq_true rfl]
section
variable {P : Program} {w : World} {K : PySem.W.Frag} {mg : Str → Option Value} {base : Heap} {CD : Addr}
theorem scCw : FnScope ["holds", "line", "word"] ["holds", "line", "word"] (defScope sCw) := ⟨rfl, rfl, rfl, by decide +kernel, rfl, by decide +kernel, by decide +kernel⟩
theorem scRm : FnScope ["lines", "words"] ["lines"] (defScope sRm) := ⟨rfl, rfl, rfl, by decide +kernel, rfl, by decide +kernel, by decide +kernel⟩
theorem scRl : FnScope ["line", "words", "low", "many", "kinds", "kind", "first", "value"] ["line", "words", "low", "many", "kinds"] (defScope sRl) := ⟨rfl, rfl, rfl, by decide +kernel, rfl, by decide +kernel, by decide +kernel⟩
def spCw : Sp := fun vs H Q _ => ∃ l u : Int, vs = [.bl true, .int l, .int u] ∧ Q .non H
theorem ok_cw {f : Addr} {fd : FuncData} (F : Fun K "check_word" "check_word" sCw f fd) : FnOk P w K mg base CX0 1 f fd ["holds", "line", "word"] spCw := by
  refine F.ok scCw (fun vs H Q E h => ?_) (fun cdv A outer s H vs Q E hr h => ?_)
  · obtain ⟨l, u, rfl, _⟩ := h
    rfl
  · obtain ⟨l, u, rfl, k⟩ := h
    exact ⟨_, pss_one (ps_if (pt_not (pt_val (pv 0))) (pss_one ps_never) pss_nil), _, rfl, _, rfl, iteF k⟩
def spRm (K : PySem.W.Frag) : Sp := fun vs H Q _ => ∃ (p : Addr) (ls : List (List Nat)) (n : Nat), vs = [.ref p] ∧ LT K H p (strV (lnD ((n : Nat) : Int) :: ls)) ∧ 1 ≤ n ∧ n ≤ 1000 ∧ ∀ H', Same H H' → Q (.int ((n : Nat) : Int)) H'
theorem ok_rm {f fW fC fN : Addr} {fd dW dC dN : FuncData} (F : Fun K "read_many" "read_many" sRm f fd) (DW : Df P w K mg base CX0 1 "word_at" ["words", "place"] (spWordAt K) fW dW) (DC : Df P w K mg base CX0 1 "check_word" ["holds", "line", "word"] spCw fC dC) (DN : Df P w K mg base CX0 4 "is_number_within" ["word", "low", "high"] spNin fN dN)
    {th : Tok} (mM : mg "MOST_PLATES" = some (.int 1000 th)) (ml : mg "len" = none) (mi : mg "int" = none) : FnOk P w K mg base CX0 5 f fd ["lines"] (spRm K) := by
  refine F.ok scRm (fun vs H Q E h => ?_) (fun cdv A outer s H vs Q E hr h => ?_)
  · obtain ⟨p, ls, n, rfl, _⟩ := h
    rfl
  · obtain ⟨p, ls, n, rfl, hp, n1, n2, k⟩ := h
    have nd := scRm.nd
    have h1 : Room 1 _ := hr.mono (by decide)
    have h4 : Room 4 _ := hr.mono (by decide)
    refine ⟨_, pss_cons (ps_set (i := 1) nd rfl (.inl rfl) (pe_ifExp (pt_cmpR op_gt (pe_callB call_len_seq (by rfl) ml boot_len (pa_cons (pv 0) pa_nil)) pe_int (nomark _)) (pe_split (pe_ix ix_seq (pv 0) pe_int (fun _ _ => rfl)) pe_str) (pe_lst pa_nil)))
      (pss_cons (ps_expr (pe_call DC.G h1 rfl DC.g DC.kp DC.b .nil pass0 (pa_cons (pe_cmpR op_eq (pe_call DW.G h1 rfl DW.g DW.kp DW.b .nil pass0 (pa_cons (pv 1) (pa_cons pe_int pa_nil))) pe_str (nomark _)) (pa_cons pe_int (pa_cons pe_int pa_nil)))))
      (pss_cons (ps_expr (pe_call DC.G h1 rfl DC.g DC.kp DC.b .nil pass0 (pa_cons (pe_call DN.G h4 rfl DN.g DN.kp DN.b .nil pass0 (pa_cons (pe_call DW.G h1 rfl DW.g DW.kp DW.b .nil pass0 (pa_cons (pv 1) (pa_cons pe_int pa_nil))) (pa_cons pe_int (pa_cons (pe_glob (v := .int 1000) rfl mM ⟨_, rfl⟩) pa_nil)))) (pa_cons pe_int (pa_cons pe_int pa_nil)))))
      (pss_cons (ps_expr (pe_call DC.G h1 rfl DC.g DC.kp DC.b .nil pass0 (pa_cons (pe_cmpR op_eq (pe_callB call_len_seq (by rfl) ml boot_len (pa_cons (pv 1) pa_nil)) pe_int (nomark _)) (pa_cons pe_int (pa_cons pe_int pa_nil)))))
      (pss_one (ps_ret (pe_callTy call_int_str (by rfl) mi boot_int (pa_cons (pe_ix ix_list (pv 1) pe_int (fun _ _ => rfl)) pa_nil))))))), ?_⟩
    have hn : Few ((n : Nat) : Int) := few_nat (by omega)
    have hfl := few_len hn
    refine ⟨_, rfl, p, _, rfl, hp, _, _, rfl, rfl, _, rfl, ite2 (fun hc => ?_) (fun hc => absurd (decide_eq_true (by rw [strV_len, List.length_cons]; omega)) hc)⟩
    refine ⟨_, rfl, LT.ix hp (atI_nat (j := 0) rfl) ⟨⟨_, rfl⟩, mkS (lnD ((n : Nat) : Int)), _, rfl, rfl, by decide +kernel, ?_, fun q hq => ?_⟩⟩
    · rw [len_mkS, sizeLine_eq]
      show (diskW ++ iL _).length + 2 ≤ _
      rw [List.length_append]
      show 5 + _ + 2 ≤ _
      omega
    have hsp : Txt.split (mkS (lnD ((n : Nat) : Int))) (Str.ofString " ") = [dkW, iL ((n : Nat) : Int)].map mkS := split_lnD _
    rw [hsp]
    have s1 := same_upd (o := .lst (([dkW, iL ((n : Nat) : Int)].map mkS).map V.str)) hq
    have eq1 : (upd H q (.lst (([dkW, iL ((n : Nat) : Int)].map mkS).map V.str))) q = some (.lst (([dkW, iL ((n : Nat) : Int)].map mkS).map V.str)) := upd_same
    generalize upd H q (.lst (([dkW, iL ((n : Nat) : Int)].map mkS).map V.str)) = H1 at s1 eq1 ⊢
    refine ⟨_, rfl, q, [dkW, iL ((n : Nat) : Int)].map mkS, 0, rfl, SqL.of eq1, rfl, 0, 0, ?_, ?_⟩
    · have h9 : V.bl (decide (V.str (mkS dkW) = V.str ("disk" : Str))) = V.bl true := str_tt (by rw [tl_mkS, tl_dkW])
      show V.bl (decide (V.str (mkS dkW) = V.str ("disk" : Str))) :: _ = _
      rw [h9]
      rfl
    refine ⟨_, rfl, q, [dkW, iL ((n : Nat) : Int)].map mkS, 1, rfl, SqL.of eq1, mkS (iL ((n : Nat) : Int)), 1, 1000, rfl, by rw [len_mkS]; omega, fun _ => by rw [len_mkS]; omega, fun H2 s2 => ?_⟩
    rw [tl_mkS, inL_few hn (by omega) (by omega)]
    refine ⟨0, 1, rfl, ?_⟩
    have eq2 := s2 _ _ eq1
    refine ⟨_, rfl, q, _, rfl, .inl (SqL.of eq2), rfl, 0, 2, rfl, ?_⟩
    have hiw := int_word (w := mkS (iL ((n : Nat) : Int))) (by rw [tl_mkS]; exact num_iL _) (by rw [len_mkS]; omega)
    rw [tl_mkS, val_iL] at hiw
    exact ⟨_, rfl, q, _, 1, _, rfl, rfl, SqL.of eq2, atI_nat (j := 1) rfl, _, _, rfl, hiw, by rw [len_mkS]; omega, k H2 (s1.trans s2)⟩
def spRl (K : PySem.W.Frag) : Sp := fun vs H Q _ => ∃ (ln low many i : Int) (q kq : Addr) (kw : List Nat) (o : Ov) (ks : List Str), vs = [.int ln, .ref q, .int low, .int many, .ref kq] ∧ SqL K H q (([kw, iL i, txO o].map mkS).map V.str) ∧ SqT K H kq (ks.map V.str) ∧ mkS kw ∈ ks ∧ (kw = plW ∨ kw = loW) ∧ OFew o ∧ Few i ∧
  (if kw = plW then low else 0) ≤ i ∧ i < many ∧ ¬ (kw = plW ∧ o = some []) ∧ ∀ t v H', Same H H' → SqT K H' t [.str (mkS kw), .int i, v] → Dp K (Tp H') v (dV o) → Q (.ref t) H'
abbrev NRl : List Str := ["line", "words", "low", "many", "kinds", "kind", "first", "value"]
abbrev stRl (j : Nat) : Stmt := (defBody sRl).getD j (.Pass ⟨0, 0, 0, 0⟩)
abbrev XRl (P : Program) (w : World) (K : PySem.W.Frag) (mg : Str → Option Value) (base : Heap) (f : Addr) (cdv : Value) (A : Around) (outer : List Env) (s : Shared) (H0 : Hp) (E : XK) : Cx :=
  (cxOf CX0 P w K mg base NRl "read_line" (defScope sRl) f cdv A outer s H0 E).nox
theorem pair_ne {kw : List Nat} {o : Ov} (h : ¬ (kw = plW ∧ o = some [])) (hf : OFew o) : txO o ≠ emptyL ∨ kw ≠ plW := by
  by_cases c : kw = plW
  · refine .inl fun z => h ⟨c, ?_⟩
    cases o with
    | none => exact absurd z (by decide)
    | some ns =>
      by_cases hn : ns = []
      · rw [hn]
      · exact absurd ((if_neg hn : txO (some ns) = joinL [44] (ns.map iL)).symm.trans z) (txN_ne_empty hn)
  · exact .inr c
theorem strOk_mk {l : List Nat} (h : ∀ c ∈ l, c < 128) : PyData.strOk (mkS l) = true := by
  show (l.toArray).all (· < 0x110000) = true
  rw [List.all_toArray]
  exact List.all_eq_true.mpr fun c hc => decide_eq_true (by have := h c hc; omega)
theorem tx_parts {o : Ov} (hfo : OFew o) : (∀ p ∈ Txt.split (mkS (txO o)) ("," : Str), p.length ≤ 100000) ∧ (Txt.split (mkS (txO o)) ("," : Str)).length ≤ 100000 := by
  cases o with
  | none =>
    have h9 : Txt.split (mkS (txO none)) ("," : Str) = [tornL].map mkS := by
      have h8 := split_tl (mkS tornL) 44 ("," : Str) tl_comma (by decide)
      exact map_tl (h8.trans (by rw [tl_mkS]; rfl))
    rw [h9]
    exact ⟨fun p hp => by rw [List.mem_singleton.mp hp, len_mkS]; decide, by decide⟩
  | some ns =>
    by_cases hn : ns = []
    · subst hn
      have h9 : Txt.split (mkS (txO (some []))) ("," : Str) = [emptyL].map mkS := by
        have h8 := split_tl (mkS emptyL) 44 ("," : Str) tl_comma (by decide)
        exact map_tl (h8.trans (by rw [tl_mkS]; rfl))
      rw [h9]
      exact ⟨fun p hp => by rw [List.mem_singleton.mp hp, len_mkS]; decide, by decide⟩
    · rw [split_num (x := mkS (txO (some ns))) hn (show tl (mkS (txO (some ns))) = _ from if_neg hn)]
      refine ⟨fun p hp => ?_, by rw [List.length_map]; have := hfo.1; omega⟩
      obtain ⟨n, hn2, rfl⟩ := List.mem_map.mp hp
      rw [len_mkS]
      have := few_len (hfo.2 n hn2)
      omega
theorem iL_lt (n : Int) : ∀ c ∈ iL n, c < 128 := fun c hc => Decidable.byContradiction fun z => iL_free (n := n) (s := c) (by omega) hc
theorem tx_lt (o : Ov) : ∀ c ∈ txO o, c < 128 := by
  cases o with
  | none => decide
  | some ns =>
    by_cases hn : ns = []
    · subst hn; decide
    · have hx : txO (some ns) = joinL [44] (ns.map iL) := if_neg hn
      rw [hx]
      have : ∀ ms : List Int, ∀ c ∈ joinL [44] (ms.map iL), c < 128 := by
        intro ms
        induction ms with
        | nil => exact fun c z => by cases z
        | cons m ms ih =>
          cases ms with
          | nil => exact iL_lt m
          | cons m2 ms =>
            intro c z
            have z' : c ∈ iL m ++ ([44] ++ joinL [44] ((m2 :: ms).map iL)) := z
            rcases List.mem_append.mp z' with z | z
            · exact iL_lt m c z
            · rcases List.mem_append.mp z with z | z
              · rw [List.mem_singleton.mp z]; decide
              · exact ih c z
      exact this ns
theorem shaped_two {a b : Str} (h1 : PyData.strOk a = true) (h2 : PyData.strOk b = true) : SeqAt.shaped (.tuple [.str a, .str b]) = true :=
  shaped_tup (by simp [PyData.canLayAll0, PyData.canLay0, h1, h2]) (by simp [PyData.depthAll, PyData.depth])
theorem rl_rest {f fW fC fN fV fO : Addr} {dW dC dN dV' dO : FuncData} {cdv : Value} {A : Around} {outer : List Env} {s : Shared} {H0 : Hp} {E : XK} (DW : Df P w K mg base CX0 1 "word_at" ["words", "place"] (spWordAt K) fW dW) (DC : Df P w K mg base CX0 1 "check_word" ["holds", "line", "word"] spCw fC dC) (DN : Df P w K mg base CX0 4 "is_number_within" ["word", "low", "high"] spNin fN dN)
    (DV : Df P w K mg base CX0 4 "is_value_word" ["word"] spIvw fV dV') (DO : Df P w K mg base CX0 1 "value_of" ["word"] (spVo K) fO dO) (ml : mg "len" = none) (mi : mg "int" = none) (hr : Room 4 (A.deeper (envOfC "read_line" (defScope sRl) s.heap.objs.size f cdv))) :
    ∃ t, PSs (XRl P w K mg base f cdv A outer s H0 E) [stRl 3, stRl 4, stRl 5, stRl 6, stRl 7] t ∧ ∀ (D : Ends) H (ln low many i first : Int) (q kq : Addr) (kw : List Nat) (o : Ov), SqL K H q (([kw, iL i, txO o].map mkS).map V.str) → (∀ c ∈ kw, c < 128) → OFew o → Few i → first ≤ i → i < many → ¬ (kw = plW ∧ o = some []) →
      (∀ t v H', Same H H' → SqT K H' t [.str (mkS kw), .int i, v] → Dp K (Tp H') v (dV o) → D.rt (.ref t) H') →
      t D [some (.int ln), some (.ref q), some (.int low), some (.int many), some (.ref kq), some (.str (mkS kw)), some (.int first), none] H := by
  have nd := scRl.nd
  have h1 : Room 1 _ := hr.mono (by decide)
  have h4 : Room 4 _ := hr.mono (by decide)
  refine ⟨_, pss_cons (ps_expr (pe_call DC.G h1 rfl DC.g DC.kp DC.b .nil pass0 (pa_cons (pe_call DN.G h4 rfl DN.g DN.kp DN.b .nil pass0 (pa_cons (pe_call DW.G h1 rfl DW.g DW.kp DW.b .nil pass0 (pa_cons (pv 1) (pa_cons pe_int pa_nil))) (pa_cons (pv 6) (pa_cons (pe_op op_sub (pv 3) pe_int) pa_nil)))) (pa_cons (pv 0) (pa_cons pe_int pa_nil)))))
      (pss_cons (ps_set (i := 7) nd rfl (.inl rfl) (pe_call DW.G h1 rfl DW.g DW.kp DW.b .nil pass0 (pa_cons (pv 1) (pa_cons pe_int pa_nil))))
      (pss_cons (ps_expr (pe_call DC.G h1 rfl DC.g DC.kp DC.b .nil pass0 (pa_cons (pe_and (pe_call DV.G h4 rfl DV.g DV.kp DV.b .nil pass0 (pa_cons (pv 7) pa_nil)) (pe_one (pe_cmpR (op_neD hr.units) (pe_tup (pa_cons (pv 5) (pa_cons (pv 7) pa_nil))) (pe_tup (pa_cons pe_str (pa_cons pe_str pa_nil))) (nomark _)))) (pa_cons (pv 0) (pa_cons pe_int pa_nil)))))
      (pss_cons (ps_expr (pe_call DC.G h1 rfl DC.g DC.kp DC.b .nil pass0 (pa_cons (pe_cmpR op_eq (pe_callB call_len_seq (by rfl) ml boot_len (pa_cons (pv 1) pa_nil)) pe_int (nomark _)) (pa_cons (pv 0) (pa_cons pe_int pa_nil)))))
      (pss_one (ps_ret (pe_tup (pa_cons (pv 5) (pa_cons (pe_callTy call_int_str (by rfl) mi boot_int (pa_cons (pe_ix ix_list (pv 1) pe_int (fun _ _ => rfl)) pa_nil)) (pa_cons (pe_call DO.G h1 rfl DO.g DO.kp DO.b .nil pass0 (pa_cons (pv 7) pa_nil)) pa_nil))))))))), fun D H ln low many i first q kq kw o hq hkc hfo hfi hlo hhi hne k => ?_⟩
  have hfl := few_len hfi
  have htl := tx_len hfo
  refine ⟨_, rfl, q, [kw, iL i, txO o].map mkS, 1, rfl, hq, _, rfl, _, rfl, _, _, rfl, rfl, mkS (iL i), first, many - 1, rfl, by rw [len_mkS]; omega, fun _ => by rw [len_mkS]; omega, fun H1 s1 => ?_⟩
  rw [tl_mkS, inL_few hfi hlo (by omega)]
  refine ⟨_, rfl, ln, 1, rfl, ?_⟩
  have hq1 := s1.seq hq
  refine ⟨_, rfl, q, [kw, iL i, txO o].map mkS, 2, rfl, hq1, ?_⟩
  obtain ⟨hsplit, hsn⟩ := tx_parts hfo
  refine ⟨_, rfl, mkS (txO o), rfl, by rw [len_mkS]; omega, hsplit, hsn, fun H2 s2 => ?_⟩
  rw [isVS_tx hfo (tl_mkS _)]
  refine ⟨_, rfl, iteT ?_⟩
  refine ⟨_, rfl, _, rfl, (by show 2 ≤ sizeLine; decide), fun t1 ht1 => ⟨(by show 2 ≤ sizeLine; decide), fun t2 ht2 => ?_⟩⟩
  have u1 := same_upd (o := .tup [V.str (mkS kw), V.str (mkS (txO o))]) ht1
  have u2 := same_upd (o := .tup [V.str ("plate" : Str), V.str ("empty" : Str)]) ht2
  have e1 := u2 _ _ (upd_same (H := H2) (a := t1) (o := .tup [V.str (mkS kw), V.str (mkS (txO o))]))
  refine ⟨.tuple [.str (mkS kw), .str (mkS (txO o))], .tuple [.str ("plate" : Str), .str ("empty" : Str)], .tup (SqT.of e1) (.cons (.str _) (.cons (.str _) .nil)), .tup (SqT.of upd_same) (.cons (.str _) (.cons (.str _) .nil)), shaped_two (strOk_mk hkc) (strOk_mk (tx_lt o)), by decide +kernel, ?_⟩
  have eqf : PyData.eqv (.tuple [.str (mkS kw), .str (mkS (txO o))]) (.tuple [.str ("plate" : Str), .str ("empty" : Str)]) = false := by
    simp only [PyData.eqv, PyData.eqvAll, Bool.and_true]
    rw [str_beq, str_beq, tl_mkS, tl_mkS, tl_plW, tl_empty]
    rcases pair_ne hne hfo with z | z
    · rw [decide_eq_false z, Bool.and_false]
    · rw [decide_eq_false z, Bool.false_and]
  rw [eqf]
  have s3 := (s1.trans s2).trans (u1.trans u2)
  generalize upd (upd H2 t1 (.tup [V.str (mkS kw), V.str (mkS (txO o))])) t2 (.tup [V.str ("plate" : Str), V.str ("empty" : Str)]) = H3 at s3 ⊢
  refine ⟨_, rfl, ln, 2, rfl, ?_⟩
  have hq3 := s3.seq hq
  refine ⟨_, rfl, q, _, rfl, .inl hq3, rfl, _, rfl, ln, 3, rfl, ?_⟩
  have hiw := int_word (w := mkS (iL i)) (by rw [tl_mkS]; exact num_iL _) (by rw [len_mkS]; omega)
  rw [tl_mkS, val_iL] at hiw
  refine ⟨_, rfl, _, rfl, q, _, 1, _, rfl, rfl, hq3, atI_nat (j := 1) rfl, _, _, rfl, hiw, by rw [len_mkS]; omega, _, rfl, mkS (txO o), o, rfl, tl_mkS _, hfo, fun v H4 s4 hv => ⟨(by show 3 ≤ sizeLine; decide), fun t ht => ?_⟩⟩
  have s5 := same_upd (o := .tup [V.str (mkS kw), V.int i, v]) ht
  exact k t v _ ((s3.trans s4).trans s5) (SqT.of upd_same) (dp_same (tp_same s5) _ _ hv)
theorem ok_rl {f fW fC fN fV fO : Addr} {fd dW dC dN dV' dO : FuncData} (F : Fun K "read_line" "read_line" sRl f fd) (DW : Df P w K mg base CX0 1 "word_at" ["words", "place"] (spWordAt K) fW dW) (DC : Df P w K mg base CX0 1 "check_word" ["holds", "line", "word"] spCw fC dC) (DN : Df P w K mg base CX0 4 "is_number_within" ["word", "low", "high"] spNin fN dN)
    (DV : Df P w K mg base CX0 4 "is_value_word" ["word"] spIvw fV dV') (DO : Df P w K mg base CX0 1 "value_of" ["word"] (spVo K) fO dO) (ml : mg "len" = none) (mi : mg "int" = none) : FnOk P w K mg base CX0 5 f fd ["line", "words", "low", "many", "kinds"] (spRl K) := by
  refine F.ok scRl (fun vs H Q E h => ?_) (fun cdv A outer s H vs Q E hr h => ?_)
  · obtain ⟨ln, low, many, i, q, kq, kw, o, ks, rfl, _⟩ := h
    rfl
  · obtain ⟨ln, low, many, i, q, kq, kw, o, ks, rfl, hq, hk, hmem, hkw, hfo, hfi, hlo, hhi, hne, k⟩ := h
    have nd := scRl.nd
    have h1 : Room 1 _ := hr.mono (by decide)
    have h4 : Room 4 _ := hr.mono (by decide)
    obtain ⟨tr, pr, qr⟩ := rl_rest (P := P) (w := w) (K := K) (mg := mg) (base := base) (f := f) (cdv := cdv) (A := A) (outer := outer) (s := s) (H0 := H) (E := E) DW DC DN DV DO ml mi hr
    refine ⟨_, pss_cons (ps_set (i := 5) nd rfl (.inl rfl) (pe_call DW.G h1 rfl DW.g DW.kp DW.b .nil pass0 (pa_cons (pv 1) (pa_cons pe_int pa_nil))))
      (pss_cons (ps_expr (pe_call DC.G h1 rfl DC.g DC.kp DC.b .nil pass0 (pa_cons (pe_cmpR op_in_seq (pv 5) (pv 4) (by rfl)) (pa_cons (pv 0) (pa_cons pe_int pa_nil)))))
      (pss_cons (ps_set (i := 6) nd rfl (.inl rfl) (pe_ifExp (pt_cmpR op_eq (pv 5) pe_str (nomark _)) (pv 2) pe_int)) pr)), ?_⟩
    have hin : inV (V.str (mkS kw)) (ks.map V.str) = true := by
      unfold inV
      rw [List.any_map]
      exact List.any_eq_true.mpr ⟨mkS kw, hmem, beq_self_eq_true (mkS kw)⟩
    have hkc : ∀ c ∈ kw, c < 128 := by
      rcases hkw with z | z
      · rw [z]; decide
      · rw [z]; decide
    refine ⟨_, rfl, q, [kw, iL i, txO o].map mkS, 0, rfl, hq, ?_⟩
    refine ⟨_, rfl, _, rfl, kq, _, rfl, .inr hk, rfl, ?_, ?_⟩
    · rw [List.all_map]
      exact List.all_eq_true.mpr fun _ _ => rfl
    refine ⟨_, rfl, ln, 0, ?_, ?_⟩
    · have h9 : V.bl (if false = true then !inV (V.str (mkS kw)) (ks.map V.str) else inV (V.str (mkS kw)) (ks.map V.str)) = V.bl true := by rw [if_neg (by decide), hin]
      show V.bl (if false = true then !inV (V.str (mkS kw)) (ks.map V.str) else inV (V.str (mkS kw)) (ks.map V.str)) :: _ = _
      rw [h9]
      rfl
    refine ⟨_, rfl, rfl, ?_⟩
    have h8 : decide (V.str (mkS kw) = V.str ("plate" : Str)) = decide (kw = plW) := by rw [str_eq, tl_mkS, tl_plW]
    refine ⟨_, rfl, ite2 (fun hc => ?_) (fun hc => ?_)⟩
    · have hc' : kw = plW := of_decide_eq_true (h8.symm.trans hc)
      rw [if_pos hc'] at hlo
      exact ⟨_, rfl, qr _ H ln low many i low q kq kw o hq hkc hfo hfi hlo hhi hne k⟩
    · have hc' : ¬ kw = plW := fun z => hc (h8.trans (decide_eq_true z))
      rw [if_neg hc'] at hlo
      exact qr _ H ln low many i 0 q kq kw o hq hkc hfo hfi hlo hhi hne k
end
end Pf

set_option Elab.async false
set_option linter.all false
set_option maxRecDepth 100000
set_option maxHeartbeats 4000000
namespace Pf
open PySem PySem.Spec PyProof.Rows L2 TL
/-- the plates that a disk's lines tell -/
def plQ (os : List Ov) (k : Nat) : List (Int × Ov) := ((List.range k).filter fun i => decide (os.getD i none ≠ some [])).map fun i => (((i : Nat) : Int), os.getD i none)
theorem plQ_K (os : List Ov) (k : Nat) : plK os k = (plQ os k).map fun q => lnP q.1 q.2 := by
  unfold plK plQ
  rw [List.map_map]
  rfl
theorem plQ_mem {os : List Ov} {k : Nat} {q : Int × Ov} (h : q ∈ plQ os k) : ∃ i < k, q = (((i : Nat) : Int), os.getD i none) ∧ os.getD i none ≠ some [] := by
  obtain ⟨i, hi, rfl⟩ := List.mem_map.mp h
  obtain ⟨h1, h2⟩ := List.mem_filter.mp hi
  exact ⟨i, List.mem_range.mp h1, rfl, of_decide_eq_true h2⟩
theorem plQ_more (os : List Ov) (k : Nat) : plQ os (k + 1) = plQ os k ++ (if os.getD k none ≠ some [] then [(((k : Nat) : Int), os.getD k none)] else []) := by
  unfold plQ
  rw [List.range_succ, List.filter_append, List.map_append]
  congr 1
  by_cases c : os.getD k none ≠ some []
  · rw [if_pos c, List.filter_cons, if_pos (decide_eq_true c)]
    rfl
  · rw [if_neg c, List.filter_cons, if_neg (by simpa using c)]
    rfl
theorem plQ_asc (os : List Ov) (k : Nat) : ((plQ os k).map (·.1)).Pairwise (· < ·) := by
  unfold plQ
  rw [List.map_map]
  refine List.pairwise_map.mpr ((List.Pairwise.sublist List.filter_sublist List.pairwise_lt_range).imp fun h => ?_)
  show ((_ : Nat) : Int) < ((_ : Nat) : Int)
  omega
theorem settleO_app (a b : List (Int × Ov)) (os : List Ov) : settleO os (a ++ b) = settleO (settleO os a) b := List.foldl_append
theorem settle_pl (os : List Ov) : settleO (List.replicate os.length (some [])) (plQ os os.length) = os := by
  have h : ∀ k ≤ os.length, ∀ p < os.length, (settleO (List.replicate os.length (some [])) (plQ os k))[p]? = some (if p < k then os.getD p none else some []) := by
    intro k
    induction k with
    | zero =>
      intro _ p hp
      show (List.replicate os.length (some []))[p]? = _
      rw [List.getElem?_replicate, if_pos hp, if_neg (Nat.not_lt_zero _)]
    | succ k ih =>
      intro hk p hp
      have ih' := ih (by omega) p hp
      rw [plQ_more, settleO_app]
      by_cases c : os.getD k none ≠ some []
      · rw [if_pos c]
        show ((settleO _ (plQ os k)).set (((k : Nat) : Int)).toNat (os.getD k none))[p]? = _
        rw [Int.toNat_natCast, List.getElem?_set]
        by_cases e : k = p
        · subst e
          rw [if_pos rfl, settleO_len, List.length_replicate, if_pos hp, if_pos (by omega)]
        · rw [if_neg e, ih']
          congr 1
          by_cases h1 : p < k
          · rw [if_pos h1, if_pos (by omega)]
          · rw [if_neg h1, if_neg (by omega)]
      · rw [if_neg c]
        show (settleO _ (plQ os k))[p]? = _
        rw [ih']
        congr 1
        by_cases h1 : p < k
        · rw [if_pos h1, if_pos (by omega)]
        · by_cases e : k = p
          · subst e
            rw [if_neg h1, if_pos (by omega)]
            exact (Decidable.byContradiction fun z => c fun y => z y.symm)
          · rw [if_neg h1, if_neg (by omega)]
  refine List.ext_getElem? fun p => ?_
  by_cases hp : p < os.length
  · rw [h _ (Nat.le_refl _) p hp, if_pos hp, List.getD_eq_getElem?_getD, List.getElem?_eq_getElem hp]
    rfl
  · rw [List.getElem?_eq_none (by rw [settleO_len, List.length_replicate]; omega), List.getElem?_eq_none (by omega)]
abbrev NRd : List Str := ["lines", "many", "disk", "loose", "low", "line", "kinds", "kind", "plate", "value"]
theorem scRd : FnScope NRd ["lines"] (defScope sRdk) := ⟨rfl, rfl, rfl, by decide +kernel, rfl, by decide +kernel, by decide +kernel⟩
abbrev stRd (j : Nat) : Stmt := (defBody sRdk).getD j (.Pass ⟨0, 0, 0, 0⟩)
abbrev XRd (P : Program) (w : World) (K : PySem.W.Frag) (mg : Str → Option Value) (base : Heap) (f : Addr) (cdv : Value) (A : Around) (outer : List Env) (s : Shared) (H0 : Hp) (E : XK) : Cx :=
  (cxOf CX0 P w K mg base NRd "read_disk" (defScope sRdk) f cdv A outer s H0 E).nox
def forBody : Stmt → List Stmt
  | .For _ _ b _ _ => b
  | _ => []
abbrev bRd (j : Nat) : Stmt := (forBody (stRd 4)).getD j (.Pass ⟨0, 0, 0, 0⟩)
/-- the loose ones in a list of pairs -/
def LqAt (K : PySem.W.Frag) (H : Hp) (L : Addr) (qs : List (Int × Ov)) : Prop := ∃ us, H L = some (.lst us) ∧ DpAll K (Tp H) us (qs.map fun q => .tuple [.int q.1, dV q.2])
structure MkO (P : Program) (w : World) (K : PySem.W.Frag) (mg : Str → Option Value) (base : Heap) (CD f : Addr) (fd : FuncData) : Prop where
  M : Mk K CD f
  G : FnOk P w K mg base CX0 1 f fd ["self", "many"] (spInO K CD)
  g : mg "Disk" = some (.ref CD)
  b : Binds K fd ["self", "many"] []
theorem ov_obj {K : PySem.W.Frag} {CD : Addr} {H : Hp} {d : Addr} {os : List Ov} {qs : List (Int × Ov)} (D : OvAt K CD H d os qs) : ∃ dx fs, H d = some (.ins CD dx fs) := by
  obtain ⟨sv, lv, ⟨dx, sa, la, ts, x1, _⟩, _⟩ := D
  exact ⟨_, _, x1⟩
section
variable {P : Program} {w : World} {K : PySem.W.Frag} {mg : Str → Option Value} {base : Heap} {CD : Addr} {f : Addr} {cdv : Value} {A : Around} {outer : List Env} {s : Shared} {H0 : Hp} {E : XK}
theorem rd_body {fR fW : Addr} {dR dW : FuncData} (T : DTxt K CD) (DR : Df P w K mg base CX0 5 "read_line" ["line", "words", "low", "many", "kinds"] (spRl K) fR dR) (MW : Me P w K mg base 3 CD "write" ["self", "plate", "value"] (spWrO K CD) fW dW) (hr : Room 5 (A.deeper (envOfC "read_disk" (defScope sRdk) s.heap.objs.size f cdv))) :
    ∃ t, PSs (XRd P w K mg base f cdv A outer s H0 E) [bRd 1, bRd 2] t ∧ ∀ (D : Ends) H (p d L kq : Addr) (n : Nat) (low : Int) (j : Nat) (lsx : List (List Nat)) (i : Int) (kw : List Nat) (o : Ov) (ks : List Str) (os : List Ov) (ps qs : List (Int × Ov)) (y7 y8 y9 : Option V), LT K H p (strV lsx) → lsx[j]? = some (kw ++ [32] ++ iL i ++ [32] ++ txO o) → SqT K H kq (ks.map V.str) → mkS kw ∈ ks → (kw = plW ∨ kw = loW) → OFew o → Few i →
      (if kw = plW then low else 0) ≤ i → i < ((n : Nat) : Int) → ¬ (kw = plW ∧ o = some []) → OvAt K CD H d os ps → os.length = n → 0 ≤ i → ps.length ≤ 1000 → LqAt K H L qs → qs.length ≤ 1000 →
      (kw = loW → ∀ y7 y8 y9 H', Fr [L] H H' → LqAt K H' L (qs ++ [(i, o)]) → D.nx [some (.ref p), some (.int ((n : Nat) : Int)), some (.ref d), some (.ref L), some (.int low), some (.int ((j : Nat) : Int)), some (.ref kq), y7, y8, y9] H') →
      (kw = plW → ∀ y7 y8 y9 H', Fr [d] H H' → OvAt K CD H' d os (ps ++ [(i, o)]) → D.nx [some (.ref p), some (.int ((n : Nat) : Int)), some (.ref d), some (.ref L), some (.int (i + 1)), some (.int ((j : Nat) : Int)), some (.ref kq), y7, y8, y9] H') →
      t D [some (.ref p), some (.int ((n : Nat) : Int)), some (.ref d), some (.ref L), some (.int low), some (.int ((j : Nat) : Int)), some (.ref kq), y7, y8, y9] H := by
  have nd := scRd.nd
  have h3 : Room 3 _ := hr.mono (by decide)
  refine ⟨_, pss_cons (ps_asg (pe_call DR.G hr rfl DR.g DR.kp DR.b .nil pass0 (pa_cons (pv 5) (pa_cons (pe_split (pe_ix ix_seq (pv 0) (pv 5) (fun _ _ => rfl)) pe_str) (pa_cons (pv 4) (pa_cons (pv 1) (pa_cons (pv 6) pa_nil))))))
      (pg_tup rfl (pgs_cons (pg_name (i := 7) nd rfl (.inl rfl)) (pgs_cons (pg_name (i := 8) nd rfl (.inl rfl)) (pgs_cons (pg_name (i := 9) nd rfl (.inl rfl)) pgs_nil)))))
    (pss_one (ps_if (pt_cmpR op_eq (pv 7) pe_str (nomark _)) (pss_one (ps_expr (pe_bm PySem.F.plainAttrs_list PySem.F.slot_list_append PySem.F.type_list_append mt_append (pv 3) (pa_cons (pe_tup (pa_cons (pv 8) (pa_cons (pv 9) pa_nil))) pa_nil))))
      (pss_cons (ps_expr (pe_meth (pv 2) T.cl MW.m MW.G h3 MW.b .nil pass0 (pa_cons (pv 8) (pa_cons (pv 9) pa_nil)))) (pss_one (ps_set (i := 4) nd rfl (.inl rfl) (pe_op op_add (pv 8) pe_int)))))),
    fun D H p d L kq n low j lsx i kw o ks os ps qs y7 y8 y9 hp hl hk hmem hkw hfo hfi hlo hhi hne Dk hol hi0 hpl Lq hql kl kp => ?_⟩
  have hfl := few_len hfi
  have htl := tx_len hfo
  have hkc : kw.length = 5 := by
    rcases hkw with z | z
    · rw [z]; rfl
    · rw [z]; rfl
  have hk32 : 32 ∉ kw := by
    rcases hkw with z | z
    · rw [z]; decide
    · rw [z]; decide
  refine ⟨_, rfl, _, rfl, _, rfl, LT.ix hp (atI_nat (j := j) (by unfold strV; rw [List.getElem?_map, hl]; rfl)) ⟨⟨_, rfl⟩, _, _, rfl, rfl, by decide +kernel, ?_, fun q hq => ?_⟩⟩
  · rw [len_mkS, sizeLine_eq]
    simp only [List.length_append, List.length_cons, List.length_nil]
    omega
  have hsp : Txt.split (mkS (kw ++ [32] ++ iL i ++ [32] ++ txO o)) (Str.ofString " ") = [kw, iL i, txO o].map mkS := split_ln hk32 i o
  rw [hsp]
  have s1 := same_upd (o := .lst (([kw, iL i, txO o].map mkS).map V.str)) hq
  have eq1 : (upd H q (.lst (([kw, iL i, txO o].map mkS).map V.str))) q = some (.lst (([kw, iL i, txO o].map mkS).map V.str)) := upd_same
  generalize upd H q (.lst (([kw, iL i, txO o].map mkS).map V.str)) = H1 at s1 eq1 ⊢
  refine ⟨_, rfl, _, rfl, _, rfl, ((j : Nat) : Int), low, ((n : Nat) : Int), i, q, kq, kw, o, ks, rfl, SqL.of eq1, same_seqT s1 hk, hmem, hkw, hfo, hfi, hlo, hhi, hne, fun t v H2 s2 ht hv => ?_⟩
  have s12 := s1.trans s2
  refine ⟨t, _, rfl, ht, rfl, _, _, rfl, _, _, rfl, _, _, rfl, rfl, ?_⟩
  have h8 : decide (V.str (mkS kw) = V.str ("loose" : Str)) = decide (kw = loW) := by rw [str_eq, tl_mkS, tl_loW]
  refine ⟨_, rfl, rfl, _, rfl, ite2 (fun hc => ?_) (fun hc => ?_)⟩
  · have hc' : kw = loW := of_decide_eq_true (h8.symm.trans hc)
    obtain ⟨us, eL, dL⟩ := id Lq
    have hul := dps_len dL
    rw [List.length_map] at hul
    refine ⟨_, rfl, .inl ⟨rfl, _, SqL.of (s12 _ _ eL)⟩, _, rfl, _, rfl, (by show 2 ≤ sizeLine; decide), fun b hb => ?_⟩
    have s3 := same_upd (o := .tup [V.int i, v]) hb
    have eL3 := s3 _ _ (s12 _ _ eL)
    have nbL : b ≠ L := fun z => by rw [z, s12 _ _ eL] at hb; cases hb
    refine ⟨L, us, _, rfl, rfl, eL3, by rw [sizeLine_eq]; omega, ?_⟩
    have s13 := s12.trans s3
    have fL : Fr [L] H (upd (upd H2 b (.tup [V.int i, v])) L (.lst (us ++ [V.ref b]))) := (Fr.of s13).trans (.put (by simp) fun u z => by rw [eL3] at z; cases z; rfl)
    refine kl hc' _ _ _ _ fL ⟨_, upd_same, ?_⟩
    rw [List.map_append]
    have tb : Same (Tp H2) (Tp (upd (upd H2 b (.tup [V.int i, v])) L (.lst (us ++ [V.ref b])))) := (tp_same s3).trans (tp_put fun o q => by rw [eL3] at q; cases q; rfl)
    exact dps_app (dps_same fL.tp _ _ dL) (.cons (.tup (SqT.of (tp_at (by rw [upd_ne nbL, upd_same]) rfl)) (.cons (.int _) (.cons (dp_same tb _ _ hv) .nil))) .nil)
  · have hc' : kw = plW := by
      rcases hkw with z | z
      · exact z
      · exact absurd (h8.trans (decide_eq_true z)) hc
    obtain ⟨sv, lv, ⟨dx, sa, la, ts, x1, _⟩, _⟩ := id Dk
    refine ⟨_, rfl, d, dx, _, rfl, s12 _ _ x1, fl_no _ _ _ (by decide +kernel) (by decide +kernel) (by decide +kernel), _, rfl, _, rfl, d, os, ps, i, v, o, rfl, Dk.same s12, hi0, by rw [hol]; exact hhi, hpl, hv, fun H3 f3 D3 => ?_⟩
    exact ⟨_, rfl, _, _, rfl, rfl, kp hc' _ _ _ H3 ((Fr.of s12).trans f3) D3⟩
def spRdk (K : PySem.W.Frag) (CD : Addr) : Sp := fun vs H Q _ => ∃ (p : Addr) (os : List Ov) (qs : List (Int × Ov)), vs = [.ref p] ∧ LT K H p (strV (allL os qs)) ∧ 1 ≤ os.length ∧ os.length ≤ 1000 ∧ qs.length ≤ 1000 ∧ (∀ o ∈ os, OFew o) ∧ (∀ q ∈ qs, OFew q.2 ∧ 0 ≤ q.1 ∧ q.1 < ((os.length : Nat) : Int)) ∧
  ∀ d H', Same H H' → H d = none → OvAt K CD H' d os qs → Q (.ref d) H'
theorem ks_plate : mkS plW = ("plate" : Str) := TL.ext_tl (by rw [tl_mkS, tl_plW])
theorem ks_loose : mkS loW = ("loose" : Str) := TL.ext_tl (by rw [tl_mkS, tl_loW])
end
section
variable {P : Program} {w : World} {K : PySem.W.Frag} {mg : Str → Option Value} {base : Heap} {CD : Addr}
theorem ok_rdk {f fM fI fR fW fB : Addr} {fd dM dI dR dW dB : FuncData} (F : Fun K "read_disk" "read_disk" sRdk f fd) (T : DTxt K CD) (DM : Df P w K mg base CX0 5 "read_many" ["lines"] (spRm K) fM dM) (MI : MkO P w K mg base CD fI dI) (DR : Df P w K mg base CX0 5 "read_line" ["line", "words", "low", "many", "kinds"] (spRl K) fR dR)
    (MW : Me P w K mg base 3 CD "write" ["self", "plate", "value"] (spWrO K CD) fW dW) (MB : Me P w K mg base 1 CD "barrier" ["self"] (spBrO K CD) fB dB) (ml : mg "len" = none) (mr : mg "range" = none) : FnOk P w K mg base CX0 6 f fd ["lines"] (spRdk K CD) := by
  refine F.ok scRd (fun vs H Q E h => ?_) (fun cdv A outer s H vs Q E hr h => ?_)
  · obtain ⟨p, os, qs, rfl, _⟩ := h
    rfl
  · obtain ⟨p, os, qs, rfl, hp, n1, n2, hql, ho, hq, k⟩ := h
    have nd := scRd.nd
    have h1 : Room 1 _ := hr.mono (by decide)
    have h2 : Room 2 _ := hr.mono (by decide)
    have h3 : Room 3 _ := hr.mono (by decide)
    obtain ⟨tb, pb, qb⟩ := rd_body (P := P) (w := w) (K := K) (mg := mg) (base := base) (f := f) (cdv := cdv) (A := A) (outer := outer) (s := s) (H0 := H) (E := E) T DR MW hr
    refine ⟨_, pss_cons (ps_set (i := 1) nd rfl (.inl rfl) (pe_call DM.G hr rfl DM.g DM.kp DM.b .nil pass0 (pa_cons (pv 0) pa_nil)))
      (pss_cons (ps_set (i := 2) nd rfl (.inl rfl) (pe_make MI.M MI.G h2 rfl MI.g MI.b .nil pass0 (pa_cons (pv 1) pa_nil)))
      (pss_cons (ps_set (i := 3) nd rfl (.inl rfl) (pe_lst pa_nil))
      (pss_cons (ps_set (i := 4) nd rfl (.inl rfl) pe_int)
      (pss_cons (ps_for PassesOwn.never rfl (pi_range2 (by rfl) mr (pa_cons pe_int (pa_cons (pe_callB call_len_seq (by rfl) ml boot_len (pa_cons (pv 0) pa_nil)) pa_nil))) (pg_name (i := 5) nd rfl (.inl rfl))
        (pss_cons (ps_set (i := 6) nd rfl (.inl rfl) (pe_ifExp (pt_cmpR op_eq (pe_callB call_len_seq (by rfl) ml boot_len (pa_cons (pv 3) pa_nil)) pe_int (nomark _)) (pe_tup (pa_cons pe_str (pa_cons pe_str pa_nil))) (pe_tup (pa_cons pe_str pa_nil)))) pb))
      (pss_cons (ps_expr (pe_meth0 (pv 2) T.cl MB.m MB.G h1 MB.b .nil pass0))
      (pss_cons (ps_for PassesOwn.never rfl (pi_list (pv 3)) (pg_tup rfl (pgs_cons (pg_name (i := 8) nd rfl (.inl rfl)) (pgs_cons (pg_name (i := 9) nd rfl (.inl rfl)) pgs_nil)))
        (pss_one (ps_expr (pe_meth (pv 2) T.cl MW.m MW.G h3 MW.b .nil pass0 (pa_cons (pv 8) (pa_cons (pv 9) pa_nil))))))
      (pss_one (ps_ret (pv 2))))))))), ?_⟩
    have eall : allL os qs = lnD ((os.length : Nat) : Int) :: ((plQ os os.length).map (fun q => lnP q.1 q.2) ++ qs.map fun q => lnL q.1 q.2) := by
      unfold allL
      rw [plQ_K, List.append_assoc]
      rfl
    rw [eall] at hp
    have hpll : (plQ os os.length).length ≤ os.length := by
      have := plK_len os os.length
      rw [plQ_K, List.length_map] at this
      exact this
    refine ⟨_, rfl, p, _, os.length, rfl, hp, n1, n2, fun H1 s1 => ?_⟩
    refine ⟨_, rfl, fun d dx hd hdx hne => ?_⟩
    have sd : Same H1 (upd (upd H1 dx (.own d)) d (.ins CD dx [])) := fun b o z => by
      rw [upd_ne (ne_of_none z hd), upd_ne (ne_of_none z hdx)]
      exact z
    refine ⟨d, dx, os.length, rfl, upd_same, n1, n2, fun H3 b3 Dk3 => ⟨rfl, ?_⟩⟩
    have s3 : Same H1 H3 := fun b o z => b3.at (sd _ _ z) (by simp only [List.mem_cons, List.not_mem_nil, or_false]; exact ne_of_none z hd)
    refine ⟨(by show 0 ≤ sizeLine; decide), fun L hL => ?_⟩
    have s4 := same_upd (o := .lst []) hL
    have s04 := (s1.trans s3).trans s4
    have hdH : H d = none := s1.free hd
    have hLH : H L = none := (s1.trans s3).free hL
    have eL0 : (upd H3 L (.lst [])) L = some (.lst []) := upd_same
    have Dk4 := Dk3.same s4
    generalize upd H3 L (.lst []) = H4 at s4 s04 eL0 Dk4 ⊢
    obtain ⟨dxx, fs0, ed4⟩ := ov_obj Dk4
    have hp4 := hp.same s04
    have hlen : (strV (lnD ((os.length : Nat) : Int) :: ((plQ os os.length).map (fun q => lnP q.1 q.2) ++ qs.map fun q => lnL q.1 q.2))).length = 1 + (plQ os os.length).length + qs.length := by
      rw [strV_len, List.length_cons, List.length_append, List.length_map, List.length_map]
      omega
    have LL0 : LqAt K H4 L (qs.take (0 - (plQ os os.length).length)) := by
      rw [Nat.zero_sub, List.take_zero]
      exact ⟨[], eL0, .nil⟩
    have Dk4' : OvAt K CD H4 d (List.replicate os.length (some [])) ((plQ os os.length).take 0) := Dk4
    have hplm := fun q hq => plQ_mem (os := os) (k := os.length) (q := q) hq
    have hasc := plQ_asc os os.length
    have hset := settle_pl os
    generalize plQ os os.length = pl at hset hp4 hp hlen LL0 Dk4' hplm hasc hpll eall
    have hrep : (List.replicate os.length (some []) : List Ov).length = os.length := List.length_replicate
    generalize hlv : strV (lnD ((os.length : Nat) : Int) :: (pl.map (fun q => lnP q.1 q.2) ++ qs.map fun q => lnL q.1 q.2)) = lv at hp4 hlen
    have hNL : (((lv.length : Nat) : Int) - 1).toNat = pl.length + qs.length := by omega
    refine ⟨_, rfl, p, lv, rfl, hp4, 1, _, rfl, ⟨by decide, by decide, by omega, by omega⟩, for_range (lo := 1) (n := (((lv.length : Nat) : Int) - 1).toNat) (fun j σ' Hx => ∃ (low : Int) (y5 y6 y7 y8 y9 : Option V), σ' = [some (.ref p), some (.int ((os.length : Nat) : Int)), some (.ref d), some (.ref L), some (.int low), y5, y6, y7, y8, y9] ∧ Same H Hx ∧ OvAt K CD Hx d (List.replicate os.length (some [])) (pl.take j) ∧ LqAt K Hx L (qs.take (j - pl.length)) ∧ ∀ x q, j ≤ x → pl[x]? = some q → low ≤ q.1)
      ⟨0, none, none, none, none, none, rfl, s04, Dk4', LL0, fun x q _ hx => ?_⟩ ?_ ?_⟩
    · obtain ⟨i, _, e, _⟩ := hplm q (List.mem_of_getElem? hx)
      rw [e]
      show (0 : Int) ≤ ((i : Nat) : Int)
      omega
    · rintro j σ' Hx hj ⟨low, y5, y6, y7, y8, y9, rfl, sx, Dx, Lx, hlow⟩
      rw [hNL] at hj
      obtain ⟨us, eL, dL⟩ := id Lx
      have hul := dps_len dL
      rw [List.length_map, List.length_take] at hul
      have hpx := hp.same sx
      have ej : (1 : Int) + ((j : Nat) : Int) = (((1 + j : Nat)) : Int) := by omega
      have body : ∀ (D' : Ends) (Hy : Hp) (kq : Addr) (ks : List Str), (∀ (low : Int) (y5 y6 y7 y8 y9 : Option V) (Hx : Hp), Same H Hx → OvAt K CD Hx d (List.replicate os.length (some [])) (pl.take (j + 1)) → LqAt K Hx L (qs.take (j + 1 - pl.length)) → (∀ x q, j + 1 ≤ x → pl[x]? = some q → low ≤ q.1) → D'.nx [some (.ref p), some (.int ((os.length : Nat) : Int)), some (.ref d), some (.ref L), some (.int low), y5, y6, y7, y8, y9] Hx) →
          Same Hx Hy → SqT K Hy kq (ks.map V.str) → (j < pl.length → mkS plW ∈ ks) → mkS loW ∈ ks →
          tb D' [some (.ref p), some (.int ((os.length : Nat) : Int)), some (.ref d), some (.ref L), some (.int low), some (.int (((1 + j : Nat)) : Int)), some (.ref kq), y7, y8, y9] Hy := by
        intro D' Hy kq ks kD sy hk hm1 hm2
        have sHy := sx.trans sy
        have hpy := hp.same sHy
        have Dy := Dx.same sy
        have Ly : LqAt K Hy L (qs.take (j - pl.length)) := ⟨us, sy _ _ eL, dps_same (tp_same sy) _ _ dL⟩
        have htk : (pl.take j).length ≤ 1000 := by rw [List.length_take]; omega
        have hqk : (qs.take (j - pl.length)).length ≤ 1000 := by rw [List.length_take]; omega
        by_cases c : j < pl.length
        · obtain ⟨q, hqj⟩ : ∃ q, pl[j]? = some q := ⟨_, List.getElem?_eq_getElem c⟩
          obtain ⟨i, hi, eq, hne⟩ := hplm q (List.mem_of_getElem? hqj)
          have hl : (lnD ((os.length : Nat) : Int) :: (pl.map (fun q => lnP q.1 q.2) ++ qs.map fun q => lnL q.1 q.2))[1 + j]? = some (plW ++ [32] ++ iL q.1 ++ [32] ++ txO q.2) := by
            rw [Nat.add_comm, List.getElem?_cons_succ, List.getElem?_append_left (by rw [List.length_map]; exact c), List.getElem?_map, hqj]
            rfl
          have hoq : os.getD i none ∈ os := by rw [List.getD_eq_getElem?_getD, List.getElem?_eq_getElem hi]; exact List.getElem_mem _
          rw [eq] at hqj hl
          refine qb D' Hy p d L kq os.length low (1 + j) _ ((i : Nat) : Int) plW (os.getD i none) ks (List.replicate os.length (some [])) (pl.take j) (qs.take (j - pl.length)) y7 y8 y9 hpy hl hk (hm1 c) (.inl rfl) (ho _ hoq) (few_nat (by omega)) (by rw [if_pos rfl]; exact hlow j _ (Nat.le_refl _) hqj) (by omega) (fun z => hne z.2) Dy hrep (by omega) htk Ly hqk (fun z => absurd z (by decide)) (fun _ y7 y8 y9 H' f' D2 => ?_)
          have sH' : Same H H' := fun b o z => (((Fr.of (cs := [d]) sHy).trans f').drop (cs := []) fun c hc => .inr (by rw [List.mem_singleton.mp hc]; exact hdH)) b o z (.inl (by simp))
          obtain ⟨dxy, fsy, edy⟩ := ov_obj Dy
          have nLd : L ≠ d := fun z => by rw [z] at eL; rw [sy _ _ eL] at edy; cases edy
          refine kD _ _ _ _ _ _ H' sH' ?_ ?_ fun x q' hx hq' => ?_
          · rw [List.take_add_one, hqj]
            exact D2
          · have e0 : j + 1 - pl.length = j - pl.length := by omega
            rw [e0]
            exact ⟨us, f'.at (sy _ _ eL) (by simp [nLd]), dps_same f'.tp _ _ (dps_same (tp_same sy) _ _ dL)⟩
          · have h9 := List.pairwise_iff_getElem.mp hasc j x (by rw [List.length_map]; exact c) (by rw [List.length_map]; exact (List.getElem?_eq_some_iff.mp hq').1) (by omega)
            rw [List.getElem_map, List.getElem_map] at h9
            have e1 : pl[j].1 = ((i : Nat) : Int) := by
              have := (List.getElem?_eq_some_iff.mp hqj).2
              rw [this]
            have e2 : pl[x]'((List.getElem?_eq_some_iff.mp hq').1) = q' := (List.getElem?_eq_some_iff.mp hq').2
            rw [e1, e2] at h9
            omega
        · obtain ⟨q, hqj⟩ : ∃ q, qs[j - pl.length]? = some q := ⟨_, List.getElem?_eq_getElem (by omega)⟩
          have hqm := hq q (List.mem_of_getElem? hqj)
          have hl : (lnD ((os.length : Nat) : Int) :: (pl.map (fun q => lnP q.1 q.2) ++ qs.map fun q => lnL q.1 q.2))[1 + j]? = some (loW ++ [32] ++ iL q.1 ++ [32] ++ txO q.2) := by
            rw [Nat.add_comm, List.getElem?_cons_succ, List.getElem?_append_right (by rw [List.length_map]; omega), List.length_map, List.getElem?_map, hqj]
            rfl
          have hfq : Few q.1 := by
            have e : q.1 = ((q.1.toNat : Nat) : Int) := (Int.toNat_of_nonneg hqm.2.1).symm
            rw [e]
            exact few_nat (by omega)
          refine qb D' Hy p d L kq os.length low (1 + j) _ q.1 loW q.2 ks (List.replicate os.length (some [])) (pl.take j) (qs.take (j - pl.length)) y7 y8 y9 hpy hl hk hm2 (.inr rfl) hqm.1 hfq (by rw [if_neg (by decide)]; exact hqm.2.1) hqm.2.2 (fun z => absurd z.1 (by decide)) Dy hrep hqm.2.1 htk Ly hqk (fun _ y7 y8 y9 H' f' L2 => ?_) (fun z => absurd z (by decide))
          have sH' : Same H H' := fun b o z => (((Fr.of (cs := [L]) sHy).trans f').drop (cs := []) fun c hc => .inr (by rw [List.mem_singleton.mp hc]; exact hLH)) b o z (.inl (by simp))
          obtain ⟨dxy, fsy, edy⟩ := ov_obj Dy
          have ndL : d ≠ L := fun z => by rw [← z] at eL; rw [sy _ _ eL] at edy; cases edy
          refine kD _ _ _ _ _ _ H' sH' ?_ ?_ fun x q' hx hq' => ?_
          · rw [List.take_of_length_le (by omega)]
            rw [List.take_of_length_le (by omega)] at Dy
            exact Dy.fr f' (by simp [ndL])
          · have e0 : j + 1 - pl.length = (j - pl.length) + 1 := by omega
            rw [e0, List.take_add_one, hqj]
            exact L2
          · have := (List.getElem?_eq_some_iff.mp hq').1
            omega
      rw [ej]
      refine ⟨_, rfl, L, us, rfl, .inl (SqL.of eL), rfl, _, rfl, ite2 (fun hc => ?_) (fun hc => ?_)⟩
      · refine ⟨(by show 2 ≤ sizeLine; decide), fun kq hkq => ?_⟩
        have sk := same_upd (o := .tup [V.str ("plate" : Str), V.str ("loose" : Str)]) hkq
        exact body _ _ kq [("plate" : Str), ("loose" : Str)] (fun low y5 y6 y7 y8 y9 Hz h1 h2 h3 h4 => ⟨low, y5, y6, y7, y8, y9, rfl, h1, h2, h3, h4⟩) sk (SqT.of upd_same) (fun _ => by rw [ks_plate]; exact List.mem_cons_self) (by rw [ks_loose]; exact List.mem_cons_of_mem _ List.mem_cons_self)
      · refine ⟨(by show 1 ≤ sizeLine; decide), fun kq hkq => ?_⟩
        have sk := same_upd (o := .tup [V.str ("loose" : Str)]) hkq
        refine body _ _ kq [("loose" : Str)] (fun low y5 y6 y7 y8 y9 Hz h1 h2 h3 h4 => ⟨low, y5, y6, y7, y8, y9, rfl, h1, h2, h3, h4⟩) sk (SqT.of upd_same) (fun hj9 => absurd (decide_eq_true ?_) hc) (by rw [ks_loose]; exact List.mem_cons_self)
        have : us.length = 0 := by omega
        rw [this]
        rfl
    · rintro σ' Hx ⟨low, y5, y6, y7, y8, y9, rfl, sx, Dx, Lx, _⟩
      rw [hNL] at Dx Lx
      rw [List.take_of_length_le (by omega)] at Dx
      rw [List.take_of_length_le (by omega)] at Lx
      obtain ⟨sv, lv2, ⟨dx2, sa, la, ts, x1, _⟩, _⟩ := id Dx
      obtain ⟨us, eL, dL⟩ := id Lx
      refine ⟨_, rfl, d, dx2, _, rfl, x1, fl_no _ _ _ (by decide +kernel) (by decide +kernel) (by decide +kernel), d, _, pl, rfl, Dx, fun q hq9 => ?_, by rw [hrep]; exact n2, fun H5 f5 D5 => ?_⟩
      · obtain ⟨i, hi, e, _⟩ := hplm q hq9
        rw [e, hrep]
        show (0 : Int) ≤ ((i : Nat) : Int) ∧ ((i : Nat) : Int) < _
        omega
      rw [hset] at D5
      have nLd : L ≠ d := fun z => by rw [z, x1] at eL; cases eL
      have eL5 := f5.at eL (by simp [nLd])
      have dL5 := dps_same f5.tp _ _ dL
      have hul := dps_len dL
      rw [List.length_map] at hul
      have s5 : Same H H5 := fun b o z => (((Fr.of (cs := [d]) sx).trans f5).drop (cs := []) fun c hc => .inr (by rw [List.mem_singleton.mp hc]; exact hdH)) b o z (.inl (by simp))
      refine ⟨_, rfl, L, rfl, ⟨us, SqL.of eL5⟩, for_list (K := K) (a := L) (xs := us) (fun i σ' Hz => ∃ (y8 y9 : Option V), σ' = [some (.ref p), some (.int ((os.length : Nat) : Int)), some (.ref d), some (.ref L), some (.int low), y5, y6, y7, y8, y9] ∧ Same H Hz ∧ Fr [d] H5 Hz ∧ OvAt K CD Hz d os (qs.take i))
        ⟨_, _, rfl, s5, .of (Same.refl _), D5⟩ (fun i σ' Hz _ z => by obtain ⟨_, _, _, _, z, _⟩ := z; exact SqL.of (z.at eL5 (by simp [nLd]))) ?_ ?_⟩
      · rintro i x σ' Hz hi ⟨y8, y9, rfl, sz, fz, Dz⟩
        obtain ⟨e, he, hd9⟩ := dps_get dL5 hi
        rw [List.getElem?_map] at he
        cases hqi : qs[i]? with
        | none => rw [hqi] at he; cases he
        | some q =>
        rw [hqi] at he
        cases (Option.some.inj he)
        have hqm := hq q (List.mem_of_getElem? hqi)
        cases hd9 with
        | @tup b xs _ hb hxs =>
        cases hxs with
        | cons h1 h2 =>
        cases h1 with
        | int =>
        cases h2 with
        | @cons v9 _ _ _ h3 h4 =>
        cases h4
        have hbz := same_seqT (tp_le) (same_seqT fz.tp hb)
        obtain ⟨sv9, lv9, ⟨dx9, sa9, la9, ts9, x9, _⟩, _⟩ := id Dz
        refine ⟨b, _, rfl, hbz, rfl, _, _, rfl, _, _, rfl, rfl, _, rfl, d, dx9, _, rfl, x9, fl_no _ _ _ (by decide +kernel) (by decide +kernel) (by decide +kernel), _, rfl, _, rfl, d, os, qs.take i, q.1, v9, q.2, rfl, Dz, hqm.2.1, hqm.2.2, by rw [List.length_take]; omega, dp_same fz.tp _ _ h3, fun H7 f7 D7 => ?_⟩
        refine ⟨_, _, rfl, fun b o z => (((Fr.of (cs := [d]) sz).trans f7).drop (cs := []) fun c hc => .inr (by rw [List.mem_singleton.mp hc]; exact hdH)) b o z (.inl (by simp)), fz.trans f7, ?_⟩
        rw [List.take_add_one, hqi]
        exact D7
      · rintro σ' Hz ⟨y8, y9, rfl, sz, fz, Dz⟩
        rw [hul, List.take_length] at Dz
        exact ⟨_, rfl, k d Hz sz hdH Dz⟩
end
end Pf

set_option Elab.async false
set_option linter.all false
set_option maxRecDepth 100000
set_option maxHeartbeats 4000000
namespace Pf
open PySem PySem.Spec PyProof.Rows L2 TL
section
variable {P : Program} {w : World} {K : PySem.W.Frag} {mg : Str → Option Value} {base : Heap} {CD : Addr}
theorem scLDisk : FnScope ["draw", "disk", "turn", "value"] ["draw"] (defScope sLDisk) := ⟨rfl, rfl, rfl, by decide +kernel, rfl, by decide +kernel, by decide +kernel⟩

def spLDisk (K : PySem.W.Frag) (CD : Addr) : Sp := fun vs H Q _ => ∃ (a sc : Addr) (ss : List Int), vs = [.ref a] ∧ DrawAt K H a sc ss ∧
  ∀ d os qs H', But [a] H H' → DrawAt K H' a sc ss → H d = none → OvAt K CD H' d os qs → 1 ≤ os.length → os.length ≤ 6 → qs.length ≤ 8 → (∀ o ∈ os, OFew o) → (∀ q ∈ qs, OFew q.2 ∧ 0 ≤ q.1 ∧ q.1 < ((os.length : Nat) : Int)) → Q (.ref d) H'
theorem settleO_few : ∀ {qs : List (Int × Ov)} {os : List Ov}, (∀ o ∈ os, OFew o) → (∀ q ∈ qs, OFew q.2) → ∀ o ∈ settleO os qs, OFew o
  | [], _, h, _ => h
  | q :: qs, os, h, h2 => settleO_few (qs := qs) (os := os.set q.1.toNat q.2) (fun o ho => by
      rcases List.mem_or_eq_of_mem_set ho with z | z
      · exact h o z
      · rw [z]; exact h2 q List.mem_cons_self) fun q hq => h2 q (List.mem_cons_of_mem _ hq)
theorem but_fr {H H' H'' : Hp} {a d : Addr} (b : But [a] H H') (hd : H d = none) (f : Fr [d] H' H'') (sub : ∀ o, H' d = some o → True := fun _ _ => trivial) : But [a] H H'' := fun c o q => by
  have h1 := b c o q
  have hc : c ∉ [a] := fun z => by rw [off_in z] at q; cases q
  rw [off_out hc] at q
  exact f c o h1 (.inl (by simp only [List.mem_cons, List.not_mem_nil, or_false]; exact ne_of_none q hd))
theorem ok_ldisk {f fP fT fI fW fB : Addr} {fd dP dT dI dW dB : FuncData} (F : Fun K "_law_disk" "_law_disk" sLDisk f fd) (T : DTxt K CD) (DP : Df P w K mg base CX0 3 "_law_pick" ["draw", "items"] (spPick K) fP dP) (DT : Df P w K mg base CX0 2 "_law_take" ["draw", "many"] (spTake K) fT dT) (MI : MkO P w K mg base CD fI dI)
    (MW : Me P w K mg base 3 CD "write" ["self", "plate", "value"] (spWrO K CD) fW dW) (MB : Me P w K mg base 1 CD "barrier" ["self"] (spBrO K CD) fB dB) (ml : mg "len" = none) (mr : mg "range" = none) : FnOk P w K mg base CX0 4 f fd ["draw"] (spLDisk K CD) := by
  refine F.ok scLDisk (fun vs H Q E h => ?_) (fun cdv A outer s H vs Q E hr h => ?_)
  · obtain ⟨a, sc, ss, rfl, _⟩ := h
    rfl
  · obtain ⟨a, sc, ss, rfl, D0, k⟩ := h
    have nd := scLDisk.nd
    have h1 : Room 1 _ := hr.mono (by decide)
    have h2 : Room 2 _ := hr.mono (by decide)
    refine ⟨_, pss_cons (ps_set (i := 1) nd rfl (.inl rfl) (pe_make MI.M MI.G h2 rfl MI.g MI.b .nil pass0 (pa_cons (pe_call DP.G hr rfl DP.g DP.kp DP.b .nil pass0 (pa_cons (pv 0) (pa_cons (pe_lst (pa_cons pe_int (pa_cons pe_int (pa_cons pe_int pa_nil)))) pa_nil))) pa_nil)))
      (pss_cons (ps_for PassesOwn.never rfl (pi_range1 (by rfl) mr (pa_cons (pe_call DT.G h2 rfl DT.g DT.kp DT.b .nil pass0 (pa_cons (pv 0) (pa_cons pe_int pa_nil))) pa_nil)) (pg_name (i := 2) nd rfl (.inl rfl))
        (pss_one (ps_if (pt_cmpR op_eq (pe_call DT.G h2 rfl DT.g DT.kp DT.b .nil pass0 (pa_cons (pv 0) (pa_cons pe_int pa_nil))) pe_int (nomark _)) (pss_one (ps_expr (pe_meth0 (pv 1) T.cl MB.m MB.G h1 MB.b .nil pass0)))
          (pss_cons (ps_set (i := 3) nd rfl (.inl rfl) (pe_call DP.G hr rfl DP.g DP.kp DP.b .nil pass0 (pa_cons (pv 0) (pa_cons (pe_lst (pa_cons pe_non (pa_cons (pe_tup pa_nil) (pa_cons (pe_tup (pa_cons pe_int pa_nil)) (pa_cons (pe_tup (pa_cons pe_int (pa_cons (pe_un un_neg pe_int) (pa_cons (pe_op op_pow pe_int pe_int) pa_nil)))) (pa_cons (pe_op op_repT (pe_tup (pa_cons pe_int pa_nil)) pe_int) (pa_cons (pe_tup (pa_cons (pe_un un_neg pe_int) pa_nil)) pa_nil))))))) pa_nil))))
          (pss_one (ps_expr (pe_meth (pv 1) T.cl MW.m MW.G hr MW.b .nil pass0 (pa_cons (pe_call DT.G h2 rfl DT.g DT.kp DT.b .nil pass0 (pa_cons (pv 0) (pa_cons (pe_callB call_len_seq (by rfl) ml boot_len (pa_cons (pe_fld (pv 1) rfl) pa_nil)) pa_nil))) (pa_cons (pv 3) pa_nil)))))))))
      (pss_one (ps_ret (pv 1)))), ?_⟩
    refine ⟨_, rfl, (by show 3 ≤ sizeLine; decide), fun q1 hq1 => ?_⟩
    have t1 := same_upd (o := .lst [V.int 1, V.int 3, V.int 6]) hq1
    refine ⟨a, q1, sc, ss, [.int 1, .int 3, .int 6], rfl, D0.same t1, upd_same, D0.ne hq1, by simp, fun v H1 hv b1 D1 => ?_⟩
    obtain ⟨n, rfl, hn1, hn6⟩ : ∃ n : Nat, v = .int ((n : Nat) : Int) ∧ 1 ≤ n ∧ n ≤ 6 := by
      simp only [List.mem_cons, List.not_mem_nil, or_false] at hv
      rcases hv with rfl | rfl | rfl
      · exact ⟨1, rfl, by decide, by decide⟩
      · exact ⟨3, rfl, by decide, by decide⟩
      · exact ⟨6, rfl, by decide, by decide⟩
    have b01 : But [a] H H1 := but_trans (.of t1) b1
    refine fun d dx hd hdx hne => ?_
    have sd : Same H1 (upd (upd H1 dx (.own d)) d (.ins CD dx [])) := fun b o z => by
      rw [upd_ne (ne_of_none z hd), upd_ne (ne_of_none z hdx)]
      exact z
    refine ⟨d, dx, n, rfl, upd_same, hn1, by omega, fun H3 b3 Dk3 => ⟨rfl, ?_⟩⟩
    have s3 : Same H1 H3 := fun b o z => b3.at (sd _ _ z) (by simp only [List.mem_cons, List.not_mem_nil, or_false]; exact ne_of_none z hd)
    have b03 : But [a] H H3 := but_same b01 s3
    have D3 := D1.same s3
    have hda1 : d ≠ a := D1.ne hd
    have hdH : H d = none := by
      cases e : H d with
      | none => rfl
      | some o =>
        have := b01.at e (by simp [hda1])
        rw [hd] at this
        cases this
    refine ⟨_, rfl, a, sc, ss, 8, rfl, D3, by decide, fun N H4 N0 N8 b4 D4 => ?_⟩
    have Dk4 := Dk3.fr (D3.frb b4) (by simp [hda1])
    refine ⟨_, rfl, by omega, by omega, for_range (lo := 0) (n := N.toNat) (fun i σ' Hx => ∃ (y2 y3 : Option V) (os : List Ov) (qs : List (Int × Ov)), σ' = [some (.ref a), some (.ref d), y2, y3] ∧ But [a] H Hx ∧ DrawAt K Hx a sc ss ∧ OvAt K CD Hx d os qs ∧ os.length = n ∧ qs.length ≤ i ∧ (∀ o ∈ os, OFew o) ∧ ∀ q ∈ qs, OFew q.2 ∧ 0 ≤ q.1 ∧ q.1 < ((n : Nat) : Int))
      ⟨_, _, _, _, rfl, but_trans b03 b4, D4, Dk4, List.length_replicate, Nat.le_refl _, fun o ho => (by rw [List.eq_of_mem_replicate ho]; exact ⟨by decide, fun _ z => by cases z⟩), fun _ z => by cases z⟩ ?_ ?_⟩
    · rintro i σ' Hx hi ⟨y2, y3, os, qs, rfl, bx, Dx, Ox, hol, hql, ho, hq⟩
      have hi8 : i < 8 := by omega
      refine ⟨_, rfl, a, sc, ss, 4, rfl, Dx, by decide, fun r1 Ha r10 r11 ba Da => ?_⟩
      have bxa := but_trans bx ba
      have Oa := Ox.fr (Dx.frb ba) (by simp [hda1])
      obtain ⟨sv, lv, ⟨dxx, sa, la, ts, x1, x2, x3, x4, x5, x6⟩, D2, D3'⟩ := id Oa
      refine ⟨rfl, _, rfl, ite2 (fun _ => ?_) (fun _ => ?_)⟩
      · refine ⟨_, rfl, d, dxx, _, rfl, x1, fl_no _ _ _ (by decide +kernel) (by decide +kernel) (by decide +kernel), d, os, qs, rfl, Oa, fun q hq9 => by rw [hol]; exact (hq q hq9).2, by omega, fun H5 f5 D5 => ?_⟩
        exact ⟨_, _, _, _, rfl, but_fr bxa hdH f5, Da.fr f5 (by simp [hda1.symm]) (fun c hc => by rw [List.mem_singleton.mp hc]; exact .inl ⟨_, _, _, x1⟩), D5, by rw [settleO_len]; exact hol, Nat.zero_le _, settleO_few ho fun q hq9 => (hq q hq9).1, fun _ z => by cases z⟩
      · have val : ∀ (t : Addr) (ns : List Int) (Hz : Hp), SqT K Hz t (ns.map V.int) → ns.length ≤ 100 → (∀ n ∈ ns, Few n) → ∃ o, Dp K (Tp Hz) (.ref t) (dV o) ∧ OFew o := fun t ns Hz ht hl hf => ⟨some ns, .tup (sqt_tp ht) (dps_ints _), hl, hf⟩
        refine ⟨_, rfl, (by show 0 ≤ sizeLine; decide), fun t0 h0 => ?_⟩
        have u0 := same_upd (o := .tup []) h0
        have e0 : SqT K (upd Ha t0 (.tup [])) t0 (([] : List Int).map V.int) := SqT.of upd_same
        generalize upd Ha t0 (.tup []) = G0 at u0 e0 ⊢
        refine ⟨(by show 1 ≤ sizeLine; decide), fun t1 h1 => ?_⟩
        have u1 := same_upd (o := .tup [V.int 0]) h1
        have e1 : SqT K (upd G0 t1 (.tup [V.int 0])) t1 (([0] : List Int).map V.int) := SqT.of upd_same
        generalize upd G0 t1 (.tup [V.int 0]) = G1 at u1 e1 ⊢
        refine ⟨_, rfl, _, _, rfl, rfl, ⟨by decide, by decide, by decide⟩, (by show 3 ≤ sizeLine; decide), fun t2 h2 => ?_⟩
        have u2 := same_upd (o := .tup [V.int 1, V.int (-2), V.int (10 ^ (25 : Int).toNat)]) h2
        have e2 : SqT K (upd G1 t2 (.tup [V.int 1, V.int (-2), V.int (10 ^ (25 : Int).toNat)])) t2 (([1, -2, 10 ^ 25] : List Int).map V.int) := SqT.of upd_same
        generalize upd G1 t2 (.tup [V.int 1, V.int (-2), V.int (10 ^ (25 : Int).toNat)]) = G2 at u2 e2 ⊢
        refine ⟨(by show 1 ≤ sizeLine; decide), fun t3 h3 => ?_⟩
        have u3 := same_upd (o := .tup [V.int 5]) h3
        have e3 : (upd G2 t3 (.tup [V.int 5])) t3 = some (.tup [V.int 5]) := upd_same
        generalize upd G2 t3 (.tup [V.int 5]) = G3 at u3 e3 ⊢
        refine ⟨t3, 12, [.int 5], rfl, rfl, SqT.of e3, by simp, by decide, by decide, (by show 1 ≤ 1000; decide), fun t4 h4 => ?_⟩
        have u4 := same_upd (o := .tup (List.replicate (12 : Int).toNat [V.int 5]).flatten) h4
        have e4 : SqT K (upd G3 t4 (.tup (List.replicate (12 : Int).toNat [V.int 5]).flatten)) t4 ((List.replicate 12 (5 : Int)).map V.int) := SqT.of upd_same
        generalize upd G3 t4 (.tup (List.replicate (12 : Int).toNat [V.int 5]).flatten) = G4 at u4 e4 ⊢
        refine ⟨_, rfl, (by show 1 ≤ sizeLine; decide), fun t5 h5 => ?_⟩
        have u5 := same_upd (o := .tup [V.int (-1)]) h5
        have e5 : SqT K (upd G4 t5 (.tup [V.int (-1)])) t5 (([-1] : List Int).map V.int) := SqT.of upd_same
        generalize upd G4 t5 (.tup [V.int (-1)]) = G5 at u5 e5 ⊢
        refine ⟨(by show 6 ≤ sizeLine; decide), fun ql hql2 => ?_⟩
        have u6 := same_upd (o := .lst [V.non, .ref t0, .ref t1, .ref t2, .ref t4, .ref t5]) hql2
        have u05 := ((((u0.trans u1).trans u2).trans u3).trans u4).trans u5
        have u06 := u05.trans u6
        have D5' := Da.same u05
        refine ⟨a, ql, sc, ss, [V.non, .ref t0, .ref t1, .ref t2, .ref t4, .ref t5], rfl, Da.same u06, upd_same, D5'.ne hql2, by simp, fun v Hb hv bb Db => ?_⟩
        have fb := (Da.same u06).frb bb
        have hvd : ∃ o, Dp K (Tp Hb) v (dV o) ∧ OFew o := by
          have tr : ∀ {t : Addr} {ns : List Int} {Hz : Hp}, SqT K Hz t (ns.map V.int) → Same Hz (upd G5 ql (.lst [V.non, .ref t0, .ref t1, .ref t2, .ref t4, .ref t5])) → SqT K Hb t (ns.map V.int) := fun {t ns Hz} h s => same_seqT (fb.tp.trans tp_le) (sqt_tp (same_seqT s h))
          simp only [List.mem_cons, List.not_mem_nil, or_false] at hv
          rcases hv with rfl | rfl | rfl | rfl | rfl | rfl
          · exact ⟨none, .non, trivial⟩
          · exact val t0 [] Hb (tr e0 (((((u1.trans u2).trans u3).trans u4).trans u5).trans u6)) (by decide) (fun _ z => by cases z)
          · exact val t1 [0] Hb (tr e1 ((((u2.trans u3).trans u4).trans u5).trans u6)) (by decide) (fun n hn => by rw [List.mem_singleton.mp hn]; show (0 : Nat) < 10 ^ 30; decide)
          · refine val t2 [1, -2, 10 ^ 25] Hb (tr e2 (((u3.trans u4).trans u5).trans u6)) (by decide) (fun n hn => ?_)
            simp only [List.mem_cons, List.not_mem_nil, or_false] at hn
            rcases hn with rfl | rfl | rfl
            · show (1 : Nat) < 10 ^ 30; decide
            · show (2 : Nat) < 10 ^ 30; decide
            · show (10 ^ 25 : Int).natAbs < 10 ^ 30; decide
          · refine val t4 (List.replicate 12 5) Hb (tr e4 (u5.trans u6)) (by decide) (fun n hn => ?_)
            rw [List.eq_of_mem_replicate hn]
            show (5 : Nat) < 10 ^ 30
            decide
          · exact val t5 [-1] Hb (tr e5 u6) (by decide) (fun n hn => by rw [List.mem_singleton.mp hn]; show (1 : Nat) < 10 ^ 30; decide)
        obtain ⟨o, hdo, hfo⟩ := hvd
        have fab : Fr [a] Ha Hb := (Fr.of u06).trans fb
        have Ob := Oa.fr fab (by simp [hda1])
        have bxb : But [a] H Hb := but_trans bxa (but_trans (.of u06) bb)
        obtain ⟨sv', lv', ⟨dxx', sa', la', ts', y1, y2', y3', y4', y5', y6'⟩, E2, E3⟩ := id Ob
        have hsl := dps_len E2
        rw [List.length_map] at hsl
        refine ⟨_, rfl, d, dxx', _, rfl, y1, fl_no _ _ _ (by decide +kernel) (by decide +kernel) (by decide +kernel), _, rfl, _, rfl, d, CD, dxx', _, _, rfl, y1, T.cl, T.nS, fl_settled _ _ _, sa', sv', rfl, .inr (SqT.of y2'), a, sc, ss, _, rfl, Db, by omega, fun r2 Hc r20 r21 bc Dc => ?_⟩
        have Oc := Ob.fr (Db.frb bc) (by simp [hda1])
        refine ⟨_, rfl, d, os, qs, r2, v, o, rfl, Oc, r20, by omega, by omega, dp_same (Db.frb bc).tp _ _ hdo, fun H5 f5 D5 => ?_⟩
        obtain ⟨dxc, fsc, edc⟩ := ov_obj Oc
        exact ⟨_, _, _, _, rfl, but_fr (but_trans bxb bc) hdH f5, Dc.fr f5 (by simp [hda1.symm]) (fun c hc => by rw [List.mem_singleton.mp hc]; exact .inl ⟨_, _, _, edc⟩), D5, hol, by rw [List.length_append]; show qs.length + 1 ≤ _; omega, ho, fun q hq9 => by
          rcases List.mem_append.mp hq9 with z | z
          · exact hq q z
          · rw [List.mem_singleton.mp z]
            exact ⟨hfo, r20, by show r2 < _; omega⟩⟩
    · rintro σ' Hx ⟨y2, y3, os, qs, rfl, bx, Dx, Ox, hol, hql, ho, hq⟩
      exact ⟨_, rfl, k d os qs Hx bx Dx hdH Ox (by omega) (by omega) (by omega) ho fun q hq9 => by rw [hol]; exact hq q hq9⟩
end
end Pf

set_option Elab.async false
set_option linter.all false
set_option maxRecDepth 100000
set_option maxHeartbeats 4000000
namespace L2
open PySem PySem.Spec PyProof.Rows
section
variable {X : Cx} {CX : CXT} {k : Nat} {f C : Addr} {fd : FuncData} {ps : List Str} {sp : Sp} {E : St → XK} {m : Str} {pos apos : Pos} {e o : Expr} {es : List Expr} {ta : TE} {t : TA}
/-- a method that may raise, the wish told by the slots -/
theorem pe_methX {pl : Sem Bool} (he : PE X o ta) (c : Cls X.K C) (hm : Meth X.K C m f) (F : FnOk X.prog X.w X.K X.mg X.base CX k f fd ps sp) (hr : Room k X.A) (hb : Binds X.K fd ps []) (hx : ∀ σ, PassesAt CX X σ (E σ)) (ha : PA X (e :: es) t)
    (hs : starEach (e :: es) X.env = (false, eval e X.env) :: starEach es X.env := by rfl) (hp : (backTo pos (starEach es X.env)).any (·.1) = false := by rfl)
    (ht : eval (.Call (.Attribute o m apos) (e :: es) [] pos) X.env = (do let ov ← eval o X.env; standAt apos.atName; let (f, first) ← holding [ov] (getMethod ov m pl); callWith pos f first (backTo pos (starEach (e :: es) X.env)) (backToKw pos (keywordEach [] X.env))) := by rfl) :
    PE X (.Call (.Attribute o m apos) (e :: es) [] pos) (L2H.tMethH C m sp E ta t) := ⟨fun pins s σ H Q I h => PySem.W.methodCall_KW (pl := pl) (thn (he.run pins s σ H _ I h) fun u s1 ⟨x, H1, I1, rx, a, dx, fs, ex, ea, l, q⟩ => by
      subst ex
      cases (show u = Value.ref a from rx)
      refine getmeth_ok I1 ea c hm l (PySem.W.callWith_K (first := [.ref a]) (h₀ := X.base) I.ok.mod.kin hm.kp (thn (ha.run pos pins s1 σ H1 _ I1 q) fun us s2 ⟨vs, H2, I2, r, q2⟩ => ⟨I2.kIn, ?_⟩) hs hp)
      exact run_fnS (us := .ref a :: us) (vs := .ref a :: vs) F hr hb (hx σ) I2 (.cons rfl r) q2) ht⟩
/-- a method without arguments, called while an error is handled -/
theorem pe_meth0H {pl : Sem Bool} (he : PE X o ta) (c : Cls X.K C) (hm : Meth X.K C m f) (F : L2H.FnH X.prog X.w X.K X.mg X.base CX k f fd ps sp) (hr : L2H.RoomH k X.A) (hc : L2H.HotC X) (hb : Binds X.K fd ps []) (hx : ∀ σ, PassesAt CX X σ (E σ))
    (ht : eval (.Call (.Attribute o m apos) [] [] pos) X.env = (do let ov ← eval o X.env; standAt apos.atName; let (f, first) ← holding [ov] (getMethod ov m pl); callWith pos f first (backTo pos (starEach [] X.env)) (backToKw pos (keywordEach [] X.env))) := by rfl) :
    PE X (.Call (.Attribute o m apos) [] [] pos) (L2H.tMethH C m sp E ta tNil) := ⟨fun pins s σ H Q I h => PySem.W.methodCall_KW (pl := pl) (thn (he.run pins s σ H _ I h) fun u s1 ⟨x, H1, I1, rx, a, dx, fs, ex, ea, l, q⟩ => by
      subst ex
      cases (show u = Value.ref a from rx)
      refine getmeth_ok I1 ea c hm l (PySem.W.callWith_K0 (first := [.ref a]) I1.kIn hm.kp ?_)
      exact L2H.run_fnH (us := [.ref a]) (vs := [.ref a]) F hr hc hb (hx σ) I1 (.cons rfl .nil) q) ht⟩
end
section
variable {P : Program} {w : World} {K : PySem.W.Frag} {mg : Str → Option Value} {base : Heap}
/-- a def whose error has no other one behind it -/
theorem Fun.okN {x qual : Str} {st : Stmt} {f : Addr} {fd : FuncData} {N ps : List Str} {k : Nat} {sp : Sp} (F : Fun K x qual st f fd) (S : FnScope N ps (defScope st)) (len : ∀ vs H Q E, sp vs H Q E → vs.length = ps.length)
    (body : ∀ (cdv : Value) (A : Around) (outer : List Env) (s : Shared) (H : Hp) (vs : List V) (Q : VK) (E : XK), Room k (A.deeper (envOfC qual (defScope st) s.heap.objs.size f cdv)) → sp vs H Q E →
      ∃ t, PSs (cxOf (L2N.CX P w) P w K mg base N qual (defScope st) f cdv A outer s H E) (defBody st) t ∧ t { nx := fun _ H' => Q .non H', rt := Q } (start N vs) H) : FnOk P w K mg base (L2N.CX P w) (k + 1) f fd ps sp := by
  obtain ⟨_, _, _, _, _, _, cdv, _, _, rfl, lk, hcd⟩ := F.ex
  exact fn_of lk hcd S len (body cdv)
/-- a def called while an error is handled -/
theorem Fun.okH {x qual : Str} {st : Stmt} {f : Addr} {fd : FuncData} {N ps : List Str} {k : Nat} {sp : Sp} (F : Fun K x qual st f fd) (S : FnScope N ps (defScope st)) (len : ∀ vs H Q E, sp vs H Q E → vs.length = ps.length)
    (body : ∀ (cdv : Value) (A : Around) (outer : List Env) (s : Shared) (H : Hp) (vs : List V) (Q : VK) (E : XK) (p : Addr × Obj), L2H.Hot1 A p → L2H.RoomH k (A.deeper (envOfC qual (defScope st) s.heap.objs.size f cdv)) → sp vs H Q E →
      ∃ t, PSs (L2H.cxH CX0 P w K mg base N qual (defScope st) f cdv A outer s H E p) (defBody st) t ∧ t { nx := fun _ H' => Q .non H', rt := Q } (start N vs) H) : L2H.FnH P w K mg base CX0 (k + 1) f fd ps sp := by
  obtain ⟨_, _, _, _, _, _, cdv, _, _, rfl, lk, hcd⟩ := F.ex
  exact L2H.fn_ofH lk hcd S len (body cdv)
theorem passLN {X : Cx} : Passes (L2N.CX X.prog X.w) X E0 := fun _ _ _ _ _ _ _ h => by
  obtain ⟨_, _, _, _, _, _, _, _, _, _, _, _, z⟩ := h; exact z.elim
theorem pass0H {X : Cx} {E : St → XK} : ∀ σ, PassesAt CX0 X σ (E σ) := fun _ _ _ _ _ _ _ h => h.elim
theorem takesN {X : Cx} : L2N.Takes X (fun _ _ _ _ => False) := fun _ _ x => by
  obtain ⟨_, _, _, _, _, _, _, _, _, _, _, _, _, _, _, _, _, z⟩ := x
end
end L2

set_option Elab.async false
set_option linter.all false
set_option maxRecDepth 100000
set_option maxHeartbeats 4000000
/-! # an error class of the program two steps beneath Exception, whose __init__ keeps one word: self.word = word -/
namespace PySem
namespace BiX
open PySem.W PySem.Calls PyProof.Rows PySem.HandSPX Builtin Builtin.ObjectAttr
abbrev tail2 (S : Addr) : List Value := .ref S :: ESX.exTail
def argsI (p1 p2 p3 : Pos) : Arguments := ⟨[], [⟨"self", none, p1⟩, ⟨"line", none, p2⟩, ⟨"word", none, p3⟩], none, [], [], none, []⟩
def bodyI (q1 q2 q3 q4 q5 q6 q7 q8 : Pos) : List Stmt := [.Assign [.Attribute (.Name "self" q1) "line" q2] (.Name "line" q3) q4, .Assign [.Attribute (.Name "self" q5) "word" q6] (.Name "word" q7) q8]
def scopeI : Scope := ⟨.function, [(PySem.Str.ofString "self", .local), (PySem.Str.ofString "line", .local), (PySem.Str.ofString "word", .local)], false, false, []⟩
/-- all that is written of the class at C, of StoreError at S, and of the class's __init__ at fI -/
structure Txt (K : Frag) (C S fI : Addr) : Prop where
  cls : ∃ nm q N bs sn sub ab col dd k0 k1 k2 k3 k5, K.lookup C = some (excClassObj nm q C N bs (tail2 S) true sn sub ab col dd k0 k1 k2 k3 k5 "Exception.__new__")
  sa : findIn K (.ref C) "__setattr__" = some (some (.builtin "object.__setattr__"))
  noL : findIn K (.ref C) "line" = some none
  noW : findIn K (.ref C) "word" = some none
  iC : findIn K (.ref C) "__init__" = some (some (.ref fI))
  tI : typeIn K (.ref fI) = some (.type "function")
  kC : keepIn K (.ref C) = true
  exC : subIn K (.ref C) (.type "BaseException") = some true
  tyC : typeIn K (.ref C) = some (.type "type")
  fn : ∃ oc od doc pm an cdv ct osl p1 p2 p3 q1 q2 q3 q4 q5 q6 q7 q8, K.lookup fI = some ⟨oc, od, .func (fnOf "__init__" "BadImage.__init__" (argsI p1 p2 p3) (bodyI q1 q2 q3 q4 q5 q6 q7 q8) scopeI .none .none doc pm an cdv ct), osl⟩ ∧ codeIn K cdv "BadImage.__init__" = true
theorem tail2_has (S : Addr) (T : String) : (tail2 S).contains (.type T) = ESX.exTail.contains (.type T) := by
  show (Value.ref S :: ESX.exTail).contains (.type T) = _
  rw [List.contains_cons]; rfl
section
variable {prog : Program} {w : World} {A : Around} {R : Result → Shared → Prop}
/-- x.name = v, the first field of an error that is being made -/
theorem first_field {hp : Heap} {g : Array GenState} {dr : Drawn} {t : Nat} {os : OsState} {K : Frag} {nm : Str} {tk : Tok} {v : Value} {x C S : Addr} {fs : Array Value} {c : ClassData} (X : K.In hp) (hx : hp.get? x = some { cls := .ref C, data := .fields fs })
    (hc : clsIn K C = some c) (hm : c.mro = .ref C :: tail2 S) (hd : c.hasDict = true) (no : findIn K (.ref C) nm = some none)
    (end' : ∀ h' tk' dx, (∀ b o, b ≠ x → hp.get? b = some o → h'.get? b = some o) → hp.objs.size ≤ dx → dx ≠ x → h'.get? x = some { cls := .ref C, dict := some dx, data := .fields fs } → h'.Ns1 dx (fun y => if y = nm then some v else none) →
      R (.ok (.ret .none)) ⟨h', g, dr, tk', os⟩) :
    codeAny (model prog w) A (.call (.builtin "object.__setattr__") ⟨[.ref x, .str nm tk, v], []⟩) R ⟨hp, g, dr, t, os⟩ := by
  have inst : InstAt hp x { cls := .ref C, data := .fields fs } C none := ⟨hx, rfl, rfl, trivial⟩
  have out : x ≠ hp.objs.size := Nat.ne_of_lt (Heap.lt_size hx)
  have so := F.store_object
  have obj : mroIn K C (.type "object") = some true := by
    unfold mroIn; rw [hc, Option.bind_some, hm, if_neg (show ¬ (List.isEmpty (Value.ref C :: tail2 S) = true) from Bool.false_ne_true), List.contains_cons, tail2_has]; rfl
  have isO : Looks (model prog w) hp (isInstance (.ref x) (.type "object")) true := inst.type.andThen (looks_mroIn X obj)
  refine codeAny_call_builtin so.slot.plain so.entry (@W.check_slot (model prog w) _ _ ⟨hp, g, dr, t, os⟩ "object.__setattr__" "object" "__setattr__" (.ref x) [.str nm tk, v] [] _ so.kind so.split isO (so.args (.ref x) (.str nm tk) v) ?_)
  have row : Looks (model prog w) hp (mroOf (.ref C)) c.mro := (looks_clsIn X hc).andThen .now
  have free : Looks (model prog w) hp (storeTaker? none) none := .now
  have its : Looks (model prog w) hp (classData C) c := looks_clsIn X hc
  have pass : refuseLoop (.ref x) "__setattr__" c.mro = pure () := by rw [hm, refuseLoop_ref, refuseLoop_ref]; exact F.store_Exception.passes _
  rw [osa_eq, refuse_eq]
  refine wpAny_bind (wpAny_bind (inst.type.at (wpAny_bind (row.at ?_))))
  rw [pass]
  refine wpAny_pure (wpAny_bind (inst.type.at (wpAny_bind ((looks_findIn X no).at (wpAny_bind (free.at ?_))))))
  obtain ⟨a1, a2, a3, a4, a5, a6, a7, a8, a9, a10, a11⟩ := c
  dsimp only at hd
  subst hd
  show wpAny _ _ (storeInOwnDict (.ref x) (.ref C) (.str nm tk) nm v false) _ _ _
  unfold storeInOwnDict ownDictForStores
  repeat (first | with_reducible refine its.at ?_ | with_reducible refine store_in_new ?_ ?_ | with_reducible refine wpAny_loadPart_at hx ?_ | wp_step)
  · exact ⟨_, #[], _, (Heap.get?_update_ne _ _ _ _ out.symm).trans (Heap.get?_push_at rfl rfl), rfl, fun e he => absurd he (by simp), fun _ => rfl⟩
  · intro h' tk' ns kb
    have hx1 : (hp.push { cls := .type "dict", data := .dict #[] }).get? x = some { cls := .ref C, data := .fields fs } := Heap.get?_push_of_some _ hx
    exact end' h' tk' hp.objs.size (fun b o nb ho => (kb.2 b (Nat.ne_of_lt (Heap.lt_size ho))).trans ((Heap.get?_update_ne _ _ _ _ nb).trans (Heap.get?_push_of_some _ ho))) (Nat.le_refl _) out.symm ((kb.2 x out).trans (Heap.get?_update_self _ hx1 rfl)) ns
/-- x.name = v, a further field -/
theorem next_field {hp : Heap} {g : Array GenState} {dr : Drawn} {t : Nat} {os : OsState} {K : Frag} {nm : Str} {tk : Tok} {v : Value} {x C S dx : Addr} {fs : Array Value} {c : ClassData} {m0 : Str → Option Value} {nl : List Str} (X : K.In hp) (hx : hp.get? x = some { cls := .ref C, dict := some dx, data := .fields fs })
    (hns : hp.Ns1 dx m0) (hw : Within m0 nl) (hz : nl.length ≤ 1000) (hc : clsIn K C = some c) (hm : c.mro = .ref C :: tail2 S) (hd : c.hasDict = true) (no : findIn K (.ref C) nm = some none)
    (end' : ∀ h' tk', (∀ b o, b ≠ dx → hp.get? b = some o → h'.get? b = some o) → h'.Ns1 dx (fun y => if y = nm then some v else m0 y) → R (.ok (.ret .none)) ⟨h', g, dr, tk', os⟩) :
    codeAny (model prog w) A (.call (.builtin "object.__setattr__") ⟨[.ref x, .str nm tk, v], []⟩) R ⟨hp, g, dr, t, os⟩ := by
  obtain ⟨oD, esD, epD, hoD, hdD, _⟩ := hns.count hw
  have inst : InstAt hp x { cls := .ref C, dict := some dx, data := .fields fs } C (some oD) := ⟨hx, rfl, rfl, hoD⟩
  have so := F.store_object
  have obj : mroIn K C (.type "object") = some true := by
    unfold mroIn; rw [hc, Option.bind_some, hm, if_neg (show ¬ (List.isEmpty (Value.ref C :: tail2 S) = true) from Bool.false_ne_true), List.contains_cons, tail2_has]; rfl
  have isO : Looks (model prog w) hp (isInstance (.ref x) (.type "object")) true := inst.type.andThen (looks_mroIn X obj)
  refine codeAny_call_builtin so.slot.plain so.entry (@W.check_slot (model prog w) _ _ ⟨hp, g, dr, t, os⟩ "object.__setattr__" "object" "__setattr__" (.ref x) [.str nm tk, v] [] _ so.kind so.split isO (so.args (.ref x) (.str nm tk) v) ?_)
  have row : Looks (model prog w) hp (mroOf (.ref C)) c.mro := (looks_clsIn X hc).andThen .now
  have free : Looks (model prog w) hp (storeTaker? none) none := .now
  have its : Looks (model prog w) hp (classData C) c := looks_clsIn X hc
  have pass : refuseLoop (.ref x) "__setattr__" c.mro = pure () := by rw [hm, refuseLoop_ref, refuseLoop_ref]; exact F.store_Exception.passes _
  rw [osa_eq, refuse_eq]
  refine wpAny_bind (wpAny_bind (inst.type.at (wpAny_bind (row.at ?_))))
  rw [pass]
  refine wpAny_pure (wpAny_bind (inst.type.at (wpAny_bind ((looks_findIn X no).at (wpAny_bind (free.at ?_))))))
  obtain ⟨a1, a2, a3, a4, a5, a6, a7, a8, a9, a10, a11⟩ := c
  dsimp only at hd
  subst hd
  show wpAny _ _ (storeInOwnDict (.ref x) (.ref C) (.str nm tk) nm v false) _ _ _
  unfold storeInOwnDict ownDictForStores
  repeat (first | with_reducible refine its.at ?_ | with_reducible refine ESX.store_in_old hns hw hz ?_ | with_reducible refine wpAny_loadPart_at hx ?_ | wp_step)
  intro h' tk' ns kb
  exact end' h' tk' (fun b o nb ho => (kb.2 b nb).trans ho) ns
theorem load1 {M : Model} {B : Around} {Er : Value → Shared → Prop} {sh : Shared} {fn nam : Str} {sc : Scope} {loc fa : Addr} {cv val : Value} {m : Str → Option Value} {ps : Pos} {Q : Value → Shared → Prop} (n : sh.heap.Ns loc m) (e : m nam = some val) (q : Q val sh)
    (k1 : sc.kind = .function := by rfl) (k2 : (envOfC fn sc loc fa cv).kindOf nam = some .local := by rfl) (k3 : (nam == ("__debug__" : Str)) = false := by decide) : wpAny M B (eval (.Name nam ps) (envOfC fn sc loc fa cv)) Q Er sh := wpAny_Name (wpAny_loadName_local k1 k2 n e q) k3
def two (v1 v2 : Value) : Str → Option Value := fun y => if y = "word" then some v2 else if y = "line" then some v1 else none
/-- what BadImage(v) leaves: the error at e, its own dict at d -/
structure Made (h h' : Heap) (e C d : Addr) (v1 v2 : Value) : Prop where
  keep : ∀ b o, h.get? b = some o → h'.get? b = some o
  eNew : h.objs.size ≤ e
  obj : ∃ oe vs, h'.get? e = some oe ∧ oe.cls = .ref C ∧ oe.dict = some d ∧ oe.data = .fields vs ∧ vs[1]? = some .none ∧ vs[2]? = some .none
  dNew : h.objs.size ≤ d
  ne : d ≠ e
  ns : h'.Ns1 d (two v1 v2)
theorem run_init {s : Shared} {K : Frag} {C S fI : Addr} (T : Txt K C S fI) {x t0 : Addr} {v1 v2 : Value} (X : K.In s.heap) (XK : ∀ h', (∀ b o, b ≠ x → s.heap.get? b = some o → h'.get? b = some o) → K.In h') (lim : s.heap.NoLimit) (hx : s.heap.get? x = some (excO C t0)) (room : A.depth < recursionLimit)
    (go : ∀ h' tk dx, (∀ b o, b ≠ x → s.heap.get? b = some o → h'.get? b = some o) → h'.get? x = some { cls := .ref C, dict := some dx, data := .fields #[.ref t0, .none, .none, .none, .bool false, .none] } → s.heap.objs.size ≤ dx → dx ≠ x → h'.Ns1 dx (two v1 v2) →
      R (.ok (.ret .none)) { s with heap := h', toks := tk }) :
    codeAny (model prog w) A (.call (.ref fI) ⟨[.ref x, v1, v2], []⟩) R s := by
  obtain ⟨oc, od, doc, pm, an, cdv, ct, osl, p1, p2, p3, q1, q2, q3, q4, q5, q6, q7, q8, ho, hcd⟩ := T.fn
  obtain ⟨nm, q, N, bs, sn, sub, ab, col, dd, k0, k1, k2, k3, k5, hC⟩ := T.cls
  have hc : clsIn K C = some ⟨nm, bs, .ref C :: tail2 S, N, q, true, sn, sub, ab, col, false⟩ := by unfold clsIn; rw [hC] <;> rfl
  refine Att.call_fn (binds := [("self", .ref x), ("line", v1), ("word", v2)]) X lim ho hcd room (BindsTo.of_eq (by first | rfl | with_unfolding_all rfl)) (by first | rfl | decide | with_unfolding_all rfl) (fun s1 IC => ?_) rfl rfl rfl
  obtain ⟨h1, tk1, rfl⟩ := IC.toInCall.same
  have kp := IC.toInCall.keep
  have ns := IC.toInCall.ns
  have hx1 := kp _ _ hx
  have hxl : x < s.heap.objs.size := Heap.lt_size hx
  show wpAny _ _ (execs _ _) _ _ _
  refine wpAny_execs_cons (plainObj_wpAny_Assign_Attribute ?_)
  refine load1 (val := v1) ns (by first | rfl | with_unfolding_all rfl | kernel_rfl) (load1 (val := .ref x) ns (by first | rfl | with_unfolding_all rfl | kernel_rfl) ?_)
  refine set_plain (X.keeps kp) (ox := excO C t0) (od := none) ⟨hx1, rfl, rfl, trivial⟩ T.sa ?_
  refine first_field (X.keeps kp) hx1 hc rfl rfl T.noL fun h3 tk3 dx k3 dn dne hx3 ns3 => ?_
  have ns' : h3.Ns _ _ := ns.at fun o z => k3 _ o (Nat.ne_of_gt hxl) z
  have X3 : K.In h3 := XK h3 fun b o nb e => k3 b o nb (kp b o e)
  show wpAny _ _ (execs _ _) _ _ _
  refine wpAny_execs_cons (plainObj_wpAny_Assign_Attribute ?_)
  refine load1 (val := v2) ns' (by first | rfl | with_unfolding_all rfl | kernel_rfl) (load1 (val := .ref x) ns' (by first | rfl | with_unfolding_all rfl | kernel_rfl) ?_)
  obtain ⟨oD, esD, epD, hoD, hdD, _⟩ := ns3.count (ns := ["line"]) (fun y hy => by
    by_cases e : y = "line"
    · rw [e]; exact List.mem_cons_self
    · rw [if_neg e] at hy; exact absurd rfl hy)
  refine set_plain X3 (ox := { cls := .ref C, dict := some dx, data := .fields #[.ref t0, .none, .none, .none, .bool false, .none] }) (od := some oD) ⟨hx3, rfl, rfl, hoD⟩ T.sa ?_
  refine next_field X3 hx3 ns3 (nl := ["line"]) (fun y hy => by
    by_cases e : y = "line"
    · rw [e]; exact List.mem_cons_self
    · rw [if_neg e] at hy; exact absurd rfl hy) (by decide) hc rfl rfl T.noW fun h4 tk4 k4 ns4 => ?_
  show wpAny _ _ (execs _ _) _ _ _
  have hdx : s.heap.objs.size ≤ dx := Nat.le_of_lt (Nat.lt_of_lt_of_le ns.lt dn)
  have nbd : ∀ b o, s.heap.get? b = some o → b ≠ dx := fun b o e => Nat.ne_of_lt (Nat.lt_of_lt_of_le (Heap.lt_size e) hdx)
  exact wpAny_execs_nil (go h4 tk4 dx (fun b o nb e => k4 b o (nbd b o e) (k3 b o nb (kp b o e))) (k4 x _ dne.symm hx3) hdx dne ns4)
theorem run_made {s : Shared} {K : Frag} {C S fI : Addr} (T : Txt K C S fI) {v1 v2 : Value} (X : K.In s.heap) (lim : s.heap.NoLimit) (room : A.depth + 1 < recursionLimit)
    (go : ∀ h' tk e d, Made s.heap h' e C d v1 v2 → R (.ok (.ret (.ref e))) { s with heap := h', toks := tk }) : codeAny (model prog w) A (.call (.ref C) ⟨[v1, v2], []⟩) R s := by
  obtain ⟨nm, q, N, bs, sn, sub, ab, col, dd, k0, k1, k2, k3, k5, hC⟩ := T.cls
  obtain ⟨hp, g, dr, tk, os⟩ := s
  have kp : ∀ b o, hp.get? b = some o → ((hp.push (kdv_tup [v1, v2])).push (excO C hp.objs.size)).get? b = some o := fun b o z => Heap.get?_push_of_some _ (Heap.get?_push_of_some _ z)
  have at' : ((hp.push (kdv_tup [v1, v2])).push (excO C hp.objs.size)).get? (hp.objs.size + 1) = some (excO C hp.objs.size) := by heap_get
  have one : [v1, v2].length ≤ sizeLine := by rw [sizeLine_eq]; exact (by decide : 2 ≤ 16777216)
  refine call_own F.excBase_Exception (tail2_has S) (X _ _ hC) (looks_findIn X T.iC) (fun self => bind_fn X self T.tI) one ?_
  refine run_init (s := ⟨(hp.push (kdv_tup [v1, v2])).push (excO C hp.objs.size), g, dr, tk, os⟩) T (X.keeps kp) (fun h' k' => X.keeps fun b o z => k' b o (Nat.ne_of_lt (Nat.lt_succ_of_lt (Heap.lt_size z))) (kp b o z)) (lim.keeps kp) at' ?_ fun h' tk' dx k' hx dn dne ns => ?_
  · show A.depth + 1 < recursionLimit
    exact room
  · have z : hp.objs.size + 1 + 1 ≤ dx := by
      first | exact dn | (simpa only [Heap.size_push] using dn)
    exact ⟨rfl, go h' tk' (hp.objs.size + 1) dx ⟨fun b o z => k' b o (Nat.ne_of_lt (Nat.lt_succ_of_lt (Heap.lt_size z))) (kp b o z), Nat.le_succ _, ⟨_, _, hx, rfl, rfl, rfl, rfl, rfl⟩, (show hp.objs.size ≤ dx by omega), dne, ns⟩⟩
end
end BiX
end PySem
namespace L2
open PySem PySem.Spec PyProof.Rows
section
variable {X : Cx} {C S fI : Addr}
def tBi (C : Addr) (ta : TA) : St → Hp → XK → Prop := fun σ H Q => ta σ H fun vs H1 => ∃ v1 v2, vs = [v1, v2] ∧ ∀ d, H1 d = none → Q (.ref C) (some d) (upd H1 d (.xd [(("word" : Str), v2), (("line" : Str), v1)]))
theorem pmk_bi {a b : Expr} {ta : TA} {p pos : Pos} {k : Nat} (T : PySem.BiX.Txt X.K C S fI) (gC : X.mg "BadImage" = some (.ref C)) (hr : Room k X.A) (ha : PA X [a, b] ta) (hg : Gl X "BadImage" := by rfl)
    (he : starEach (a :: [b]) X.env = (false, eval a X.env) :: starEach [b] X.env := by rfl) (hpl : (backTo pos (starEach [b] X.env)).any (·.1) = false := by rfl) : L2N.PMk X (.Call (.Name "BadImage" p) [a, b] [] pos) (tBi C ta) := by
  intro pins s σ H Q I h
  refine wpAny_Call_Name_kw (ld_glob I hg gC ?_)
  refine PySem.W.callWith_K (h₀ := X.base) I.ok.mod.kin T.kC (thn (ha.run pos pins s σ H _ I h) fun us s1 ⟨vs, H1, I1, r1, v1, v2, ev, q1⟩ => ⟨I1.kIn, ?_⟩) he hpl
  subst ev
  cases r1 with
  | @cons _ w1 _ us1 rv1 rn1 =>
  cases rn1 with
  | @cons _ w2 _ us2 rv2 rn2 =>
    cases rn2
    show wpAny _ _ (call (.ref C) [w1, w2]) _ _ _
    have lim := I1.nolimit
    obtain ⟨hp, g, dr, tk, os⟩ := s1
    refine wpAny_call (PySem.BiX.run_made T I1.kIn lim (by have := hr.dp; omega) fun h' tk' e d M => ?_)
    show L2N.MkP X pins σ Q (.ref e) ⟨h', g, dr, tk', os⟩
    obtain ⟨oe, fv, hoe, hc, hd, hdat, h1, h2⟩ := M.obj
    obtain ⟨G, g1, g2⟩ := restrict h' fun b => decide (b ≠ e)
    have gk : ∀ b, b ≠ e → G.get? b = h'.get? b := fun b nb => g1 b (decide_eq_true nb)
    have ge : G.get? e = none := g2 e (by simp)
    have nlw : ("line" : Str) ≠ "word" := by decide +kernel
    have fld : ∀ f : Str, RelO (List.lookup f [(("word" : Str), v2), (("line" : Str), v1)]) (PySem.BiX.two w1 w2 f) := fun f => by
      unfold PySem.BiX.two
      by_cases hw : f = "word"
      · rw [if_pos hw, hw, show List.lookup ("word" : Str) [(("word" : Str), v2), (("line" : Str), v1)] = some v2 by simp [List.lookup]]; exact rv2
      · rw [if_neg hw]
        by_cases hl : f = "line"
        · rw [if_pos hl, hl, show List.lookup ("line" : Str) [(("word" : Str), v2), (("line" : Str), v1)] = some v1 by simp [List.lookup, show (("line" : Str) == ("word" : Str)) = false by simpa using nlw]]; exact rv1
        · rw [if_neg hl, show List.lookup f [(("word" : Str), v2), (("line" : Str), v1)] = none by simp [List.lookup, show (f == ("word" : Str)) = false by simpa using hw, show (f == ("line" : Str)) = false by simpa using hl]]; trivial
    have ob : ObjOk X.prog X.w (upd H1 d (.xd [(("word" : Str), v2), (("line" : Str), v1)])) G d (.xd [(("word" : Str), v2), (("line" : Str), v1)]) := ⟨_, M.ns.at (fun o z => (gk d M.ne).trans z), fld⟩
    have J : Inv X pins σ (upd H1 d (.xd [(("word" : Str), v2), (("line" : Str), v1)])) ⟨G, g, dr, tk', os⟩ := I1.laid (t' := tk') (fun b o z => (gk b (Nat.ne_of_lt (Nat.lt_of_lt_of_le (Heap.lt_size z) M.eNew))).trans (M.keep b o z)) M.dNew ob
    refine ⟨e, oe, fv, ⟨G, g, dr, tk', os⟩, _, .ref C, some d, rfl, J, fun b o z => ?_, ge, hoe, ⟨hc, hd, fun vs z => by rw [hdat] at z; cases z; exact h2⟩, hdat, h1, ?_, rfl, I1.bare, raises_own T.exC T.tyC, q1 d (I1.hok.fresh M.dNew)⟩
    · by_cases hb : b = e
      · have z' : G.get? b = some o := z
        rw [hb, ge] at z'; cases z'
      · exact (gk b hb).symm.trans z
    · rw [upd_ne (Ne.symm M.ne)]; exact I1.hok.fresh M.eNew
theorem ps_bi {a b : Expr} {ta : TA} {W : WX} {p pos pos2 : Pos} {k : Nat} (hc : X.calm = true) (T : PySem.BiX.Txt X.K C S fI) (gC : X.mg "BadImage" = some (.ref C)) (hr : Room k X.A) (tk : L2N.Takes X W) (ha : PA X [a, b] ta) (hg : Gl X "BadImage" := by rfl)
    (he : starEach (a :: [b]) X.env = (false, eval a X.env) :: starEach [b] X.env := by rfl) (hpl : (backTo pos (starEach [b] X.env)).any (·.1) = false := by rfl) :
    PS X (.Raise (some (.Call (.Name "BadImage" p) [a, b] [] pos)) none pos2) (fun _ σ H => tBi C ta σ H fun cls d H' => W cls d σ H') 
    := L2N.ps_raise hc tk (pmk_bi T gC hr ha hg he hpl)
end
end L2

set_option Elab.async false
set_option linter.all false
set_option maxRecDepth 100000
set_option maxHeartbeats 4000000
namespace Pf
open PySem PySem.Spec PyProof.Rows L2 TL
theorem spl_bd (S : List Nat) : ∀ (l : List Nat) (k : Nat) (acc : List Nat), (spl S k acc l).length ≤ l.length + 1 ∧ ∀ p ∈ spl S k acc l, p.length ≤ acc.length + l.length
  | [], k, acc => by
    rw [spl_nil]
    exact ⟨Nat.le_refl _, fun p hp => by rw [List.mem_singleton.mp hp]; exact Nat.le_refl _⟩
  | c :: r, 0, acc => by
    show (if pre S (c :: r) = true then acc :: spl S (S.length - 1) [] r else spl S 0 (acc ++ [c]) r).length ≤ _ ∧ ∀ p ∈ (if pre S (c :: r) = true then acc :: spl S (S.length - 1) [] r else spl S 0 (acc ++ [c]) r), _
    split
    · obtain ⟨h1, h2⟩ := spl_bd S r (S.length - 1) []
      refine ⟨by simp only [List.length_cons]; omega, fun p hp => ?_⟩
      rcases List.mem_cons.mp hp with z | z
      · rw [z]; exact Nat.le_add_right _ _
      · have := h2 p z
        simp only [List.length_nil, List.length_cons] at this ⊢
        omega
    · obtain ⟨h1, h2⟩ := spl_bd S r 0 (acc ++ [c])
      refine ⟨by simp only [List.length_cons]; omega, fun p hp => ?_⟩
      have := h2 p hp
      simp only [List.length_append, List.length_nil, List.length_cons] at this ⊢
      omega
  | c :: r, k + 1, acc => by
    show (spl S k acc r).length ≤ _ ∧ ∀ p ∈ spl S k acc r, _
    obtain ⟨h1, h2⟩ := spl_bd S r k acc
    refine ⟨by simp only [List.length_cons]; omega, fun p hp => ?_⟩
    have := h2 p hp
    simp only [List.length_cons]
    omega
/-- the words of a line; whether a word tells a value -/
def wsL (l : List Nat) : List (List Nat) := spl [32] 0 [] l
def isVL (l : List Nat) : Bool := (decide (l = tornL) || decide (l = emptyL)) || (spl [44] 0 [] l).all isShL
theorem split_ws (l : List Nat) : Txt.split (mkS l) (" " : Str) = (wsL l).map mkS := map_tl (split_tl (mkS l) 32 (" " : Str) tl_blank (by decide))
theorem split_pt (l : List Nat) : Txt.split (mkS l) ("," : Str) = (spl [44] 0 [] l).map mkS := map_tl (split_tl (mkS l) 44 ("," : Str) tl_comma (by decide))
theorem isVS_L (l : List Nat) : isVS (mkS l) = isVL l := by
  unfold isVS isVL
  rw [split_pt, List.all_map, tl_mkS]
  rfl
theorem mk_nil : mkS [] = ("" : Str) := rfl
theorem getD_mk (ws : List (List Nat)) (i : Nat) : (ws.map mkS).getD i ("" : Str) = mkS (ws.getD i []) := by
  rw [List.getD_eq_getElem?_getD, List.getD_eq_getElem?_getD, List.getElem?_map]
  cases ws[i]? with
  | none => exact mk_nil.symm
  | some w => rfl
/-- which word of the first line is at fault -/
def manyF (ws : List (List Nat)) : Option Int := if ws.getD 0 [] ≠ dkW then some 0 else if isInL 1 1000 (ws.getD 1 []) = false then some 1 else if ws.length ≠ 2 then some 2 else none
def headW : List (List Nat) → List (List Nat)
  | [] => []
  | l :: _ => wsL l
/-- what is raised, with its two fields -/
def bad (C : Addr) (l u : Int) (H : Hp) (E : XK) : Prop := ∀ H' dd, Same H H' → H dd = none → H' dd = some (.xd [(("word" : Str), .int u), (("line" : Str), .int l)]) → E (.ref C) (some dd) H'
theorem bad.same {C : Addr} {l u : Int} {H H1 : Hp} {E : XK} (h : bad C l u H E) (s : Same H H1) : bad C l u H1 E := fun H' dd s' e1 e2 => h H' dd (s.trans s') (s.free e1) e2
structure BiTx (K : PySem.W.Frag) (mg : Str → Option Value) (C S fI : Addr) : Prop where
  T : PySem.BiX.Txt K C S fI
  g : mg "BadImage" = some (.ref C)
def spCwX (C : Addr) : Sp := fun vs H Q E => ∃ (b : Bool) (l u : Int), vs = [.bl b, .int l, .int u] ∧ (b = true → Q .non H) ∧ (b = false → bad C l u H E)
section
variable {P : Program} {w : World} {K : PySem.W.Frag} {mg : Str → Option Value} {base : Heap} {C S fI : Addr}
theorem ok_cwX {f : Addr} {fd : FuncData} (F : Fun K "check_word" "check_word" sCw f fd) (R : BiTx K mg C S fI) : FnOk P w K mg base (L2N.CX P w) 1 f fd ["holds", "line", "word"] (spCwX C) := by
  refine F.okN scCw (fun vs H Q E h => ?_) (fun cdv A outer s H vs Q E hr h => ?_)
  · obtain ⟨b, l, u, rfl, _⟩ := h
    rfl
  · obtain ⟨b, l, u, rfl, k1, k2⟩ := h
    refine ⟨_, pss_one (ps_if (pt_not (pt_val (pv 0))) (pss_one (ps_bi rfl R.T R.g hr (L2N.takes_of rfl rfl rfl rfl) (pa_cons (pv 1) (pa_cons (pv 2) pa_nil)))) pss_nil), _, rfl, _, rfl, ?_⟩
    cases b with
    | true => exact iteF (k1 rfl)
    | false => exact iteT ⟨_, rfl, _, rfl, _, _, rfl, fun dd hdd => k2 rfl _ dd (same_upd hdd) hdd upd_same⟩
def spRmX (K : PySem.W.Frag) (C : Addr) : Sp := fun vs H Q E => ∃ (p : Addr) (ls : List (List Nat)), vs = [.ref p] ∧ LT K H p (strV ls) ∧ (ls.getD 0 []).length ≤ 90000 ∧ (isShL ((headW ls).getD 1 []) = true → ((headW ls).getD 1 []).length ≤ 640) ∧
  (∀ u, manyF (headW ls) = some u → bad C 0 u H E) ∧ (manyF (headW ls) = none → ∀ H', Same H H' → Q (.int (valL ((headW ls).getD 1 []))) H')
theorem ws_len (l : List Nat) (i : Nat) : ((wsL l).getD i []).length ≤ l.length := by
  rw [List.getD_eq_getElem?_getD]
  cases e : (wsL l)[i]? with
  | none => exact Nat.zero_le _
  | some x =>
    have := (spl_bd [32] l 0 []).2 x (List.mem_of_getElem? e)
    simp only [List.length_nil, Nat.zero_add] at this
    exact this
theorem head_len (ls : List (List Nat)) (i : Nat) : ((headW ls).getD i []).length ≤ (ls.getD 0 []).length := by
  cases ls with
  | nil => simp [headW]
  | cons l ls => exact ws_len l i
theorem int_eqb (a b : Int) : decide (V.int a = V.int b) = decide (a = b) := by
  by_cases h : a = b
  · rw [decide_eq_true h, decide_eq_true (by rw [h])]
  · rw [decide_eq_false h, decide_eq_false fun z => h (by injection z)]
abbrev NRm : List Str := ["lines", "words"]
abbrev stRm (j : Nat) : Stmt := (defBody sRm).getD j (.Pass ⟨0, 0, 0, 0⟩)
theorem strs_at {ws : List (List Nat)} {i : Nat} (h : i < ws.length) : ((ws.map mkS).map V.str)[i]? = some (V.str (mkS (ws.getD i []))) := by
  rw [List.getElem?_map, List.getElem?_map, List.getD_eq_getElem?_getD, List.getElem?_eq_getElem h]
  rfl
theorem rm_rest {f fW fC fN : Addr} {dW dC dN : FuncData} {cdv : Value} {A : Around} {outer : List Env} {s : Shared} {H0 : Hp} {E : XK} (DW : Df P w K mg base CX0 1 "word_at" ["words", "place"] (spWordAt K) fW dW) (DC : Df P w K mg base (L2N.CX P w) 1 "check_word" ["holds", "line", "word"] (spCwX C) fC dC) (DN : Df P w K mg base CX0 4 "is_number_within" ["word", "low", "high"] spNin fN dN)
    {th : Tok} (mM : mg "MOST_PLATES" = some (.int 1000 th)) (ml : mg "len" = none) (mi : mg "int" = none) (hr : Room 4 (A.deeper (envOfC "read_many" (defScope sRm) s.heap.objs.size f cdv))) :
    ∃ t, PSs (cxOf (L2N.CX P w) P w K mg base NRm "read_many" (defScope sRm) f cdv A outer s H0 E) [stRm 1, stRm 2, stRm 3, stRm 4] t ∧ ∀ (D : Ends) H (p q : Addr) (ws : List (List Nat)), H q = some (.lst ((ws.map mkS).map V.str)) → (ws.getD 1 []).length ≤ 90000 → (isShL (ws.getD 1 []) = true → (ws.getD 1 []).length ≤ 640) →
      (∀ u, manyF ws = some u → bad C 0 u H E) → (manyF ws = none → ∀ H', Same H H' → D.rt (.int (valL (ws.getD 1 []))) H') →
      t D [some (.ref p), some (.ref q)] H := by
  have nd := scRm.nd
  have h1 : Room 1 _ := hr.mono (by decide)
  refine ⟨_, pss_cons (ps_expr (pe_call (E := E) DC.G h1 rfl DC.g DC.kp DC.b .nil (L2N.passes_call (L2N.takes_of rfl rfl rfl rfl) (fun _ _ _ _ h => h)) (pa_cons (pe_cmpR op_eq (pe_call DW.G h1 rfl DW.g DW.kp DW.b .nil pass0 (pa_cons (pv 1) (pa_cons pe_int pa_nil))) pe_str (nomark _)) (pa_cons pe_int (pa_cons pe_int pa_nil)))))
      (pss_cons (ps_expr (pe_call (E := E) DC.G h1 rfl DC.g DC.kp DC.b .nil (L2N.passes_call (L2N.takes_of rfl rfl rfl rfl) (fun _ _ _ _ h => h)) (pa_cons (pe_call DN.G hr rfl DN.g DN.kp DN.b .nil pass0 (pa_cons (pe_call DW.G h1 rfl DW.g DW.kp DW.b .nil pass0 (pa_cons (pv 1) (pa_cons pe_int pa_nil))) (pa_cons pe_int (pa_cons (pe_glob (v := .int 1000) rfl mM ⟨_, rfl⟩) pa_nil)))) (pa_cons pe_int (pa_cons pe_int pa_nil)))))
      (pss_cons (ps_expr (pe_call (E := E) DC.G h1 rfl DC.g DC.kp DC.b .nil (L2N.passes_call (L2N.takes_of rfl rfl rfl rfl) (fun _ _ _ _ h => h)) (pa_cons (pe_cmpR op_eq (pe_callB call_len_seq (by rfl) ml boot_len (pa_cons (pv 1) pa_nil)) pe_int (nomark _)) (pa_cons pe_int (pa_cons pe_int pa_nil)))))
      (pss_one (ps_ret (pe_callTy call_int_str (by rfl) mi boot_int (pa_cons (pe_ix ix_list (pv 1) pe_int (fun _ _ => rfl)) pa_nil)))))), fun D H p q ws eq1 hl1 h640 kb k => ?_⟩
  refine ⟨_, rfl, q, ws.map mkS, 0, rfl, SqL.of eq1, rfl, decide (ws.getD 0 [] = dkW), 0, 0, ?_, fun b0 => ?_, fun b0 => ?_⟩
  · have h9 : decide (V.str ((ws.map mkS).getD 0 ("" : Str)) = V.str ("disk" : Str)) = decide (ws.getD 0 [] = dkW) := by rw [str_eq, getD_mk, tl_mkS, tl_dkW]
    show V.bl (decide (V.str ((ws.map mkS).getD 0 ("" : Str)) = V.str ("disk" : Str))) :: _ = _
    rw [h9]
    rfl
  · have b0' : ws.getD 0 [] = dkW := of_decide_eq_true b0
    refine ⟨_, rfl, q, ws.map mkS, 1, rfl, SqL.of eq1, mkS (ws.getD 1 []), 1, 1000, by rw [getD_mk]; rfl, by rw [len_mkS]; omega, fun z => by rw [len_mkS]; exact h640 (by rw [tl_mkS] at z; exact z), fun H2 s2 => ⟨isInL 1 1000 (ws.getD 1 []), 0, 1, by rw [tl_mkS]; rfl, fun b1 => ?_, fun b1 => ?_⟩⟩
    · have eq2 := s2 _ _ eq1
      refine ⟨_, rfl, q, _, rfl, .inl (SqL.of eq2), rfl, decide (ws.length = 2), 0, 2, ?_, fun b2 => ?_, fun b2 => ?_⟩
      · show V.bl (decide (V.int ((((ws.map mkS).map V.str).length : Nat) : Int) = V.int 2)) :: _ = _
        rw [int_eqb, List.length_map, List.length_map]
        congr 2
        exact decide_eq_decide.mpr (by omega)
      · have b2' : ws.length = 2 := of_decide_eq_true b2
        have hno : manyF ws = none := by
          unfold manyF
          rw [if_neg (fun z => z b0'), if_neg (by rw [b1]; decide), if_neg (fun z => z b2')]
        have hsh : isShL (ws.getD 1 []) = true := by
          unfold isInL at b1
          rw [Bool.and_eq_true] at b1
          exact b1.1
        have hnum : isNumL (ws.getD 1 []) = true := by
          unfold isShL at hsh
          rw [Bool.and_eq_true] at hsh
          exact hsh.2
        have hiw := int_word (w := mkS (ws.getD 1 [])) (by rw [tl_mkS]; exact hnum) (by rw [len_mkS]; exact h640 hsh)
        rw [tl_mkS] at hiw
        exact ⟨_, rfl, q, _, 1, _, rfl, rfl, SqL.of eq2, atI_nat (j := 1) (strs_at (by omega)), _, _, rfl, hiw, by rw [len_mkS]; exact h640 hsh, k hno H2 s2⟩
      · refine (kb 2 ?_).same s2
        unfold manyF
        rw [if_neg (fun z => z b0'), if_neg (by rw [b1]; decide), if_pos (of_decide_eq_false b2)]
    · refine (kb 1 ?_).same s2
      unfold manyF
      rw [if_neg (fun z => z b0'), if_pos b1]
  · refine kb 0 ?_
    unfold manyF
    rw [if_pos (of_decide_eq_false b0)]
theorem ok_rmX {f fW fC fN : Addr} {fd dW dC dN : FuncData} (F : Fun K "read_many" "read_many" sRm f fd) (DW : Df P w K mg base CX0 1 "word_at" ["words", "place"] (spWordAt K) fW dW) (DC : Df P w K mg base (L2N.CX P w) 1 "check_word" ["holds", "line", "word"] (spCwX C) fC dC) (DN : Df P w K mg base CX0 4 "is_number_within" ["word", "low", "high"] spNin fN dN)
    {th : Tok} (mM : mg "MOST_PLATES" = some (.int 1000 th)) (ml : mg "len" = none) (mi : mg "int" = none) : FnOk P w K mg base (L2N.CX P w) 5 f fd ["lines"] (spRmX K C) := by
  refine F.okN scRm (fun vs H Q E h => ?_) (fun cdv A outer s H vs Q E hr h => ?_)
  · obtain ⟨p, ls, rfl, _⟩ := h
    rfl
  · obtain ⟨p, ls, rfl, hp, hl0, h640, kb, k⟩ := h
    have nd := scRm.nd
    have h1 : Room 1 _ := hr.mono (by decide)
    have h4 : Room 4 _ := hr.mono (by decide)
    obtain ⟨tr, pr, qr⟩ := rm_rest (P := P) (w := w) (K := K) (mg := mg) (base := base) (C := C) (f := f) (cdv := cdv) (A := A) (outer := outer) (s := s) (H0 := H) (E := E) DW DC DN mM ml mi h4
    refine ⟨_, pss_cons (ps_set (i := 1) nd rfl (.inl rfl) (pe_ifExp (pt_cmpR op_gt (pe_callB call_len_seq (by rfl) ml boot_len (pa_cons (pv 0) pa_nil)) pe_int (nomark _)) (pe_split (pe_ix ix_seq (pv 0) pe_int (fun _ _ => rfl)) pe_str) (pe_lst pa_nil))) pr, ?_⟩
    cases ls with
    | nil =>
      refine ⟨_, rfl, p, _, rfl, hp, _, _, rfl, rfl, _, rfl, ite2 (fun hc => absurd hc (by decide)) (fun _ => ⟨(by show 0 ≤ sizeLine; decide), fun q hq => ?_⟩)⟩
      exact qr _ _ p q [] upd_same (by decide) (fun z => absurd z (by decide)) (fun u z => (kb u z).same (same_upd hq)) fun z H' s' => k z H' ((same_upd hq).trans s')
    | cons l ls =>
      refine ⟨_, rfl, p, _, rfl, hp, _, _, rfl, rfl, _, rfl, ite2 (fun hc => ?_) (fun hc => absurd (decide_eq_true (by rw [strV_len, List.length_cons]; omega)) hc)⟩
      refine ⟨_, rfl, LT.ix hp (atI_nat (j := 0) rfl) ⟨⟨_, rfl⟩, mkS l, _, rfl, rfl, by decide +kernel, ?_, fun q hq => ?_⟩⟩
      · rw [len_mkS, sizeLine_eq]
        have h : l.length ≤ 90000 := hl0
        omega
      · have hsp : Txt.split (mkS l) (Str.ofString " ") = (wsL l).map mkS := split_ws l
        rw [hsp]
        exact qr _ _ p q (wsL l) upd_same (Nat.le_trans (ws_len l 1) hl0) h640 (fun u z => (kb u z).same (same_upd hq)) fun z H' s' => k z H' ((same_upd hq).trans s')
end
end Pf

set_option Elab.async false
set_option linter.all false
set_option maxRecDepth 100000
set_option maxHeartbeats 4000000
namespace Pf
open PySem PySem.Spec PyProof.Rows L2 TL
/-- which word of a further line is at fault; b: plates may stand here -/
def lineF (b : Bool) (low many : Int) (ws : List (List Nat)) : Option Int :=
  if (decide (ws.getD 0 [] = loW) || (b && decide (ws.getD 0 [] = plW))) = false then some 0
  else if isInL (if ws.getD 0 [] = plW then low else 0) (many - 1) (ws.getD 1 []) = false then some 1
  else if (isVL (ws.getD 2 []) && !(decide (ws.getD 0 [] = plW) && decide (ws.getD 2 [] = emptyL))) = false then some 2
  else if ws.length ≠ 3 then some 3 else none
def ksOf (b : Bool) : List Str := if b then [("plate" : Str), ("loose" : Str)] else [("loose" : Str)]
theorem ks_in (k : List Nat) (b : Bool) : inV (V.str (mkS k)) ((ksOf b).map V.str) = (decide (k = loW) || (b && decide (k = plW))) := by
  have h1 : ∀ (w : List Nat) (x : Str), tl x = w → eqV (V.str x) (V.str (mkS k)) = decide (k = w) := fun w x e => by
    show (x == mkS k) = _
    rw [str_beq, e, tl_mkS]
    exact decide_eq_decide.mpr ⟨Eq.symm, Eq.symm⟩
  have hp := h1 plW ("plate" : Str) tl_plW
  have hl := h1 loW ("loose" : Str) tl_loW
  unfold inV ksOf
  cases b
  · show (eqV (V.str ("loose" : Str)) (V.str (mkS k)) || false) = _
    rw [hl, Bool.or_false, Bool.false_and, Bool.or_false]
  · show (eqV (V.str ("plate" : Str)) (V.str (mkS k)) || (eqV (V.str ("loose" : Str)) (V.str (mkS k)) || false)) = _
    rw [hl, hp, Bool.or_false, Bool.true_and, Bool.or_comm]
/-- what a line must hold to be read at all by this text -/
structure LOk (ws : List (List Nat)) : Prop where
  a0 : ∀ c ∈ ws.getD 0 [], c < 128
  l1 : (ws.getD 1 []).length ≤ 640
  l2 : (ws.getD 2 []).length ≤ 90000
  a2 : ∀ c ∈ ws.getD 2 [], c < 128
def spRlX (K : PySem.W.Frag) (C : Addr) : Sp := fun vs H Q E => ∃ (ln low many : Int) (q kq : Addr) (ws : List (List Nat)) (b : Bool), vs = [.int ln, .ref q, .int low, .int many, .ref kq] ∧ SqL K H q ((ws.map mkS).map V.str) ∧ SqT K H kq ((ksOf b).map V.str) ∧ LOk ws ∧
  (∀ u, lineF b low many ws = some u → bad C ln u H E) ∧ (lineF b low many ws = none → ∃ o, ws.getD 2 [] = txO o ∧ OFew o ∧ ∀ t v H', Same H H' → SqT K H' t [.str (mkS (ws.getD 0 [])), .int (valL (ws.getD 1 [])), v] → Dp K (Tp H') v (dV o) → Q (.ref t) H')
section
variable {P : Program} {w : World} {K : PySem.W.Frag} {mg : Str → Option Value} {base : Heap} {C S fI : Addr}
theorem rlX_rest {f fW fC fN fV fO : Addr} {dW dC dN dV' dO : FuncData} {cdv : Value} {A : Around} {outer : List Env} {s : Shared} {H0 : Hp} {E : XK} (DW : Df P w K mg base CX0 1 "word_at" ["words", "place"] (spWordAt K) fW dW) (DC : Df P w K mg base (L2N.CX P w) 1 "check_word" ["holds", "line", "word"] (spCwX C) fC dC) (DN : Df P w K mg base CX0 4 "is_number_within" ["word", "low", "high"] spNin fN dN)
    (DV : Df P w K mg base CX0 4 "is_value_word" ["word"] spIvw fV dV') (DO : Df P w K mg base CX0 1 "value_of" ["word"] (spVo K) fO dO) (ml : mg "len" = none) (mi : mg "int" = none) (hr : Room 4 (A.deeper (envOfC "read_line" (defScope sRl) s.heap.objs.size f cdv))) :
    ∃ t, PSs (cxOf (L2N.CX P w) P w K mg base NRl "read_line" (defScope sRl) f cdv A outer s H0 E) [stRl 3, stRl 4, stRl 5, stRl 6, stRl 7] t ∧ ∀ (D : Ends) H (ln low many first : Int) (q kq : Addr) (ws : List (List Nat)) (b : Bool), SqL K H q ((ws.map mkS).map V.str) → LOk ws → (decide (ws.getD 0 [] = loW) || (b && decide (ws.getD 0 [] = plW))) = true → first = (if ws.getD 0 [] = plW then low else 0) →
      (∀ u, lineF b low many ws = some u → bad C ln u H E) → (lineF b low many ws = none → ∃ o, ws.getD 2 [] = txO o ∧ OFew o ∧ ∀ t v H', Same H H' → SqT K H' t [.str (mkS (ws.getD 0 [])), .int (valL (ws.getD 1 [])), v] → Dp K (Tp H') v (dV o) → D.rt (.ref t) H') →
      t D [some (.int ln), some (.ref q), some (.int low), some (.int many), some (.ref kq), some (.str (mkS (ws.getD 0 []))), some (.int first), none] H := by
  have nd := scRl.nd
  have h1 : Room 1 _ := hr.mono (by decide)
  refine ⟨_, pss_cons (ps_expr (pe_call (E := E) DC.G h1 rfl DC.g DC.kp DC.b .nil (L2N.passes_call (L2N.takes_of rfl rfl rfl rfl) (fun _ _ _ _ h => h)) (pa_cons (pe_call DN.G hr rfl DN.g DN.kp DN.b .nil pass0 (pa_cons (pe_call DW.G h1 rfl DW.g DW.kp DW.b .nil pass0 (pa_cons (pv 1) (pa_cons pe_int pa_nil))) (pa_cons (pv 6) (pa_cons (pe_op op_sub (pv 3) pe_int) pa_nil)))) (pa_cons (pv 0) (pa_cons pe_int pa_nil)))))
      (pss_cons (ps_set (i := 7) nd rfl (.inl rfl) (pe_call DW.G h1 rfl DW.g DW.kp DW.b .nil pass0 (pa_cons (pv 1) (pa_cons pe_int pa_nil))))
      (pss_cons (ps_expr (pe_call (E := E) DC.G h1 rfl DC.g DC.kp DC.b .nil (L2N.passes_call (L2N.takes_of rfl rfl rfl rfl) (fun _ _ _ _ h => h)) (pa_cons (pe_and (pe_call DV.G hr rfl DV.g DV.kp DV.b .nil pass0 (pa_cons (pv 7) pa_nil)) (pe_one (pe_cmpR (op_neD hr.units) (pe_tup (pa_cons (pv 5) (pa_cons (pv 7) pa_nil))) (pe_tup (pa_cons pe_str (pa_cons pe_str pa_nil))) (nomark _)))) (pa_cons (pv 0) (pa_cons pe_int pa_nil)))))
      (pss_cons (ps_expr (pe_call (E := E) DC.G h1 rfl DC.g DC.kp DC.b .nil (L2N.passes_call (L2N.takes_of rfl rfl rfl rfl) (fun _ _ _ _ h => h)) (pa_cons (pe_cmpR op_eq (pe_callB call_len_seq (by rfl) ml boot_len (pa_cons (pv 1) pa_nil)) pe_int (nomark _)) (pa_cons (pv 0) (pa_cons pe_int pa_nil)))))
      (pss_one (ps_ret (pe_tup (pa_cons (pv 5) (pa_cons (pe_callTy call_int_str (by rfl) mi boot_int (pa_cons (pe_ix ix_list (pv 1) pe_int (fun _ _ => rfl)) pa_nil)) (pa_cons (pe_call DO.G h1 rfl DO.g DO.kp DO.b .nil pass0 (pa_cons (pv 7) pa_nil)) pa_nil))))))))), fun D H ln low many first q kq ws b hq L hb0 hfi kb k => ?_⟩
  have hb0' : ¬ ((decide (ws.getD 0 [] = loW) || (b && decide (ws.getD 0 [] = plW))) = false) := by rw [hb0]; decide
  refine ⟨_, rfl, q, ws.map mkS, 1, rfl, hq, _, rfl, _, rfl, _, _, rfl, rfl, mkS (ws.getD 1 []), first, many - 1, by rw [getD_mk]; rfl, by rw [len_mkS]; have := L.l1; omega, fun _ => by rw [len_mkS]; exact L.l1, fun H1 s1 => ?_⟩
  rw [tl_mkS, hfi]
  refine ⟨_, rfl, isInL (if ws.getD 0 [] = plW then low else 0) (many - 1) (ws.getD 1 []), ln, 1, rfl, fun b1 => ?_, fun b1 => ?_⟩
  · have b1' : ¬ (isInL (if ws.getD 0 [] = plW then low else 0) (many - 1) (ws.getD 1 []) = false) := by rw [b1]; decide
    have hq1 := s1.seq hq
    refine ⟨_, rfl, q, ws.map mkS, 2, rfl, hq1, ?_⟩
    rw [getD_mk]
    obtain ⟨sp1, sp2⟩ := spl_bd [44] (ws.getD 2 []) 0 []
    have l2 := L.l2
    have l1 := L.l1
    refine ⟨_, rfl, mkS (ws.getD 2 []), rfl, by rw [len_mkS]; omega, fun p hp => ?_, ?_, fun H2 s2 => ?_⟩
    · rw [split_pt] at hp
      obtain ⟨p', hp', rfl⟩ := List.mem_map.mp hp
      have := sp2 p' hp'
      simp only [List.length_nil, Nat.zero_add] at this
      rw [len_mkS]
      omega
    · rw [split_pt, List.length_map]
      omega
    rw [isVS_L]
    have eqv2 : PyData.eqv (.tuple [.str (mkS (ws.getD 0 [])), .str (mkS (ws.getD 2 []))]) (.tuple [.str ("plate" : Str), .str ("empty" : Str)]) = (decide (ws.getD 0 [] = plW) && decide (ws.getD 2 [] = emptyL)) := by
      simp only [PyData.eqv, PyData.eqvAll, Bool.and_true]
      rw [str_beq, str_beq, tl_mkS, tl_mkS, tl_plW, tl_empty]
    have hq2 := s2.seq hq1
    cases hv : isVL (ws.getD 2 []) with
    | false =>
      refine ⟨_, rfl, iteF ⟨_, rfl, false, ln, 2, rfl, fun z => (by cases z), fun _ => ?_⟩⟩
      refine (kb 2 ?_).same (s1.trans s2)
      unfold lineF
      rw [if_neg hb0', if_neg b1', if_pos (by rw [hv]; rfl)]
    | true =>
    refine ⟨_, rfl, iteT ?_⟩
    refine ⟨_, rfl, _, rfl, (by show 2 ≤ sizeLine; decide), fun t1 ht1 => ⟨(by show 2 ≤ sizeLine; decide), fun t2 ht2 => ?_⟩⟩
    have u1 := same_upd (o := .tup [V.str (mkS (ws.getD 0 [])), V.str (mkS (ws.getD 2 []))]) ht1
    have u2 := same_upd (o := .tup [V.str ("plate" : Str), V.str ("empty" : Str)]) ht2
    have e1 := u2 _ _ (upd_same (H := H2) (a := t1) (o := .tup [V.str (mkS (ws.getD 0 [])), V.str (mkS (ws.getD 2 []))]))
    refine ⟨.tuple [.str (mkS (ws.getD 0 [])), .str (mkS (ws.getD 2 []))], .tuple [.str ("plate" : Str), .str ("empty" : Str)], .tup (SqT.of e1) (.cons (.str _) (.cons (.str _) .nil)), .tup (SqT.of upd_same) (.cons (.str _) (.cons (.str _) .nil)), shaped_two (strOk_mk L.a0) (strOk_mk L.a2), by decide +kernel, ?_⟩
    rw [eqv2]
    have s3 := (s1.trans s2).trans (u1.trans u2)
    generalize upd (upd H2 t1 (.tup [V.str (mkS (ws.getD 0 [])), V.str (mkS (ws.getD 2 []))])) t2 (.tup [V.str ("plate" : Str), V.str ("empty" : Str)]) = H3 at s3 ⊢
    have hq3 := s3.seq hq
    refine ⟨_, rfl, !(decide (ws.getD 0 [] = plW) && decide (ws.getD 2 [] = emptyL)), ln, 2, rfl, fun b2 => ?_, fun b2 => ?_⟩
    · have b2' : ¬ ((isVL (ws.getD 2 []) && !(decide (ws.getD 0 [] = plW) && decide (ws.getD 2 [] = emptyL))) = false) := by rw [hv, b2]; decide
      refine ⟨_, rfl, q, _, rfl, .inl hq3, rfl, _, rfl, decide (ws.length = 3), ln, 3, ?_, fun b3 => ?_, fun b3 => ?_⟩
      · show V.bl (decide (V.int ((((ws.map mkS).map V.str).length : Nat) : Int) = V.int 3)) :: _ = _
        rw [int_eqb, List.length_map, List.length_map]
        congr 2
        exact decide_eq_decide.mpr (by omega)
      · have b3' : ws.length = 3 := of_decide_eq_true b3
        have hno : lineF b low many ws = none := by
          unfold lineF
          rw [if_neg hb0', if_neg b1', if_neg b2', if_neg (fun z => z b3')]
        obtain ⟨o, ho, hfo, kk⟩ := k hno
        have hsh : isShL (ws.getD 1 []) = true := by
          unfold isInL at b1
          rw [Bool.and_eq_true] at b1
          exact b1.1
        have hnum : isNumL (ws.getD 1 []) = true := by
          unfold isShL at hsh
          rw [Bool.and_eq_true] at hsh
          exact hsh.2
        have hiw := int_word (w := mkS (ws.getD 1 [])) (by rw [tl_mkS]; exact hnum) (by rw [len_mkS]; exact l1)
        rw [tl_mkS] at hiw
        refine ⟨_, rfl, _, rfl, q, _, 1, _, rfl, rfl, hq3, atI_nat (j := 1) (strs_at (by omega)), _, _, rfl, hiw, by rw [len_mkS]; exact l1, _, rfl, mkS (ws.getD 2 []), o, rfl, by rw [tl_mkS, ho], hfo, fun v H4 s4 hv => ⟨(by show 3 ≤ sizeLine; decide), fun t ht => ?_⟩⟩
        have s5 := same_upd (o := .tup [V.str (mkS (ws.getD 0 [])), V.int (valL (ws.getD 1 [])), v]) ht
        exact kk t v _ ((s3.trans s4).trans s5) (SqT.of upd_same) (dp_same (tp_same s5) _ _ hv)
      · refine (kb 3 ?_).same s3
        unfold lineF
        rw [if_neg hb0', if_neg b1', if_neg b2', if_pos (of_decide_eq_false b3)]
    · refine (kb 2 ?_).same s3
      unfold lineF
      rw [if_neg hb0', if_neg b1', if_pos (by rw [hv, b2]; rfl)]
  · refine (kb 1 ?_).same s1
    unfold lineF
    rw [if_neg hb0', if_pos b1]
theorem ok_rlX {f fW fC fN fV fO : Addr} {fd dW dC dN dV' dO : FuncData} (F : Fun K "read_line" "read_line" sRl f fd) (DW : Df P w K mg base CX0 1 "word_at" ["words", "place"] (spWordAt K) fW dW) (DC : Df P w K mg base (L2N.CX P w) 1 "check_word" ["holds", "line", "word"] (spCwX C) fC dC) (DN : Df P w K mg base CX0 4 "is_number_within" ["word", "low", "high"] spNin fN dN)
    (DV : Df P w K mg base CX0 4 "is_value_word" ["word"] spIvw fV dV') (DO : Df P w K mg base CX0 1 "value_of" ["word"] (spVo K) fO dO) (ml : mg "len" = none) (mi : mg "int" = none) : FnOk P w K mg base (L2N.CX P w) 5 f fd ["line", "words", "low", "many", "kinds"] (spRlX K C) := by
  refine F.okN scRl (fun vs H Q E h => ?_) (fun cdv A outer s H vs Q E hr h => ?_)
  · obtain ⟨ln, low, many, q, kq, ws, b, rfl, _⟩ := h
    rfl
  · obtain ⟨ln, low, many, q, kq, ws, b, rfl, hq, hk, L, kb, k⟩ := h
    have nd := scRl.nd
    have h1 : Room 1 _ := hr.mono (by decide)
    have h4 : Room 4 _ := hr.mono (by decide)
    obtain ⟨tr, pr, qr⟩ := rlX_rest (P := P) (w := w) (K := K) (mg := mg) (base := base) (C := C) (f := f) (cdv := cdv) (A := A) (outer := outer) (s := s) (H0 := H) (E := E) DW DC DN DV DO ml mi h4
    refine ⟨_, pss_cons (ps_set (i := 5) nd rfl (.inl rfl) (pe_call DW.G h1 rfl DW.g DW.kp DW.b .nil pass0 (pa_cons (pv 1) (pa_cons pe_int pa_nil))))
      (pss_cons (ps_expr (pe_call (E := E) DC.G h1 rfl DC.g DC.kp DC.b .nil (L2N.passes_call (L2N.takes_of rfl rfl rfl rfl) (fun _ _ _ _ h => h)) (pa_cons (pe_cmpR op_in_seq (pv 5) (pv 4) (by rfl)) (pa_cons (pv 0) (pa_cons pe_int pa_nil)))))
      (pss_cons (ps_set (i := 6) nd rfl (.inl rfl) (pe_ifExp (pt_cmpR op_eq (pv 5) pe_str (nomark _)) (pv 2) pe_int)) pr)), ?_⟩
    refine ⟨_, rfl, q, ws.map mkS, 0, rfl, hq, ?_⟩
    rw [getD_mk]
    refine ⟨_, rfl, _, rfl, kq, _, rfl, .inr hk, rfl, ?_, ?_⟩
    · rw [List.all_map]
      exact List.all_eq_true.mpr fun _ _ => rfl
    refine ⟨_, rfl, decide (ws.getD 0 [] = loW) || (b && decide (ws.getD 0 [] = plW)), ln, 0, ?_, fun b0 => ?_, fun b0 => ?_⟩
    · have h9 : V.bl (if false = true then !inV (V.str (mkS (ws.getD 0 []))) ((ksOf b).map V.str) else inV (V.str (mkS (ws.getD 0 []))) ((ksOf b).map V.str)) = V.bl (decide (ws.getD 0 [] = loW) || (b && decide (ws.getD 0 [] = plW))) := by rw [if_neg (by decide), ks_in]
      show V.bl (if false = true then !inV (V.str (mkS (ws.getD 0 []))) ((ksOf b).map V.str) else inV (V.str (mkS (ws.getD 0 []))) ((ksOf b).map V.str)) :: _ = _
      rw [h9]
      rfl
    · refine ⟨_, rfl, rfl, ?_⟩
      have h8 : decide (V.str (mkS (ws.getD 0 [])) = V.str ("plate" : Str)) = decide (ws.getD 0 [] = plW) := by rw [str_eq, tl_mkS, tl_plW]
      refine ⟨_, rfl, ite2 (fun hc => ?_) (fun hc => ?_)⟩
      · have hc' : ws.getD 0 [] = plW := of_decide_eq_true (h8.symm.trans hc)
        exact ⟨_, rfl, qr _ H ln low many low q kq ws b hq L b0 (if_pos hc').symm kb k⟩
      · have hc' : ¬ ws.getD 0 [] = plW := fun z => hc (h8.trans (decide_eq_true z))
        exact qr _ H ln low many 0 q kq ws b hq L b0 (if_neg hc').symm kb k
    · refine kb 0 ?_
      unfold lineF
      rw [if_pos b0]
end
end Pf

set_option Elab.async false
set_option linter.all false
set_option maxRecDepth 100000
set_option maxHeartbeats 4000000
namespace Pf
open PySem PySem.Spec PyProof.Rows L2 TL
/-- a word of a value is one of the written ones -/
def Good (ws : List (List Nat)) : Prop := isVL (ws.getD 2 []) = true → ∃ o, ws.getD 2 [] = txO o ∧ OFew o
theorem line_ok {b : Bool} {low many : Int} {ws : List (List Nat)} (h : lineF b low many ws = none) : (ws.getD 0 [] = loW ∨ (b = true ∧ ws.getD 0 [] = plW)) ∧ (if ws.getD 0 [] = plW then low else 0) ≤ valL (ws.getD 1 []) ∧ valL (ws.getD 1 []) < many ∧ isVL (ws.getD 2 []) = true := by
  unfold lineF at h
  by_cases b0 : (decide (ws.getD 0 [] = loW) || (b && decide (ws.getD 0 [] = plW))) = false
  · rw [if_pos b0] at h; cases h
  rw [if_neg b0] at h
  by_cases b1 : isInL (if ws.getD 0 [] = plW then low else 0) (many - 1) (ws.getD 1 []) = false
  · rw [if_pos b1] at h; cases h
  rw [if_neg b1] at h
  by_cases b2 : (isVL (ws.getD 2 []) && !(decide (ws.getD 0 [] = plW) && decide (ws.getD 2 [] = emptyL))) = false
  · rw [if_pos b2] at h; cases h
  rw [Bool.not_eq_false] at b0 b1 b2
  unfold isInL at b1
  rw [Bool.and_eq_true, Bool.and_eq_true] at b1
  have h1 := of_decide_eq_true b1.2.1
  have h2 := of_decide_eq_true b1.2.2
  refine ⟨?_, h1, by omega, (Bool.and_eq_true_iff.mp b2).1⟩
  rw [Bool.or_eq_true] at b0
  rcases b0 with z | z
  · exact .inl (of_decide_eq_true z)
  · rw [Bool.and_eq_true] at z
    exact .inr ⟨z.1, of_decide_eq_true z.2⟩
section
variable {P : Program} {w : World} {K : PySem.W.Frag} {mg : Str → Option Value} {base : Heap} {C CD : Addr} {f : Addr} {cdv : Value} {A : Around} {outer : List Env} {s : Shared} {H0 : Hp} {E : XK}
theorem rdX_body {fR fW : Addr} {dR dW : FuncData} (T : DTxt K CD) (DR : Df P w K mg base (L2N.CX P w) 5 "read_line" ["line", "words", "low", "many", "kinds"] (spRlX K C) fR dR) (MW : Me P w K mg base 3 CD "write" ["self", "plate", "value"] (spWrO K CD) fW dW) (hr : Room 5 (A.deeper (envOfC "read_disk" (defScope sRdk) s.heap.objs.size f cdv))) :
    ∃ t, PSs (cxOf (L2N.CX P w) P w K mg base NRd "read_disk" (defScope sRdk) f cdv A outer s H0 E) [bRd 1, bRd 2] t ∧ ∀ (D : Ends) H (p d L kq : Addr) (n : Nat) (low : Int) (j : Nat) (lsx : List (List Nat)) (l : List Nat) (b : Bool) (os : List Ov) (ps qs : List (Int × Ov)) (y7 y8 y9 : Option V), LT K H p (strV lsx) → lsx[j]? = some l → l.length ≤ 80000 → SqT K H kq ((ksOf b).map V.str) → LOk (wsL l) → Good (wsL l) →
      OvAt K CD H d os ps → os.length = n → 0 ≤ low → ps.length ≤ 1000 → LqAt K H L qs → qs.length ≤ 1000 →
      (∀ u, lineF b low ((n : Nat) : Int) (wsL l) = some u → bad C ((j : Nat) : Int) u H E) →
      (lineF b low ((n : Nat) : Int) (wsL l) = none → (wsL l).getD 0 [] = loW → ∀ (i : Int) (o : Ov) y7 y8 y9 H', 0 ≤ i → i < ((n : Nat) : Int) → Fr [L] H H' → LqAt K H' L (qs ++ [(i, o)]) → D.nx [some (.ref p), some (.int ((n : Nat) : Int)), some (.ref d), some (.ref L), some (.int low), some (.int ((j : Nat) : Int)), some (.ref kq), y7, y8, y9] H') →
      (lineF b low ((n : Nat) : Int) (wsL l) = none → ¬ (wsL l).getD 0 [] = loW → ∀ (i : Int) (o : Ov) y7 y8 y9 H', i = valL ((wsL l).getD 1 []) → 0 ≤ i → i < ((n : Nat) : Int) → Fr [d] H H' → OvAt K CD H' d os (ps ++ [(i, o)]) → D.nx [some (.ref p), some (.int ((n : Nat) : Int)), some (.ref d), some (.ref L), some (.int (i + 1)), some (.int ((j : Nat) : Int)), some (.ref kq), y7, y8, y9] H') →
      t D [some (.ref p), some (.int ((n : Nat) : Int)), some (.ref d), some (.ref L), some (.int low), some (.int ((j : Nat) : Int)), some (.ref kq), y7, y8, y9] H := by
  have nd := scRd.nd
  have h3 : Room 3 _ := hr.mono (by decide)
  refine ⟨_, pss_cons (ps_asg (pe_call (E := E) DR.G hr rfl DR.g DR.kp DR.b .nil (L2N.passes_call (L2N.takes_of rfl rfl rfl rfl) (fun _ _ _ _ h => h)) (pa_cons (pv 5) (pa_cons (pe_split (pe_ix ix_seq (pv 0) (pv 5) (fun _ _ => rfl)) pe_str) (pa_cons (pv 4) (pa_cons (pv 1) (pa_cons (pv 6) pa_nil))))))
      (pg_tup rfl (pgs_cons (pg_name (i := 7) nd rfl (.inl rfl)) (pgs_cons (pg_name (i := 8) nd rfl (.inl rfl)) (pgs_cons (pg_name (i := 9) nd rfl (.inl rfl)) pgs_nil)))))
    (pss_one (ps_if (pt_cmpR op_eq (pv 7) pe_str (nomark _)) (pss_one (ps_expr (pe_bm PySem.F.plainAttrs_list PySem.F.slot_list_append PySem.F.type_list_append mt_append (pv 3) (pa_cons (pe_tup (pa_cons (pv 8) (pa_cons (pv 9) pa_nil))) pa_nil))))
      (pss_cons (ps_expr (pe_meth (pv 2) T.cl MW.m MW.G h3 MW.b .nil pass0 (pa_cons (pv 8) (pa_cons (pv 9) pa_nil)))) (pss_one (ps_set (i := 4) nd rfl (.inl rfl) (pe_op op_add (pv 8) pe_int)))))),
    fun D H p d L kq n low j lsx l b os ps qs y7 y8 y9 hp hl hll hk LO hG Dk hol hlow hpl Lq hql kb kl kp => ?_⟩
  refine ⟨_, rfl, _, rfl, _, rfl, LT.ix hp (atI_nat (j := j) (by unfold strV; rw [List.getElem?_map, hl]; rfl)) ⟨⟨_, rfl⟩, _, _, rfl, rfl, by decide +kernel, ?_, fun q hq => ?_⟩⟩
  · rw [len_mkS, sizeLine_eq]
    omega
  have hsp : Txt.split (mkS l) (Str.ofString " ") = (wsL l).map mkS := split_ws l
  rw [hsp]
  have s1 := same_upd (o := .lst (((wsL l).map mkS).map V.str)) hq
  have eq1 : (upd H q (.lst (((wsL l).map mkS).map V.str))) q = some (.lst (((wsL l).map mkS).map V.str)) := upd_same
  generalize upd H q (.lst (((wsL l).map mkS).map V.str)) = H1 at s1 eq1 ⊢
  refine ⟨_, rfl, _, rfl, _, rfl, ((j : Nat) : Int), low, ((n : Nat) : Int), q, kq, wsL l, b, rfl, SqL.of eq1, same_seqT s1 hk, LO, fun u hu => (kb u hu).same s1, fun hno => ?_⟩
  obtain ⟨c0, c1, c2, c3⟩ := line_ok hno
  obtain ⟨o, ho, hfo⟩ := hG c3
  refine ⟨o, ho, hfo, fun t v H2 s2 ht hv => ?_⟩
  have hi0 : 0 ≤ valL ((wsL l).getD 1 []) := by
    by_cases c : (wsL l).getD 0 [] = plW
    · rw [if_pos c] at c1; omega
    · rw [if_neg c] at c1; exact c1
  have s12 := s1.trans s2
  refine ⟨t, _, rfl, ht, rfl, _, _, rfl, _, _, rfl, _, _, rfl, rfl, ?_⟩
  have h8 : decide (V.str (mkS ((wsL l).getD 0 [])) = V.str ("loose" : Str)) = decide ((wsL l).getD 0 [] = loW) := by rw [str_eq, tl_mkS, tl_loW]
  generalize valL ((wsL l).getD 1 []) = i at hi0 c1 c2 ht kp
  refine ⟨_, rfl, rfl, _, rfl, ite2 (fun hc => ?_) (fun hc => ?_)⟩
  · have hc' : (wsL l).getD 0 [] = loW := of_decide_eq_true (h8.symm.trans hc)
    obtain ⟨us, eL, dL⟩ := id Lq
    have hul := dps_len dL
    rw [List.length_map] at hul
    refine ⟨_, rfl, .inl ⟨rfl, _, SqL.of (s12 _ _ eL)⟩, _, rfl, _, rfl, (by show 2 ≤ sizeLine; decide), fun b hb => ?_⟩
    have s3 := same_upd (o := .tup [V.int i, v]) hb
    have eL3 := s3 _ _ (s12 _ _ eL)
    have nbL : b ≠ L := fun z => by rw [z, s12 _ _ eL] at hb; cases hb
    refine ⟨L, us, _, rfl, rfl, eL3, by rw [sizeLine_eq]; omega, ?_⟩
    have s13 := s12.trans s3
    have fL : Fr [L] H (upd (upd H2 b (.tup [V.int i, v])) L (.lst (us ++ [V.ref b]))) := (Fr.of s13).trans (.put (by simp) fun u z => by rw [eL3] at z; cases z; rfl)
    refine kl hno hc' i o _ _ _ _ hi0 c2 fL ⟨_, upd_same, ?_⟩
    rw [List.map_append]
    have tb : Same (Tp H2) (Tp (upd (upd H2 b (.tup [V.int i, v])) L (.lst (us ++ [V.ref b])))) := (tp_same s3).trans (tp_put fun o q => by rw [eL3] at q; cases q; rfl)
    exact dps_app (dps_same fL.tp _ _ dL) (.cons (.tup (SqT.of (tp_at (by rw [upd_ne nbL, upd_same]) rfl)) (.cons (.int _) (.cons (dp_same tb _ _ hv) .nil))) .nil)
  · have hc' : ¬ (wsL l).getD 0 [] = loW := fun z => hc (h8.trans (decide_eq_true z))
    obtain ⟨sv, lv, ⟨dx, sa, la, ts, x1, _⟩, _⟩ := id Dk
    refine ⟨_, rfl, d, dx, _, rfl, s12 _ _ x1, fl_no _ _ _ (by decide +kernel) (by decide +kernel) (by decide +kernel), _, rfl, _, rfl, d, os, ps, i, v, o, rfl, Dk.same s12, hi0, by rw [hol]; exact c2, hpl, hv, fun H3 f3 D3 => ?_⟩
    exact ⟨_, rfl, _, _, rfl, rfl, kp hno hc' i o _ _ _ H3 rfl hi0 c2 ((Fr.of s12).trans f3) D3⟩
end
end Pf

set_option Elab.async false
set_option linter.all false
set_option maxRecDepth 100000
set_option maxHeartbeats 4000000
namespace Pf
open PySem PySem.Spec PyProof.Rows L2 TL
/-- the first fault of the further lines -/
def restF (many : Int) : Bool → Int → Int → List (List Nat) → Option (Int × Int)
  | _, _, _, [] => none
  | b, low, ln, l :: ls => match lineF b low many (wsL l) with
    | some u => some (ln, u)
    | none => if (wsL l).getD 0 [] = loW then restF many false low (ln + 1) ls else restF many b (valL ((wsL l).getD 1 []) + 1) (ln + 1) ls
def diskF (ls : List (List Nat)) : Option (Int × Int) := match manyF (headW ls) with
  | some u => some (0, u)
  | none => restF (valL ((headW ls).getD 1 [])) true 0 1 (ls.drop 1)
theorem many_ok {ws : List (List Nat)} (h : manyF ws = none) : ws.getD 0 [] = dkW ∧ 1 ≤ valL (ws.getD 1 []) ∧ valL (ws.getD 1 []) ≤ 1000 := by
  unfold manyF at h
  by_cases b0 : ws.getD 0 [] ≠ dkW
  · rw [if_pos b0] at h; cases h
  rw [if_neg b0] at h
  by_cases b1 : isInL 1 1000 (ws.getD 1 []) = false
  · rw [if_pos b1] at h; cases h
  rw [Bool.not_eq_false] at b1
  unfold isInL at b1
  rw [Bool.and_eq_true, Bool.and_eq_true] at b1
  exact ⟨Decidable.byContradiction b0, of_decide_eq_true b1.2.1, of_decide_eq_true b1.2.2⟩
/-- what the lines must be to be read by this text -/
structure LnsOk (ls : List (List Nat)) : Prop where
  n : ls.length ≤ 900
  l0 : (ls.getD 0 []).length ≤ 90000
  s0 : isShL ((headW ls).getD 1 []) = true → ((headW ls).getD 1 []).length ≤ 640
  ok : ∀ l ∈ ls.drop 1, l.length ≤ 80000 ∧ LOk (wsL l) ∧ Good (wsL l)
def spRdX (K : PySem.W.Frag) (C : Addr) : Sp := fun vs H Q E => ∃ (p : Addr) (ls : List (List Nat)), vs = [.ref p] ∧ LT K H p (strV ls) ∧ LnsOk ls ∧ (∀ x, diskF ls = some x → bad C x.1 x.2 H E) ∧ (diskF ls = none → ∀ d H', Same H H' → H d = none → Q (.ref d) H')
section
variable {P : Program} {w : World} {K : PySem.W.Frag} {mg : Str → Option Value} {base : Heap} {C CD : Addr}
theorem ok_rdX {f fM fI fR fW fB : Addr} {fd dM dI dR dW dB : FuncData} (F : Fun K "read_disk" "read_disk" sRdk f fd) (T : DTxt K CD) (DM : Df P w K mg base (L2N.CX P w) 5 "read_many" ["lines"] (spRmX K C) fM dM) (MI : MkO P w K mg base CD fI dI) (DR : Df P w K mg base (L2N.CX P w) 5 "read_line" ["line", "words", "low", "many", "kinds"] (spRlX K C) fR dR)
    (MW : Me P w K mg base 3 CD "write" ["self", "plate", "value"] (spWrO K CD) fW dW) (MB : Me P w K mg base 1 CD "barrier" ["self"] (spBrO K CD) fB dB) (ml : mg "len" = none) (mr : mg "range" = none) : FnOk P w K mg base (L2N.CX P w) 6 f fd ["lines"] (spRdX K C) := by
  refine F.okN scRd (fun vs H Q E h => ?_) (fun cdv A outer s H vs Q E hr h => ?_)
  · obtain ⟨p, ls, rfl, _⟩ := h
    rfl
  · obtain ⟨p, ls, rfl, hp, LK, kb, k⟩ := h
    have nd := scRd.nd
    have h1 : Room 1 _ := hr.mono (by decide)
    have h2 : Room 2 _ := hr.mono (by decide)
    have h3 : Room 3 _ := hr.mono (by decide)
    obtain ⟨tb, pb, qb⟩ := rdX_body (P := P) (w := w) (K := K) (mg := mg) (base := base) (C := C) (f := f) (cdv := cdv) (A := A) (outer := outer) (s := s) (H0 := H) (E := E) T DR MW hr
    refine ⟨_, pss_cons (ps_set (i := 1) nd rfl (.inl rfl) (pe_call (E := E) DM.G hr rfl DM.g DM.kp DM.b .nil (L2N.passes_call (L2N.takes_of rfl rfl rfl rfl) (fun _ _ _ _ h => h)) (pa_cons (pv 0) pa_nil)))
      (pss_cons (ps_set (i := 2) nd rfl (.inl rfl) (pe_make MI.M MI.G h2 rfl MI.g MI.b .nil pass0 (pa_cons (pv 1) pa_nil)))
      (pss_cons (ps_set (i := 3) nd rfl (.inl rfl) (pe_lst pa_nil))
      (pss_cons (ps_set (i := 4) nd rfl (.inl rfl) pe_int)
      (pss_cons (ps_for (passes_of rfl) rfl (pi_range2 (by rfl) mr (pa_cons pe_int (pa_cons (pe_callB call_len_seq (by rfl) ml boot_len (pa_cons (pv 0) pa_nil)) pa_nil))) (pg_name (i := 5) nd rfl (.inl rfl))
        (pss_cons (ps_set (i := 6) nd rfl (.inl rfl) (pe_ifExp (pt_cmpR op_eq (pe_callB call_len_seq (by rfl) ml boot_len (pa_cons (pv 3) pa_nil)) pe_int (nomark _)) (pe_tup (pa_cons pe_str (pa_cons pe_str pa_nil))) (pe_tup (pa_cons pe_str pa_nil)))) pb))
      (pss_cons (ps_expr (pe_meth0 (pv 2) T.cl MB.m MB.G h1 MB.b .nil pass0))
      (pss_cons (ps_for (passes_of rfl) rfl (pi_list (pv 3)) (pg_tup rfl (pgs_cons (pg_name (i := 8) nd rfl (.inl rfl)) (pgs_cons (pg_name (i := 9) nd rfl (.inl rfl)) pgs_nil)))
        (pss_one (ps_expr (pe_meth (pv 2) T.cl MW.m MW.G h3 MW.b .nil pass0 (pa_cons (pv 8) (pa_cons (pv 9) pa_nil))))))
      (pss_one (ps_ret (pv 2))))))))), ?_⟩
    refine ⟨_, rfl, p, ls, rfl, hp, LK.l0, LK.s0, fun u hu => kb (0, u) (by unfold diskF; rw [hu]), fun hno H1 s1 => ?_⟩
    obtain ⟨m0, m1, m2⟩ := many_ok hno
    have edF : diskF ls = restF (valL ((headW ls).getD 1 [])) true 0 1 (ls.drop 1) := by unfold diskF; rw [hno]
    obtain ⟨n, hn⟩ : ∃ n : Nat, valL ((headW ls).getD 1 []) = ((n : Nat) : Int) := ⟨(valL ((headW ls).getD 1 [])).toNat, by omega⟩
    rw [hn] at edF m1 m2 ⊢
    have n1 : 1 ≤ n := by omega
    have n2 : n ≤ 1000 := by omega
    have hls : 1 ≤ ls.length := by
      cases ls with
      | nil => exact absurd m0 (by decide)
      | cons a b => simp
    have hn9 := LK.n
    refine ⟨_, rfl, fun d dx hd hdx hne => ?_⟩
    have sd : Same H1 (upd (upd H1 dx (.own d)) d (.ins CD dx [])) := fun b o z => by
      rw [upd_ne (ne_of_none z hd), upd_ne (ne_of_none z hdx)]
      exact z
    refine ⟨d, dx, n, rfl, upd_same, n1, n2, fun H3 b3 Dk3 => ⟨rfl, ?_⟩⟩
    have s3 : Same H1 H3 := fun b o z => b3.at (sd _ _ z) (by simp only [List.mem_cons, List.not_mem_nil, or_false]; exact ne_of_none z hd)
    refine ⟨(by show 0 ≤ sizeLine; decide), fun L hL => ?_⟩
    have s4 := same_upd (o := .lst []) hL
    have s04 := (s1.trans s3).trans s4
    have hdH : H d = none := s1.free hd
    have hLH : H L = none := (s1.trans s3).free hL
    have eL0 : (upd H3 L (.lst [])) L = some (.lst []) := upd_same
    have Dk4 := Dk3.same s4
    generalize upd H3 L (.lst []) = H4 at s4 s04 eL0 Dk4 ⊢
    have hp4 := hp.same s04
    have hrep : (List.replicate n (some []) : List Ov).length = n := List.length_replicate
    have LL0 : LqAt K H4 L [] := ⟨[], eL0, .nil⟩
    have hlv : (strV ls).length = ls.length := strV_len _
    generalize elv : strV ls = lv at hp4 hlv
    have hNL : (((lv.length : Nat) : Int) - 1).toNat = ls.length - 1 := by omega
    refine ⟨_, rfl, p, lv, rfl, hp4, 1, _, rfl, ⟨by decide, by decide, by omega, by omega⟩, for_range (lo := 1) (n := (((lv.length : Nat) : Int) - 1).toNat) (fun j σ' Hx => ∃ (low : Int) (b : Bool) (ps qs : List (Int × Ov)) (y5 y6 y7 y8 y9 : Option V), σ' = [some (.ref p), some (.int ((n : Nat) : Int)), some (.ref d), some (.ref L), some (.int low), y5, y6, y7, y8, y9] ∧ Same H Hx ∧ OvAt K CD Hx d (List.replicate n (some [])) ps ∧ LqAt K Hx L qs ∧ ps.length ≤ j ∧ qs.length ≤ j ∧ 0 ≤ low ∧ b = decide (qs.length = 0) ∧
        (∀ q ∈ ps, 0 ≤ q.1 ∧ q.1 < ((n : Nat) : Int)) ∧ (∀ q ∈ qs, 0 ≤ q.1 ∧ q.1 < ((n : Nat) : Int)) ∧ diskF ls = restF ((n : Nat) : Int) b low ((1 + j : Nat) : Int) (ls.drop (1 + j)))
      ⟨0, true, [], [], none, none, none, none, none, rfl, s04, Dk4, LL0, Nat.zero_le _, Nat.zero_le _, Int.le_refl _, rfl, fun _ z => (by cases z), fun _ z => (by cases z), edF⟩ ?_ ?_⟩
    · rintro j σ' Hx hj ⟨low, b, ps, qs, y5, y6, y7, y8, y9, rfl, sx, Dx, Lx, hpl, hql, hlow, hb, hps, hqs, hF⟩
      rw [hNL] at hj
      obtain ⟨us, eL, dL⟩ := id Lx
      have hul := dps_len dL
      rw [List.length_map] at hul
      have hpx := hp.same sx
      have ej : (1 : Int) + ((j : Nat) : Int) = (((1 + j : Nat)) : Int) := by omega
      have hlj : ls[1 + j]? = some ls[1 + j] := List.getElem?_eq_getElem (by omega)
      generalize ls[1 + j] = l at hlj
      have hdr : ls.drop (1 + j) = l :: ls.drop (1 + (j + 1)) := by
        have h9 := (List.getElem?_eq_some_iff.mp hlj)
        rw [List.drop_eq_getElem_cons h9.1, h9.2]
        rfl
      have hlm : l ∈ ls.drop 1 := by
        have h9 : (ls.drop 1)[j]? = some l := by rw [List.getElem?_drop]; exact hlj
        exact List.mem_of_getElem? h9
      obtain ⟨g1, g2, g3⟩ := LK.ok l hlm
      rw [hdr] at hF
      have ej2 : (((1 + j : Nat)) : Int) + 1 = (((1 + (j + 1) : Nat)) : Int) := by omega
      have body : ∀ (D' : Ends) (Hy : Hp) (kq : Addr), (∀ (low : Int) (b : Bool) (ps qs : List (Int × Ov)) (y5 y6 y7 y8 y9 : Option V) (Hx : Hp), Same H Hx → OvAt K CD Hx d (List.replicate n (some [])) ps → LqAt K Hx L qs → ps.length ≤ j + 1 → qs.length ≤ j + 1 → 0 ≤ low → b = decide (qs.length = 0) → (∀ q ∈ ps, 0 ≤ q.1 ∧ q.1 < ((n : Nat) : Int)) → (∀ q ∈ qs, 0 ≤ q.1 ∧ q.1 < ((n : Nat) : Int)) → diskF ls = restF ((n : Nat) : Int) b low ((1 + (j + 1) : Nat) : Int) (ls.drop (1 + (j + 1))) → D'.nx [some (.ref p), some (.int ((n : Nat) : Int)), some (.ref d), some (.ref L), some (.int low), y5, y6, y7, y8, y9] Hx) →
          Same Hx Hy → SqT K Hy kq ((ksOf b).map V.str) →
          tb D' [some (.ref p), some (.int ((n : Nat) : Int)), some (.ref d), some (.ref L), some (.int low), some (.int (((1 + j : Nat)) : Int)), some (.ref kq), y7, y8, y9] Hy := by
        intro D' Hy kq kD sy hk
        have sHy := sx.trans sy
        have hpy := hp.same sHy
        have Dy := Dx.same sy
        have Ly : LqAt K Hy L qs := ⟨us, sy _ _ eL, dps_same (tp_same sy) _ _ dL⟩
        obtain ⟨dxy, fsy, edy⟩ := ov_obj Dy
        have nLd : L ≠ d := fun z => by rw [z] at eL; rw [sy _ _ eL] at edy; cases edy
        refine qb D' Hy p d L kq n low (1 + j) ls l b (List.replicate n (some [])) ps qs y7 y8 y9 hpy hlj g1 hk g2 g3 Dy hrep hlow (by omega) Ly (by omega) (fun u hu => ?_) (fun hno9 hlo i o y7 y8 y9 H' i0 i1 f' L2 => ?_) (fun hno9 hlo i o y7 y8 y9 H' ei i0 i1 f' D2 => ?_)
        · refine (kb ((((1 + j : Nat)) : Int), u) ?_).same sHy
          rw [hF]
          unfold restF
          rw [hu]
        · have sH' : Same H H' := fun b o z => (((Fr.of (cs := [L]) sHy).trans f').drop (cs := []) fun c hc => .inr (by rw [List.mem_singleton.mp hc]; exact hLH)) b o z (.inl (by simp))
          refine kD low false ps (qs ++ [(i, o)]) _ _ _ _ _ H' sH' (Dy.fr f' (by simp [nLd.symm])) L2 (by omega) (by rw [List.length_append]; simp; omega) hlow (by simp) hps (fun q hq => ?_) ?_
          · rcases List.mem_append.mp hq with z | z
            · exact hqs q z
            · rw [List.mem_singleton.mp z]; exact ⟨i0, i1⟩
          · rw [hF]
            conv => lhs; unfold restF
            rw [hno9]
            show (if (wsL l).getD 0 [] = loW then _ else _) = _
            rw [if_pos hlo, ej2]
        · have sH' : Same H H' := fun b o z => (((Fr.of (cs := [d]) sHy).trans f').drop (cs := []) fun c hc => .inr (by rw [List.mem_singleton.mp hc]; exact hdH)) b o z (.inl (by simp))
          refine kD (i + 1) b (ps ++ [(i, o)]) qs _ _ _ _ _ H' sH' D2 ⟨us, f'.at (sy _ _ eL) (by simp [nLd]), dps_same f'.tp _ _ (dps_same (tp_same sy) _ _ dL)⟩ (by rw [List.length_append]; simp; omega) (by omega) (by omega) hb (fun q hq => ?_) hqs ?_
          · rcases List.mem_append.mp hq with z | z
            · exact hps q z
            · rw [List.mem_singleton.mp z]; exact ⟨i0, i1⟩
          · rw [hF]
            conv => lhs; unfold restF
            rw [hno9]
            show (if (wsL l).getD 0 [] = loW then _ else _) = _
            rw [if_neg hlo, ej2, ← ei]
      rw [ej]
      refine ⟨_, rfl, L, us, rfl, .inl (SqL.of eL), rfl, _, rfl, ite2 (fun hc => ?_) (fun hc => ?_)⟩
      · have hc' : qs.length = 0 := by
          have h9 : decide (V.int ((us.length : Nat) : Int) = V.int 0) = true := hc
          rw [int_eqb] at h9
          have := of_decide_eq_true h9
          omega
        have hbt : b = true := by rw [hb, decide_eq_true hc']
        refine ⟨(by show 2 ≤ sizeLine; decide), fun kq hkq => ?_⟩
        have sk := same_upd (o := .tup [V.str ("plate" : Str), V.str ("loose" : Str)]) hkq
        exact body _ _ kq (fun low b ps qs y5 y6 y7 y8 y9 Hz h1 h2 h3 h4 h5 h6 h7 h8 h9 h10 => ⟨low, b, ps, qs, y5, y6, y7, y8, y9, rfl, h1, h2, h3, h4, h5, h6, h7, h8, h9, h10⟩) sk (by rw [hbt]; exact SqT.of upd_same)
      · have hc' : ¬ qs.length = 0 := fun z => hc (by
          show decide (V.int ((us.length : Nat) : Int) = V.int 0) = true
          rw [int_eqb]
          exact decide_eq_true (by omega))
        have hbt : b = false := by rw [hb, decide_eq_false hc']
        refine ⟨(by show 1 ≤ sizeLine; decide), fun kq hkq => ?_⟩
        have sk := same_upd (o := .tup [V.str ("loose" : Str)]) hkq
        exact body _ _ kq (fun low b ps qs y5 y6 y7 y8 y9 Hz h1 h2 h3 h4 h5 h6 h7 h8 h9 h10 => ⟨low, b, ps, qs, y5, y6, y7, y8, y9, rfl, h1, h2, h3, h4, h5, h6, h7, h8, h9, h10⟩) sk (by rw [hbt]; exact SqT.of upd_same)
    · rintro σ' Hx ⟨low, b, ps, qs, y5, y6, y7, y8, y9, rfl, sx, Dx, Lx, hpl, hql, hlow, hb, hps, hqs, hF⟩
      rw [hNL] at hF hpl hql
      have hno9 : diskF ls = none := by
        rw [hF, List.drop_eq_nil_of_le (by omega)]
        unfold restF
        rfl
      obtain ⟨sv, lv2, ⟨dx2, sa, la, ts, x1, _⟩, _⟩ := id Dx
      obtain ⟨us, eL, dL⟩ := id Lx
      refine ⟨_, rfl, d, dx2, _, rfl, x1, fl_no _ _ _ (by decide +kernel) (by decide +kernel) (by decide +kernel), d, _, ps, rfl, Dx, fun q hq9 => by rw [hrep]; exact hps q hq9, by rw [hrep]; exact n2, fun H5 f5 D5 => ?_⟩
      have nLd : L ≠ d := fun z => by rw [z, x1] at eL; cases eL
      have eL5 := f5.at eL (by simp [nLd])
      have dL5 := dps_same f5.tp _ _ dL
      have hul := dps_len dL
      rw [List.length_map] at hul
      have hos : (settleO (List.replicate n (some [])) ps).length = n := by rw [settleO_len, hrep]
      generalize settleO (List.replicate n (some [])) ps = os at D5 hos
      have s5 : Same H H5 := fun b o z => (((Fr.of (cs := [d]) sx).trans f5).drop (cs := []) fun c hc => .inr (by rw [List.mem_singleton.mp hc]; exact hdH)) b o z (.inl (by simp))
      refine ⟨_, rfl, L, rfl, ⟨us, SqL.of eL5⟩, for_list (K := K) (a := L) (xs := us) (fun i σ' Hz => ∃ (y8 y9 : Option V), σ' = [some (.ref p), some (.int ((n : Nat) : Int)), some (.ref d), some (.ref L), some (.int low), y5, y6, y7, y8, y9] ∧ Same H Hz ∧ Fr [d] H5 Hz ∧ OvAt K CD Hz d os (qs.take i))
        ⟨_, _, rfl, s5, .of (Same.refl _), D5⟩ (fun i σ' Hz _ z => by obtain ⟨_, _, _, _, z, _⟩ := z; exact SqL.of (z.at eL5 (by simp [nLd]))) ?_ ?_⟩
      · rintro i x σ' Hz hi ⟨y8, y9, rfl, sz, fz, Dz⟩
        obtain ⟨e, he, hd9⟩ := dps_get dL5 hi
        rw [List.getElem?_map] at he
        cases hqi : qs[i]? with
        | none => rw [hqi] at he; cases he
        | some q =>
        rw [hqi] at he
        cases (Option.some.inj he)
        have hqm := hqs q (List.mem_of_getElem? hqi)
        cases hd9 with
        | @tup b xs _ hb hxs =>
        cases hxs with
        | cons h1 h2 =>
        cases h1 with
        | int =>
        cases h2 with
        | @cons v9 _ _ _ h3 h4 =>
        cases h4
        have hbz := same_seqT (tp_le) (same_seqT fz.tp hb)
        obtain ⟨sv9, lv9, ⟨dx9, sa9, la9, ts9, x9, _⟩, _⟩ := id Dz
        refine ⟨b, _, rfl, hbz, rfl, _, _, rfl, _, _, rfl, rfl, _, rfl, d, dx9, _, rfl, x9, fl_no _ _ _ (by decide +kernel) (by decide +kernel) (by decide +kernel), _, rfl, _, rfl, d, os, qs.take i, q.1, v9, q.2, rfl, Dz, hqm.1, by rw [hos]; exact hqm.2, by rw [List.length_take]; omega, dp_same fz.tp _ _ h3, fun H7 f7 D7 => ?_⟩
        refine ⟨_, _, rfl, fun b o z => (((Fr.of (cs := [d]) sz).trans f7).drop (cs := []) fun c hc => .inr (by rw [List.mem_singleton.mp hc]; exact hdH)) b o z (.inl (by simp)), fz.trans f7, ?_⟩
        rw [List.take_add_one, hqi]
        exact D7
      · rintro σ' Hz ⟨y8, y9, rfl, sz, fz, Dz⟩
        exact ⟨_, rfl, k hno9 d Hz sz hdH⟩
end
end Pf

set_option Elab.async false
set_option linter.all false
set_option maxRecDepth 100000
set_option maxHeartbeats 4000000
namespace Pf
open PySem PySem.Spec PyProof.Rows L2 TL
abbrev NFl : List Str := ["lines", "fault"]
theorem scFl : FnScope NFl ["lines"] (defScope sFault) := ⟨rfl, rfl, rfl, by decide +kernel, rfl, by decide +kernel, by decide +kernel⟩
def spFl (K : PySem.W.Frag) : Sp := fun vs H Q _ => ∃ (p : Addr) (ls : List (List Nat)), vs = [.ref p] ∧ LT K H p (strV ls) ∧ LnsOk ls ∧ (∀ x, diskF ls = some x → ∀ t H', Same H H' → H' t = some (.tup [.int x.1, .int x.2]) → Q (.ref t) H') ∧ (diskF ls = none → ∀ H', Same H H' → Q .non H')
theorem look_line (a b : V) : List.lookup ("line" : Str) [(("word" : Str), a), (("line" : Str), b)] = some b := by
  have h : (("line" : Str) == ("word" : Str)) = false := by decide +kernel
  simp [List.lookup, h]
section
variable {P : Program} {w : World} {K : PySem.W.Frag} {mg : Str → Option Value} {base : Heap} {C S fI : Addr}
theorem ok_fl {f fR : Addr} {fd dR : FuncData} (F : Fun K "_law_fault" "_law_fault" sFault f fd) (R : BiTx K mg C S fI) (XF : XfC K C) (mRR : PySem.W.exmOne K (.ref C) (.ref C) = some true) (DR : Df P w K mg base (L2N.CX P w) 6 "read_disk" ["lines"] (spRdX K C) fR dR) : FnOk P w K mg base CX0 7 f fd ["lines"] (spFl K) := by
  refine F.ok scFl (fun vs H Q E h => ?_) (fun cdv A outer s H vs Q E hr h => ?_)
  · obtain ⟨p, ls, rfl, _⟩ := h
    rfl
  · obtain ⟨p, ls, rfl, hp, LK, kb, k⟩ := h
    have nd := scFl.nd
    refine ⟨_, pss_cons (L2N.ps_try_as (i := 1) (tb := fun W => tDrop (tCallS (spRdX K C) (WE W) (tCons (tVar 0) tNil)))
        (ts := fun a cls d => tRet (tTup (tCons (tXf a cls d C "line" (tVar 1)) (tCons (tXf a cls d C "word" (tVar 1)) tNil))))
        (Wout := fun _ _ _ _ => False) rfl rfl nd rfl rfl ⟨rfl, by decide, .inl R.g⟩ takesN
        (fun W pn xe tk _ => pss_one (ps_expr (by exact (pe_callS DR.G hr rfl DR.g DR.kp DR.b (fun σ => L2N.passAt tk σ) (by exact (pa_cons (pv 0) pa_nil))))))
        (fun ax oe cls d pn hz hf => pss_one (ps_ret (pe_tup (pa_cons (pe_xf XF R.T.noL hz.zc hf (pv 1)) (pa_cons (pe_xf XF R.T.noW hz.zc hf (pv 1)) pa_nil))))))
      (pss_one (ps_ret pe_non)), ?_⟩
    refine ⟨_, rfl, p, ls, rfl, hp, LK, fun x hx H' dd s1 hdd edd => ⟨true, mRR, fun _ ax hax => ?_, fun z => Bool.noConfusion z⟩, fun hno d H' s1 hd => k hno H' s1⟩
    exact ⟨_, rfl, rfl, rfl, dd, _, _, rfl, edd, look_line _ _, _, rfl, rfl, rfl, dd, _, _, rfl, edd, rfl, (by show 2 ≤ sizeLine; decide), fun t ht => kb x hx t _ (s1.trans (same_upd ht)) upd_same⟩
end
end Pf

set_option Elab.async false
set_option linter.all false
set_option maxRecDepth 100000
set_option maxHeartbeats 8000000
namespace Pf
open PySem PySem.Spec PyProof.Rows L2 TL
theorem ws_join {ps : List (List Nat)} (hn : ps ≠ []) (h : ∀ p ∈ ps, 32 ∉ p) : wsL (joinL [32] ps) = ps := spl_join hn h
theorem ws_ln {kw : List Nat} (hk : 32 ∉ kw) (i : Int) (o : Ov) : wsL (kw ++ [32] ++ iL i ++ [32] ++ txO o) = [kw, iL i, txO o] := by
  have h := ws_join (ps := [kw, iL i, txO o]) (by simp) (fun p hp => by
    rcases List.mem_cons.mp hp with z | z
    · rw [z]; exact hk
    · rcases List.mem_cons.mp z with z | z
      · rw [z]; exact iL_no32 i
      · rw [List.mem_singleton.mp z]; exact tx_no32 o)
  have e : joinL [32] [kw, iL i, txO o] = kw ++ [32] ++ iL i ++ [32] ++ txO o := by
    show kw ++ ([32] ++ (iL i ++ ([32] ++ txO o))) = _
    simp
  rw [e] at h
  exact h
theorem ws_P (i : Int) (o : Ov) : wsL (lnP i o) = [plW, iL i, txO o] := ws_ln (kw := plW) (by decide) i o
theorem ws_Lo (i : Int) (o : Ov) : wsL (lnL i o) = [loW, iL i, txO o] := ws_ln (kw := loW) (by decide) i o
theorem ws_D (n : Int) : wsL (lnD n) = [dkW, iL n] := ws_join (ps := [dkW, iL n]) (by simp) (fun p hp => by
  rcases List.mem_cons.mp hp with z | z
  · rw [z]; decide
  · rw [List.mem_singleton.mp z]; exact iL_no32 n)
theorem vl_tx {o : Ov} (h : OFew o) : isVL (txO o) = true := by
  have := isVS_tx h (tl_mkS (txO o))
  rw [isVS_L] at this
  exact this
theorem emp_tx {o : Ov} (h : txO o = emptyL) : o = some [] := by
  cases o with
  | none => exact absurd h (by decide)
  | some ns =>
    by_cases hn : ns = []
    · rw [hn]
    · exact absurd ((if_neg hn : txO (some ns) = joinL [44] (ns.map iL)).symm.trans h) (txN_ne_empty hn)
theorem line_P {b : Bool} {low many i : Int} {o : Ov} (hb : b = true) (hi : Few i) (h1 : low ≤ i) (h2 : i < many) (ho : OFew o) (hne : o ≠ some []) : lineF b low many [plW, iL i, txO o] = none := by
  unfold lineF
  rw [hb]
  show (if (decide (plW = loW) || (true && decide (plW = plW))) = false then some 0 else if isInL (if plW = plW then low else 0) (many - 1) (iL i) = false then some 1 else if (isVL (txO o) && !(decide (plW = plW) && decide (txO o = emptyL))) = false then some 2 else if 3 ≠ 3 then some 3 else none) = _
  rw [if_pos (show plW = plW from rfl), inL_few hi h1 (by omega), vl_tx ho, decide_eq_false (fun z => hne (emp_tx z))]
  rfl
theorem line_L {b : Bool} {low many i : Int} {o : Ov} (hi : Few i) (h1 : 0 ≤ i) (h2 : i < many) (ho : OFew o) : lineF b low many [loW, iL i, txO o] = none := by
  unfold lineF
  show (if (decide (loW = loW) || (b && decide (loW = plW))) = false then some 0 else if isInL (if loW = plW then low else 0) (many - 1) (iL i) = false then some 1 else if (isVL (txO o) && !(decide (loW = plW) && decide (txO o = emptyL))) = false then some 2 else if 3 ≠ 3 then some 3 else none) = _
  rw [if_neg (show ¬ loW = plW by decide), inL_few hi h1 (by omega), vl_tx ho, decide_eq_true (rfl : loW = loW), decide_eq_false (show ¬ loW = plW by decide)]
  cases b <;> rfl
theorem few_lt {i : Int} {n : Nat} (h0 : 0 ≤ i) (h1 : i < ((n : Nat) : Int)) (hn : n ≤ 1000) : Few i := by
  have e : i = ((i.toNat : Nat) : Int) := (Int.toNat_of_nonneg h0).symm
  rw [e]
  exact few_nat (by omega)
/-- behind the good plate lines -/
theorem rest_P {n : Nat} (hn : n ≤ 1000) (rest : List (List Nat)) : ∀ (pl : List (Int × Ov)) (low ln : Int), (pl.map (·.1)).Pairwise (· < ·) → (∀ q ∈ pl, low ≤ q.1 ∧ 0 ≤ q.1 ∧ q.1 < ((n : Nat) : Int) ∧ OFew q.2 ∧ q.2 ≠ some []) →
    ∃ low', restF ((n : Nat) : Int) true low ln (pl.map (fun q => lnP q.1 q.2) ++ rest) = restF ((n : Nat) : Int) true low' (ln + ((pl.length : Nat) : Int)) rest
  | [], low, ln, _, _ => ⟨low, by simp⟩
  | q :: pl, low, ln, hp, h => by
    obtain ⟨h1, h2, h3, h4, h5⟩ := h q List.mem_cons_self
    have hp' : (∀ a ∈ pl.map (·.1), q.1 < a) ∧ (pl.map (·.1)).Pairwise (· < ·) := List.pairwise_cons.mp hp
    obtain ⟨low', e⟩ := rest_P hn rest pl (q.1 + 1) (ln + 1) hp'.2 fun x hx => by
      obtain ⟨g1, g2, g3, g4, g5⟩ := h x (List.mem_cons_of_mem _ hx)
      have := hp'.1 x.1 (List.mem_map.mpr ⟨x, hx, rfl⟩)
      exact ⟨by omega, g2, g3, g4, g5⟩
    refine ⟨low', ?_⟩
    rw [List.map_cons, List.cons_append]
    conv => lhs; unfold restF
    rw [ws_P, line_P rfl (few_lt h2 h3 hn) h1 h3 h4 h5]
    show (if plW = loW then _ else restF ((n : Nat) : Int) true (valL (iL q.1) + 1) (ln + 1) (pl.map (fun q => lnP q.1 q.2) ++ rest)) = _
    rw [if_neg (by decide), val_iL, e]
    congr 1
    rw [List.length_cons]
    omega
/-- behind the good loose lines -/
theorem rest_L {n : Nat} (hn : n ≤ 1000) (rest : List (List Nat)) : ∀ (qs : List (Int × Ov)) (b : Bool) (low ln : Int), (∀ q ∈ qs, 0 ≤ q.1 ∧ q.1 < ((n : Nat) : Int) ∧ OFew q.2) →
    ∃ b', restF ((n : Nat) : Int) b low ln (qs.map (fun q => lnL q.1 q.2) ++ rest) = restF ((n : Nat) : Int) b' low (ln + ((qs.length : Nat) : Int)) rest
  | [], b, low, ln, _ => ⟨b, by simp⟩
  | q :: qs, b, low, ln, h => by
    obtain ⟨h2, h3, h4⟩ := h q List.mem_cons_self
    obtain ⟨b', e⟩ := rest_L hn rest qs false low (ln + 1) fun x hx => h x (List.mem_cons_of_mem _ hx)
    refine ⟨b', ?_⟩
    rw [List.map_cons, List.cons_append]
    conv => lhs; unfold restF
    rw [ws_Lo, line_L (few_lt h2 h3 hn) h2 h3 h4]
    show (if loW = loW then restF ((n : Nat) : Int) false low (ln + 1) (qs.map (fun q => lnL q.1 q.2) ++ rest) else _) = _
    rw [if_pos rfl, e]
    congr 1
    rw [List.length_cons]
    omega
theorem all_eq (os : List Ov) (qs : List (Int × Ov)) : allL os qs = lnD ((os.length : Nat) : Int) :: ((plQ os os.length).map (fun q => lnP q.1 q.2) ++ qs.map fun q => lnL q.1 q.2) := by
  unfold allL
  rw [plQ_K, List.append_assoc]
  rfl
/-- the lines of a disk, and what follows them -/
theorem disk_all {os : List Ov} {qs : List (Int × Ov)} (n1 : 1 ≤ os.length) (n2 : os.length ≤ 1000) (ho : ∀ o ∈ os, OFew o) (hq : ∀ q ∈ qs, OFew q.2 ∧ 0 ≤ q.1 ∧ q.1 < ((os.length : Nat) : Int)) (rest : List (List Nat)) :
    ∃ b low, diskF (allL os qs ++ rest) = restF ((os.length : Nat) : Int) b low (((allL os qs).length : Nat) : Int) rest := by
  have hh : headW (allL os qs ++ rest) = [dkW, iL ((os.length : Nat) : Int)] := by
    rw [all_eq]
    exact ws_D _
  have hm : manyF [dkW, iL ((os.length : Nat) : Int)] = none := by
    unfold manyF
    show (if dkW ≠ dkW then some 0 else if isInL 1 1000 (iL ((os.length : Nat) : Int)) = false then some 1 else if 2 ≠ 2 then some 2 else none) = _
    rw [inL_few (few_nat (by omega)) (by omega) (by omega)]
    rfl
  obtain ⟨low, e1⟩ := rest_P n2 (qs.map (fun q => lnL q.1 q.2) ++ rest) (plQ os os.length) 0 1 (plQ_asc os os.length) fun q hq9 => by
    obtain ⟨i, hi, e, hne⟩ := plQ_mem hq9
    rw [e]
    have hoq : os.getD i none ∈ os := by rw [List.getD_eq_getElem?_getD, List.getElem?_eq_getElem hi]; exact List.getElem_mem _
    exact ⟨by show (0 : Int) ≤ ((i : Nat) : Int); omega, by show (0 : Int) ≤ ((i : Nat) : Int); omega, by show ((i : Nat) : Int) < _; omega, ho _ hoq, hne⟩
  obtain ⟨b, e2⟩ := rest_L n2 rest qs true low (1 + (((plQ os os.length).length : Nat) : Int)) fun q hq9 => ⟨(hq q hq9).2.1, (hq q hq9).2.2, (hq q hq9).1⟩
  refine ⟨b, low, ?_⟩
  unfold diskF
  rw [hh, hm]
  show restF (valL (iL ((os.length : Nat) : Int))) true 0 1 ((allL os qs ++ rest).drop 1) = _
  have hd : (allL os qs ++ rest).drop 1 = (plQ os os.length).map (fun q => lnP q.1 q.2) ++ (qs.map (fun q => lnL q.1 q.2) ++ rest) := by
    rw [all_eq, List.cons_append, List.append_assoc]
    rfl
  have hl : (allL os qs).length = 1 + (plQ os os.length).length + qs.length := by
    rw [all_eq, List.length_cons, List.length_append, List.length_map, List.length_map]
    omega
  rw [hd, val_iL, e1, e2, hl]
  congr 1
theorem lnW_ok {kw : List Nat} (hk : kw.length ≤ 10) (ha : ∀ c ∈ kw, c < 128) {i : Int} {o : Ov} (hi : Few i) (ho : OFew o) : LOk [kw, iL i, txO o] ∧ Good [kw, iL i, txO o] := by
  have h1 := few_len hi
  have h2 := tx_len ho
  exact ⟨⟨ha, by show (iL i).length ≤ 640; omega, by show (txO o).length ≤ 90000; omega, tx_lt o⟩, fun _ => ⟨o, rfl, ho⟩⟩
theorem all_ok {os : List Ov} {qs : List (Int × Ov)} (n2 : os.length ≤ 1000) (ho : ∀ o ∈ os, OFew o) (hq : ∀ q ∈ qs, OFew q.2 ∧ 0 ≤ q.1 ∧ q.1 < ((os.length : Nat) : Int)) : ∀ l ∈ (allL os qs).drop 1, l.length ≤ 80000 ∧ LOk (wsL l) ∧ Good (wsL l) := by
  intro l hl
  rw [all_eq] at hl
  have hl' : l ∈ (plQ os os.length).map (fun q => lnP q.1 q.2) ++ qs.map (fun q => lnL q.1 q.2) := hl
  rcases List.mem_append.mp hl' with z | z
  · obtain ⟨q, hq9, rfl⟩ := List.mem_map.mp z
    obtain ⟨i, hi, e, hne⟩ := plQ_mem hq9
    have hoq : os.getD i none ∈ os := by rw [List.getD_eq_getElem?_getD, List.getElem?_eq_getElem hi]; exact List.getElem_mem _
    rw [e]
    have hf : Few ((i : Nat) : Int) := few_nat (by omega)
    have h1 := few_len hf
    have h2 := tx_len (ho _ hoq)
    refine ⟨?_, by rw [ws_P]; exact lnW_ok (by decide) (by decide) hf (ho _ hoq)⟩
    show (plateW ++ iL ((i : Nat) : Int) ++ [32] ++ txO (os.getD i none)).length ≤ _
    simp only [List.length_append, List.length_cons, List.length_nil]
    have : plateW.length = 6 := by decide
    omega
  · obtain ⟨q, hq9, rfl⟩ := List.mem_map.mp z
    obtain ⟨g1, g2, g3⟩ := hq q hq9
    have hf := few_lt g2 g3 n2
    have h1 := few_len hf
    have h2 := tx_len g1
    refine ⟨?_, by rw [ws_Lo]; exact lnW_ok (by decide) (by decide) hf g1⟩
    show (looseW ++ iL q.1 ++ [32] ++ txO q.2).length ≤ _
    simp only [List.length_append, List.length_cons, List.length_nil]
    have : looseW.length = 6 := by decide
    omega
end Pf

set_option Elab.async false
set_option linter.all false
set_option maxRecDepth 100000
set_option maxHeartbeats 8000000
namespace Pf
open PySem PySem.Spec PyProof.Rows L2 TL
def w_disc3 : List Nat := [100, 105, 115, 99, 32, 51]
theorem tl_disc3 : tl (("disc 3" : Str)) = w_disc3 := by
  show tl (Str.ofString "disc 3") = _
  rw [tl_ofString]; rfl
def w_bdisk3 : List Nat := [32, 100, 105, 115, 107, 32, 51]
theorem tl_bdisk3 : tl ((" disk 3" : Str)) = w_bdisk3 := by
  show tl (Str.ofString " disk 3") = _
  rw [tl_ofString]; rfl
def w_Disk3 : List Nat := [68, 105, 115, 107, 32, 51]
theorem tl_Disk3 : tl (("Disk 3" : Str)) = w_Disk3 := by
  show tl (Str.ofString "Disk 3") = _
  rw [tl_ofString]; rfl
def w_n0 : List Nat := [48]
theorem tl_n0 : tl (("0" : Str)) = w_n0 := by
  show tl (Str.ofString "0") = _
  rw [tl_ofString]; rfl
def w_nm1 : List Nat := [45, 49]
theorem tl_nm1 : tl (("-1" : Str)) = w_nm1 := by
  show tl (Str.ofString "-1") = _
  rw [tl_ofString]; rfl
def w_nx : List Nat := [120]
theorem tl_nx : tl (("x" : Str)) = w_nx := by
  show tl (Str.ofString "x") = _
  rw [tl_ofString]; rfl
def w_n03 : List Nat := [48, 51]
theorem tl_n03 : tl (("03" : Str)) = w_n03 := by
  show tl (Str.ofString "03") = _
  rw [tl_ofString]; rfl
def w_np3 : List Nat := [43, 51]
theorem tl_np3 : tl (("+3" : Str)) = w_np3 := by
  show tl (Str.ofString "+3") = _
  rw [tl_ofString]; rfl
def w_n3p : List Nat := [51, 46, 48]
theorem tl_n3p : tl (("3.0" : Str)) = w_n3p := by
  show tl (Str.ofString "3.0") = _
  rw [tl_ofString]; rfl
def w_n1001 : List Nat := [49, 48, 48, 49]
theorem tl_n1001 : tl (("1001" : Str)) = w_n1001 := by
  show tl (Str.ofString "1001") = _
  rw [tl_ofString]; rfl
def w_n9 : List Nat := [57]
theorem tl_n9 : tl (("9" : Str)) = w_n9 := by
  show tl (Str.ofString "9") = _
  rw [tl_ofString]; rfl
def w_disk34 : List Nat := [100, 105, 115, 107, 32, 51, 32, 52]
theorem tl_disk34 : tl (("disk 3 4" : Str)) = w_disk34 := by
  show tl (Str.ofString "disk 3 4") = _
  rw [tl_ofString]; rfl
def w_disk3b : List Nat := [100, 105, 115, 107, 32, 51, 32]
theorem tl_disk3b : tl (("disk 3 " : Str)) = w_disk3b := by
  show tl (Str.ofString "disk 3 ") = _
  rw [tl_ofString]; rfl
def w_v12 : List Nat := [49, 44, 50]
theorem tl_v12 : tl (("1,2" : Str)) = w_v12 := by
  show tl (Str.ofString "1,2") = _
  rw [tl_ofString]; rfl
def w_vm5 : List Nat := [45, 53]
theorem tl_vm5 : tl (("-5" : Str)) = w_vm5 := by
  show tl (Str.ofString "-5") = _
  rw [tl_ofString]; rfl
def w_loseb : List Nat := [108, 111, 115, 101, 32]
theorem tl_loseb : tl (("lose " : Str)) = w_loseb := by
  show tl (Str.ofString "lose ") = _
  rw [tl_ofString]; rfl
def w_loosem1 : List Nat := [108, 111, 111, 115, 101, 32, 45, 49, 32]
theorem tl_loosem1 : tl (("loose -1 " : Str)) = w_loosem1 := by
  show tl (Str.ofString "loose -1 ") = _
  rw [tl_ofString]; rfl
def w_loose0 : List Nat := [108, 111, 111, 115, 101, 32, 48]
theorem tl_loose0 : tl (("loose 0" : Str)) = w_loose0 := by
  show tl (Str.ofString "loose 0") = _
  rw [tl_ofString]; rfl
def w_comma1 : List Nat := [44]
theorem tl_comma1 : tl (("," : Str)) = w_comma1 := by
  show tl (Str.ofString ",") = _
  rw [tl_ofString]; rfl
def w_sm0 : List Nat := [32, 45, 48]
theorem tl_sm0 : tl ((" -0" : Str)) = w_sm0 := by
  show tl (Str.ofString " -0") = _
  rw [tl_ofString]; rfl
def w_s1cc2 : List Nat := [32, 49, 44, 44, 50]
theorem tl_s1cc2 : tl ((" 1,,2" : Str)) = w_s1cc2 := by
  show tl (Str.ofString " 1,,2") = _
  rw [tl_ofString]; rfl
def w_sTorn : List Nat := [32, 84, 111, 114, 110]
theorem tl_sTorn : tl ((" Torn" : Str)) = w_sTorn := by
  show tl (Str.ofString " Torn") = _
  rw [tl_ofString]; rfl
def w_s1 : List Nat := [32, 49]
theorem tl_s1 : tl ((" 1" : Str)) = w_s1 := by
  show tl (Str.ofString " 1") = _
  rw [tl_ofString]; rfl
def w_s01 : List Nat := [32, 48, 49]
theorem tl_s01 : tl ((" 01" : Str)) = w_s01 := by
  show tl (Str.ofString " 01") = _
  rw [tl_ofString]; rfl
def w_nothing : List Nat := [110, 111, 116, 104, 105, 110, 103]
theorem tl_nothing : tl (("nothing" : Str)) = w_nothing := by
  show tl (Str.ofString "nothing") = _
  rw [tl_ofString]; rfl
def w_disk3 : List Nat := [100, 105, 115, 107, 32, 51]
theorem tl_disk3 : tl (("disk 3" : Str)) = w_disk3 := by
  show tl (Str.ofString "disk 3") = _
  rw [tl_ofString]; rfl
def w_p15 : List Nat := [112, 108, 97, 116, 101, 32, 49, 32, 53]
theorem tl_p15 : tl (("plate 1 5" : Str)) = w_p15 := by
  show tl (Str.ofString "plate 1 5") = _
  rw [tl_ofString]; rfl
def w_p16 : List Nat := [112, 108, 97, 116, 101, 32, 49, 32, 54]
theorem tl_p16 : tl (("plate 1 6" : Str)) = w_p16 := by
  show tl (Str.ofString "plate 1 6") = _
  rw [tl_ofString]; rfl
def w_p25 : List Nat := [112, 108, 97, 116, 101, 32, 50, 32, 53]
theorem tl_p25 : tl (("plate 2 5" : Str)) = w_p25 := by
  show tl (Str.ofString "plate 2 5") = _
  rw [tl_ofString]; rfl
def w_p06 : List Nat := [112, 108, 97, 116, 101, 32, 48, 32, 54]
theorem tl_p06 : tl (("plate 0 6" : Str)) = w_p06 := by
  show tl (Str.ofString "plate 0 6") = _
  rw [tl_ofString]; rfl
def w_p1e : List Nat := [112, 108, 97, 116, 101, 32, 49, 32, 101, 109, 112, 116, 121]
theorem tl_p1e : tl (("plate 1 empty" : Str)) = w_p1e := by
  show tl (Str.ofString "plate 1 empty") = _
  rw [tl_ofString]; rfl
def w_l1e : List Nat := [108, 111, 111, 115, 101, 32, 49, 32, 101, 109, 112, 116, 121]
theorem tl_l1e : tl (("loose 1 empty" : Str)) = w_l1e := by
  show tl (Str.ofString "loose 1 empty") = _
  rw [tl_ofString]; rfl
def vals4 : List (List Nat) := [tornL, w_v12, w_vm5, w_n0]
def knownL : List (List Nat) := [tornL, emptyL, w_v12, w_vm5, w_n0, [53], [54]]
theorem known_tx {w : List Nat} (h : w ∈ knownL) : ∃ o, w = txO o ∧ OFew o := by
  have e1 : iL 1 = [49] := (iL_nat 1).trans (numL_lt (by decide))
  have e2 : iL 2 = [50] := (iL_nat 2).trans (numL_lt (by decide))
  have e5 : iL (-5) = [45, 53] := (iL_neg 4).trans (by rw [numL_lt (by decide)])
  have e0 : iL 0 = [48] := (iL_nat 0).trans (numL_lt (by decide))
  have f5 : iL 5 = [53] := (iL_nat 5).trans (numL_lt (by decide))
  have f6 : iL 6 = [54] := (iL_nat 6).trans (numL_lt (by decide))
  have one : ∀ (n : Int) (w : List Nat), iL n = w → Few n → ∃ o, w = txO o ∧ OFew o := fun n w e f => ⟨some [n], e.symm, by simp, fun x hx => by rw [List.mem_singleton.mp hx]; exact f⟩
  simp only [knownL, List.mem_cons, List.not_mem_nil, or_false] at h
  rcases h with rfl | rfl | rfl | rfl | rfl | rfl | rfl
  · exact ⟨none, rfl, trivial⟩
  · exact ⟨some [], rfl, by decide, fun x hx => by cases hx⟩
  · refine ⟨some [1, 2], ?_, by decide, fun x hx => ?_⟩
    · show _ = iL 1 ++ ([44] ++ iL 2)
      rw [e1, e2]
      rfl
    · simp only [List.mem_cons, List.not_mem_nil, or_false] at hx
      rcases hx with rfl | rfl <;> (unfold Few; decide)
  · exact one (-5) _ e5 (by unfold Few; decide)
  · exact one 0 _ e0 (by unfold Few; decide)
  · exact one 5 _ f5 (by unfold Few; decide)
  · exact one 6 _ f6 (by unfold Few; decide)
def goodB (ws : List (List Nat)) : Bool := !(isVL (ws.getD 2 [])) || decide (ws.getD 2 [] ∈ knownL)
theorem good_of {ws : List (List Nat)} (h : goodB ws = true) : Good ws := fun hv => by
  unfold goodB at h
  rw [hv, Bool.not_true, Bool.false_or] at h
  exact known_tx (of_decide_eq_true h)
def lokB (ws : List (List Nat)) : Bool := (ws.getD 0 []).all (fun c => decide (c < 128)) && (decide ((ws.getD 1 []).length ≤ 640) && (decide ((ws.getD 2 []).length ≤ 90000) && (ws.getD 2 []).all (fun c => decide (c < 128))))
theorem lok_of {ws : List (List Nat)} (h : lokB ws = true) : LOk ws := by
  unfold lokB at h
  rw [Bool.and_eq_true, Bool.and_eq_true, Bool.and_eq_true] at h
  exact ⟨fun c hc => of_decide_eq_true (List.all_eq_true.mp h.1 c hc), of_decide_eq_true h.2.1, of_decide_eq_true h.2.2.1, fun c hc => of_decide_eq_true (List.all_eq_true.mp h.2.2.2 c hc)⟩
def lineB (l : List Nat) : Bool := decide (l.length ≤ 80000) && (lokB (wsL l) && goodB (wsL l))
theorem line_of {l : List Nat} (h : lineB l = true) : l.length ≤ 80000 ∧ LOk (wsL l) ∧ Good (wsL l) := by
  unfold lineB at h
  rw [Bool.and_eq_true, Bool.and_eq_true] at h
  exact ⟨of_decide_eq_true h.1, lok_of h.2.1, good_of h.2.2⟩
def lnsB (ls : List (List Nat)) : Bool := decide (ls.length ≤ 900) && (decide ((ls.getD 0 []).length ≤ 90000) && ((!(isShL ((headW ls).getD 1 [])) || decide (((headW ls).getD 1 []).length ≤ 640)) && (ls.drop 1).all lineB))
theorem lns_of {ls : List (List Nat)} (h : lnsB ls = true) : LnsOk ls := by
  unfold lnsB at h
  rw [Bool.and_eq_true, Bool.and_eq_true, Bool.and_eq_true] at h
  refine ⟨of_decide_eq_true h.1, of_decide_eq_true h.2.1, fun z => ?_, fun l hl => line_of (List.all_eq_true.mp h.2.2.2 l hl)⟩
  have h3 := h.2.2.1
  rw [z, Bool.not_true, Bool.false_or] at h3
  exact of_decide_eq_true h3
/-- the wrong lines, with the word at fault -/
def wrL (p m v : List Nat) : List (List Nat × Int) :=
  [(w_loseb ++ p ++ [32] ++ v, 0), ([], 0), (loW, 1), (looseW ++ m ++ [32] ++ v, 1), (w_loosem1 ++ v, 1)] ++
  [(w_loose0 ++ p ++ [32] ++ v, 1), (looseW ++ p, 2), (looseW ++ p ++ [32] ++ v ++ w_comma1, 2), (looseW ++ p ++ w_sm0, 2)] ++
  [(looseW ++ p ++ w_s1cc2, 2), (looseW ++ p ++ w_sTorn, 2), (looseW ++ p ++ [32] ++ v ++ w_s1, 3), (looseW ++ p ++ w_s01, 2)]
def oneB (n : Nat) (l : List Nat) (u : Option Int) : Bool := decide (lineF false 0 ((n : Nat) : Int) (wsL l) = u) && (decide ((wsL l).getD 0 [] ≠ plW) && lineB l)
def chkW (n i : Nat) (v : List Nat) : Bool := (wrL (numL i) (numL n) v).all (fun x => oneB n x.1 (some x.2)) && oneB n (looseW ++ numL i ++ [32] ++ v) none
theorem chk_all : ∀ n < 7, ∀ i < n, ∀ v ∈ vals4, chkW n i v = true := by decide +kernel
theorem line_free {b : Bool} {low many : Int} {ws : List (List Nat)} (h : ws.getD 0 [] ≠ plW) : lineF b low many ws = lineF false 0 many ws := by
  unfold lineF
  rw [if_neg h, if_neg h, decide_eq_false h, Bool.and_false, Bool.and_false]
theorem one_of {n : Nat} {l : List Nat} {u : Option Int} (h : oneB n l u = true) : (∀ b low, lineF b low ((n : Nat) : Int) (wsL l) = u) ∧ l.length ≤ 80000 ∧ LOk (wsL l) ∧ Good (wsL l) := by
  unfold oneB at h
  rw [Bool.and_eq_true, Bool.and_eq_true] at h
  exact ⟨fun b low => (line_free (of_decide_eq_true h.2.1)).trans (of_decide_eq_true h.1), line_of h.2.2⟩
/-- the lines of a disk with a wrong one behind them -/
theorem wrong_disk {os : List Ov} {qs : List (Int × Ov)} (n1 : 1 ≤ os.length) (n2 : os.length ≤ 6) (hql : qs.length ≤ 8) (ho : ∀ o ∈ os, OFew o) (hq : ∀ q ∈ qs, OFew q.2 ∧ 0 ≤ q.1 ∧ q.1 < ((os.length : Nat) : Int)) {i : Nat} (hi : i < os.length) {v : List Nat} (hv : v ∈ vals4) :
    (∀ x ∈ wrL (numL i) (numL os.length) v, LnsOk (allL os qs ++ [x.1, w_nothing]) ∧ diskF (allL os qs ++ [x.1, w_nothing]) = some ((((allL os qs).length : Nat) : Int), x.2)) ∧
    LnsOk (allL os qs ++ [looseW ++ numL i ++ [32] ++ v]) ∧ diskF (allL os qs ++ [looseW ++ numL i ++ [32] ++ v]) = none := by
  have hc := chk_all os.length (by omega) i hi v hv
  unfold chkW at hc
  rw [Bool.and_eq_true] at hc
  obtain ⟨hc1, hc2⟩ := hc
  have hpl : (plQ os os.length).length ≤ os.length := by
    have := plK_len os os.length
    rw [plQ_K, List.length_map] at this
    exact this
  have hl : (allL os qs).length ≤ 15 := by
    rw [all_eq, List.length_cons, List.length_append, List.length_map, List.length_map]
    omega
  have hd : ∀ r : List (List Nat), (allL os qs ++ r).getD 0 [] = lnD ((os.length : Nat) : Int) ∧ headW (allL os qs ++ r) = [dkW, iL ((os.length : Nat) : Int)] ∧ (allL os qs ++ r).drop 1 = (allL os qs).drop 1 ++ r := fun r => by
    rw [all_eq]
    exact ⟨rfl, ws_D _, rfl⟩
  have hf := few_len (few_nat (n := os.length) (by omega))
  have hln : ∀ r : List (List Nat), r.length ≤ 10 → (∀ l ∈ r, l.length ≤ 80000 ∧ LOk (wsL l) ∧ Good (wsL l)) → LnsOk (allL os qs ++ r) := fun r hr h => by
    obtain ⟨d1, d2, d3⟩ := hd r
    refine ⟨by rw [List.length_append]; omega, ?_, fun _ => ?_, fun l hl9 => ?_⟩
    · rw [d1]
      show (diskW ++ iL ((os.length : Nat) : Int)).length ≤ _
      rw [List.length_append]
      have : diskW.length = 5 := by decide
      omega
    · rw [d2]
      show (iL ((os.length : Nat) : Int)).length ≤ _
      omega
    · rw [d3] at hl9
      rcases List.mem_append.mp hl9 with z | z
      · exact all_ok (by omega) ho hq l z
      · exact h l z
  refine ⟨fun x hx => ?_, ?_, ?_⟩
  · obtain ⟨g1, g2⟩ := one_of (List.all_eq_true.mp hc1 x hx)
    refine ⟨hln _ (by simp) fun l hl9 => ?_, ?_⟩
    · rcases List.mem_cons.mp hl9 with z | z
      · rw [z]; exact g2
      · rw [List.mem_singleton.mp z]; exact line_of (by decide +kernel)
    · obtain ⟨b, low, e⟩ := disk_all n1 (by omega) ho hq [x.1, w_nothing]
      rw [e]
      unfold restF
      rw [g1 b low]
  · obtain ⟨g1, g2⟩ := one_of hc2
    exact hln _ (by simp) fun l hl9 => by rw [List.mem_singleton.mp hl9]; exact g2
  · obtain ⟨g1, g2⟩ := one_of hc2
    obtain ⟨b, low, e⟩ := disk_all n1 (by omega) ho hq [looseW ++ numL i ++ [32] ++ v]
    rw [e]
    unfold restF
    rw [g1 b low]
    have hn : ∀ (m : Int) b low ln, restF m b low ln [] = none := fun _ _ _ _ => by unfold restF; rfl
    show (if (wsL (looseW ++ numL i ++ [32] ++ v)).getD 0 [] = loW then restF _ false low _ [] else restF _ b _ _ []) = none
    rw [hn, hn]
    split <;> rfl
/-- a wrong first line before the lines of a disk -/
theorem first_disk {os : List Ov} {qs : List (Int × Ov)} (n2 : os.length ≤ 6) (hql : qs.length ≤ 8) (ho : ∀ o ∈ os, OFew o) (hq : ∀ q ∈ qs, OFew q.2 ∧ 0 ≤ q.1 ∧ q.1 < ((os.length : Nat) : Int)) {l : List Nat} (hl : l ∈ [w_disc3, [], w_bdisk3, w_Disk3]) :
    LnsOk (l :: (allL os qs).drop 1) ∧ diskF (l :: (allL os qs).drop 1) = some (0, 0) := by
  have hpl : (plQ os os.length).length ≤ os.length := by
    have := plK_len os os.length
    rw [plQ_K, List.length_map] at this
    exact this
  have hal : (allL os qs).length ≤ 15 := by
    rw [all_eq, List.length_cons, List.length_append, List.length_map, List.length_map]
    omega
  have h3 : ∀ l ∈ [w_disc3, [], w_bdisk3, w_Disk3], l.length ≤ 90000 ∧ ((wsL l).getD 1 []).length ≤ 640 ∧ manyF (wsL l) = some 0 := by decide +kernel
  obtain ⟨g1, g2, g3⟩ := h3 l hl
  refine ⟨⟨by rw [List.length_cons, List.length_drop]; omega, g1, fun _ => g2, fun x hx => all_ok (by omega) ho hq x hx⟩, ?_⟩
  unfold diskF
  show (match manyF (wsL l) with | some u => some ((0 : Int), u) | none => _) = _
  rw [g3]
theorem small_1 : ∀ w ∈ [w_n0, w_nm1, w_nx, w_n03, w_np3, w_n3p, w_n1001], lnsB [diskW ++ w] = true ∧ diskF [diskW ++ w] = some (0, 1) := by decide +kernel
theorem small_2 : (lnsB [] = true ∧ diskF [] = some (0, 0)) ∧ (lnsB [dkW] = true ∧ diskF [dkW] = some (0, 1)) ∧ (lnsB [w_disk34] = true ∧ diskF [w_disk34] = some (0, 2)) ∧ (lnsB [w_disk3b] = true ∧ diskF [w_disk3b] = some (0, 2)) := by decide +kernel
theorem small_3 : (lnsB [w_disk3, w_p15, w_p16] = true ∧ diskF [w_disk3, w_p15, w_p16] = some (2, 1)) ∧ (lnsB [w_disk3, w_p25, w_p06] = true ∧ diskF [w_disk3, w_p25, w_p06] = some (2, 1)) ∧ (lnsB [w_disk3, w_p1e] = true ∧ diskF [w_disk3, w_p1e] = some (1, 2)) ∧ (lnsB [w_disk3, w_l1e, w_p25] = true ∧ diskF [w_disk3, w_l1e, w_p25] = some (2, 0)) := by decide +kernel
/-- a number of 5000 figures -/
theorem nines : LnsOk [diskW ++ List.replicate 5000 57] ∧ diskF [diskW ++ List.replicate 5000 57] = some (0, 1) := by
  have hw : wsL (diskW ++ List.replicate 5000 57) = [dkW, List.replicate 5000 57] := ws_join (ps := [dkW, List.replicate 5000 57]) (by simp) (fun p hp => by
    rcases List.mem_cons.mp hp with z | z
    · rw [z]; decide
    · rw [List.mem_singleton.mp z]
      intro c
      exact absurd (List.eq_of_mem_replicate c) (by decide))
  have hf : figL (List.replicate 5000 57) = List.replicate 5000 57 := figL_no (by rw [List.head?_replicate]; decide)
  have hs : isShL (List.replicate 5000 57) = false := by
    unfold isShL
    rw [hf, List.length_replicate, decide_eq_false (by decide), Bool.false_and]
  refine ⟨⟨by decide, ?_, fun z => ?_, fun l hl => by cases hl⟩, ?_⟩
  · show (diskW ++ List.replicate 5000 57).length ≤ 90000
    rw [List.length_append, List.length_replicate]
    decide
  · have z' : isShL ((wsL (diskW ++ List.replicate 5000 57)).getD 1 []) = true := z
    rw [hw] at z'
    exact absurd (hs.symm.trans z') (by decide)
  · unfold diskF
    show (match manyF (wsL (diskW ++ List.replicate 5000 57)) with | some u => some ((0 : Int), u) | none => restF (valL ((wsL (diskW ++ List.replicate 5000 57)).getD 1 [])) true 0 1 []) = _
    have hm : manyF (wsL (diskW ++ List.replicate 5000 57)) = some 1 := by
      rw [hw]
      unfold manyF
      show (if dkW ≠ dkW then some 0 else if isInL 1 1000 (List.replicate 5000 57) = false then some 1 else if 2 ≠ 2 then some 2 else none) = _
      have hi : isInL 1 1000 (List.replicate 5000 57) = false := by unfold isInL; rw [hs, Bool.false_and]
      rw [if_neg (fun z => z rfl), if_pos hi]
    rw [hm]
end Pf

set_option Elab.async false
set_option linter.all false
set_option maxRecDepth 100000
set_option maxHeartbeats 8000000
namespace Pf
open PySem PySem.Spec PyProof.Rows L2 TL
abbrev NL : List Str := ["script", "draw", "disk", "lines", "many", "first", "word", "at", "plate", "value", "wrong", "line"]
theorem scLaw : FnScope NL ["script"] (defScope sLaw) := ⟨rfl, rfl, rfl, by decide +kernel, rfl, by decide +kernel, by decide +kernel⟩
abbrev stL (j : Nat) : Stmt := (defBody sLaw).getD j (.Pass ⟨0, 0, 0, 0⟩)
abbrev XL (P : Program) (w : World) (K : PySem.W.Frag) (mg : Str → Option Value) (base : Heap) (f : Addr) (cdv : Value) (A : Around) (outer : List Env) (s : Shared) (H0 : Hp) (E : XK) : Cx :=
  (cxOf CX0 P w K mg base NL "law" (defScope sLaw) f cdv A outer s H0 E).nox
/-- the law's own things -/
structure J39 (K : PySem.W.Frag) (H : Hp) (a sc L : Addr) (ss : List Int) (os : List Ov) (qs : List (Int × Ov)) : Prop where
  D : DrawAt K H a sc ss
  hL : H L = some (.lst (strV (allL os qs)))
  n1 : 1 ≤ os.length
  n6 : os.length ≤ 6
  q8 : qs.length ≤ 8
  ho : ∀ o ∈ os, OFew o
  hq : ∀ q ∈ qs, OFew q.2 ∧ 0 ≤ q.1 ∧ q.1 < ((os.length : Nat) : Int)
  ne : L ≠ a
theorem J39.same {K : PySem.W.Frag} {H H' : Hp} {a sc L : Addr} {ss : List Int} {os : List Ov} {qs : List (Int × Ov)} (J : J39 K H a sc L ss os qs) (s : Same H H') : J39 K H' a sc L ss os qs := ⟨J.D.same s, s _ _ J.hL, J.n1, J.n6, J.q8, J.ho, J.hq, J.ne⟩
theorem J39.draw {K : PySem.W.Frag} {H H' : Hp} {a sc L : Addr} {ss : List Int} {os : List Ov} {qs : List (Int × Ov)} (J : J39 K H a sc L ss os qs) (b : But [a] H H') (D : DrawAt K H' a sc ss) : J39 K H' a sc L ss os qs := ⟨D, b.at J.hL (by simp [J.ne]), J.n1, J.n6, J.q8, J.ho, J.hq, J.ne⟩
/-- what _law_fault tells, compared -/
theorem fl_ne {K : PySem.W.Frag} {σ : L2.St} {H : Hp} {p : Addr} {ls : List (List Nat)} {a b : Int} {Q : VK} (hp : LT K H p (strV ls)) (LK : LnsOk ls) (e : diskF ls = some (a, b)) (q : ∀ H', Same H H' → Q (.bl false) H') :
    spFl K [.ref p] H (fun y H2 => tTup (tCons (tC (.int a)) (tCons (tC (.int b)) tNil)) σ H2 fun z H3 => rNeD K y z H3 Q) E0 := by
  refine ⟨p, ls, rfl, hp, LK, fun x hx t H1 s1 ht => ?_, fun z => by rw [e] at z; cases z⟩
  rw [e] at hx
  cases hx
  refine ⟨(by show 2 ≤ sizeLine; decide), fun t2 ht2 => ?_⟩
  have s2 := same_upd (o := .tup [V.int a, V.int b]) ht2
  have hs : SeqAt.shaped (.tuple [.int a, .int b]) = true := shaped_tup (by simp [PyData.canLayAll0, PyData.canLay0]) (by simp [PyData.depthAll, PyData.depth])
  have hv : PyData.eqv (.tuple [.int a, .int b]) (.tuple [.int a, .int b]) = true := SeqAt.eqv_refl _ (by simp [PyData.canLay0, PyData.canLayAll0])
  refine ⟨.tuple [.int a, .int b], .tuple [.int a, .int b], .tup (SqT.of (s2 _ _ ht)) (.cons (.int _) (.cons (.int _) .nil)), .tup (SqT.of upd_same) (.cons (.int _) (.cons (.int _) .nil)), hs, hs, ?_⟩
  rw [hv]
  exact q _ (s1.trans s2)
theorem few_ofq {qs : List (Int × Ov)} {n : Nat} (hn : n ≤ 1000) (hq : ∀ q ∈ qs, OFew q.2 ∧ 0 ≤ q.1 ∧ q.1 < ((n : Nat) : Int)) : ∀ q ∈ qs, OFew q.2 ∧ Few q.1 := fun q hq9 => ⟨(hq q hq9).1, few_lt (hq q hq9).2.1 (hq q hq9).2.2 hn⟩
section
variable {P : Program} {w : World} {K : PySem.W.Frag} {mg : Str → Option Value} {base : Heap} {CD : Addr} {f : Addr} {cdv : Value} {A : Around} {outer : List Env} {s : Shared} {H0 : Hp} {E : XK} {rest : List Stmt} {u : TS}
theorem law_03 {fD fW fP : Addr} {dD dW dP : FuncData} (T : DTxt K CD) (DD : Df P w K mg base CX0 4 "_law_disk" ["draw"] (spLDisk K CD) fD dD) (DW : Df P w K mg base CX0 2 "write_disk" ["disk"] (spWd K CD) fW dW) (DP : Df P w K mg base CX0 3 "_law_pick" ["draw", "items"] (spPick K) fP dP) (mL : mg "list" = none) (ml : mg "len" = none) (hr : Room 7 (A.deeper (envOfC "law" (defScope sLaw) s.heap.objs.size f cdv))) (hu : PSs (XL P w K mg base f cdv A outer s H0 E) rest u) :
    ∃ t, PSs (XL P w K mg base f cdv A outer s H0 E) (stL 0 :: stL 1 :: stL 2 :: stL 3 :: rest) t ∧ ∀ D H (sc : Addr) (ss : List Int), SqL K H sc (ss.map V.int) → ss.length ≤ 63 →
      (∀ (a d L : Addr) (os : List Ov) (qs : List (Int × Ov)) (z : Str) H', J39 K H' a sc L ss os qs → tl z ∈ [w_disc3, [], w_bdisk3, w_Disk3] →
        u D [some (V.ref sc), some (V.ref a), some (.ref d), some (.ref L), some (.int ((os.length : Nat) : Int)), some (.str z), none, none, none, none, none, none] H') →
      t D (start NL [V.ref sc]) H := by
  have nd := scLaw.nd
  have h4 : Room 4 _ := hr.mono (by decide)
  have h3 : Room 3 _ := hr.mono (by decide)
  have h2 : Room 2 _ := hr.mono (by decide)
  refine ⟨_, pss_cons (ps_set (i := 1) nd rfl (.inl rfl) (pe_lst (pa_cons (pv 0) (pa_cons pe_int pa_nil))))
    (pss_cons (ps_set (i := 2) nd rfl (.inl rfl) (pe_call DD.G h4 rfl DD.g DD.kp DD.b .nil pass0 (pa_cons (pv 1) pa_nil)))
    (pss_cons (ps_set (i := 3) nd rfl (.inl rfl) (pe_callTy call_list_of (by rfl) mL boot_list (pa_cons (pe_call DW.G h2 rfl DW.g DW.kp DW.b .nil pass0 (pa_cons (pv 2) pa_nil)) pa_nil)))
    (pss_cons (ps_par rfl nd (i := 4) (j := 5) rfl rfl (by decide) rfl rfl (pa_cons (pe_callB call_len_seq (by rfl) ml boot_len (pa_cons (pe_fld (pv 2) rfl) pa_nil)) (pa_cons (pe_call DP.G h3 rfl DP.g DP.kp DP.b .nil pass0 (pa_cons (pv 1) (pa_cons (pe_lst (pa_cons pe_str (pa_cons pe_str (pa_cons pe_str (pa_cons pe_str pa_nil))))) pa_nil))) pa_nil)) (by rfl))
    hu))), fun D H sc ss hS hlen nx => ?_⟩
  refine ⟨_, rfl, (by show 2 ≤ sizeLine; decide), fun a ha => ?_⟩
  have s1 := same_upd (o := .lst [.ref sc, .int 0]) ha
  have D1 : DrawAt K (upd H a (.lst [.ref sc, .int 0])) a sc ss := by
    refine ⟨⟨0, upd_same⟩, Same.seq (fun b o e => ?_) hS, hlen⟩
    rw [off_out (by simp [ne_of_none e ha])]
    exact s1 _ _ e
  generalize upd H a (.lst [.ref sc, .int 0]) = G at D1 ⊢
  refine ⟨_, rfl, a, sc, ss, rfl, D1, fun d os qs H1 b1 D2 hd Dk n1 n6 hql ho hq => ?_⟩
  refine ⟨_, rfl, d, os, qs, rfl, Dk, ho, few_ofq (by omega) hq, by omega, by omega, fun p H2 s2 hp => ?_⟩
  refine ⟨p, _, rfl, .inr hp, fun L hL => ?_⟩
  have s3 := same_upd (o := .lst (strV (allL os qs))) hL
  have eL : (upd H2 L (.lst (strV (allL os qs)))) L = some (.lst (strV (allL os qs))) := upd_same
  have D3 := (D2.same s2).same s3
  have Dk3 := (Dk.same s2).same s3
  have nLa : L ≠ a := ((D2.same s2).ne hL)
  generalize upd H2 L (.lst (strV (allL os qs))) = H3 at s3 eL D3 Dk3 ⊢
  obtain ⟨sv, lv, ⟨dx, sa, la, ts, x1, x2, x3, x4, x5, x6⟩, D2', D3'⟩ := id Dk3
  have hsl := dps_len D2'
  rw [List.length_map] at hsl
  refine ⟨_, rfl, d, CD, dx, _, _, rfl, x1, T.cl, T.nS, fl_settled _ _ _, sa, sv, rfl, .inr (SqT.of x2), ?_⟩
  refine ⟨_, rfl, (by show 4 ≤ sizeLine; decide), fun q1 hq1 => ?_⟩
  have s4 := same_upd (o := .lst [V.str ("disc 3" : Str), V.str ("" : Str), V.str (" disk 3" : Str), V.str ("Disk 3" : Str)]) hq1
  have D4 := D3.same s4
  have nqa : q1 ≠ a := D3.ne hq1
  have eL4 := s4 _ _ eL
  have eq4 : (upd H3 q1 (.lst [V.str ("disc 3" : Str), V.str ("" : Str), V.str (" disk 3" : Str), V.str ("Disk 3" : Str)])) q1 = some (.lst [V.str ("disc 3" : Str), V.str ("" : Str), V.str (" disk 3" : Str), V.str ("Disk 3" : Str)]) := upd_same
  generalize upd H3 q1 (.lst [V.str ("disc 3" : Str), V.str ("" : Str), V.str (" disk 3" : Str), V.str ("Disk 3" : Str)]) = H4 at D4 eL4 eq4 ⊢
  refine ⟨a, q1, sc, ss, _, rfl, D4, eq4, nqa, by simp, fun v H5 hv b5 D5 => ?_⟩
  have hz : ∃ z : Str, v = .str z ∧ tl z ∈ [w_disc3, [], w_bdisk3, w_Disk3] := by
    simp only [List.mem_cons, List.not_mem_nil, or_false] at hv
    rcases hv with rfl | rfl | rfl | rfl
    · exact ⟨_, rfl, by rw [tl_disc3]; simp⟩
    · exact ⟨_, rfl, by rw [show tl ("" : Str) = [] from rfl]; simp⟩
    · exact ⟨_, rfl, by rw [tl_bdisk3]; simp⟩
    · exact ⟨_, rfl, by rw [tl_Disk3]; simp⟩
  obtain ⟨z, rfl, hz⟩ := hz
  refine ⟨_, _, rfl, ?_⟩
  rw [hsl]
  exact nx a d L os qs z H5 ⟨D5, b5.at eL4 (by simp [nLa]), n1, n6, hql, ho, hq, nLa⟩ hz
end
end Pf

set_option Elab.async false
set_option linter.all false
set_option maxRecDepth 100000
set_option maxHeartbeats 8000000
namespace Pf
open PySem PySem.Spec PyProof.Rows L2 TL
/-! ### text * int -/
def rMulS : R2 := fun x y H Q => ∃ (i : Str) (n : Int), x = .str i ∧ y = .int n ∧ i.length ≤ 16 ∧ 0 ≤ n ∧ n ≤ 1048576 ∧ Q (.str (Txt.mul i n)) H
theorem op_mulS {X : Cx} : OpR X (binaryOp .Mult) rMulS := by
  intro pins s σ H x y v u Q I rx ry h
  obtain ⟨i, n, rfl, rfl, h1, h2, h3, q⟩ := h
  obtain ⟨t, rfl⟩ := rx
  obtain ⟨t2, rfl⟩ := ry
  exact PySem.W.KXi.mul rfl h1 (by omega) h3 fun t' k _ _ => ⟨.str _, H, I.tok _, ⟨_, rfl⟩, q⟩
theorem tl_nines : tl (Txt.mul ("9" : Str) 5000) = List.replicate 5000 57 := by
  have e : ("9" : Str) = ⟨#[57]⟩ := TL.ext_tl (by rw [tl_n9]; rfl)
  rw [e]
  exact mul_one_list 57 5000
abbrev rAddT : R2 := fun x y H Q => ∃ i j, x = .str i ∧ y = .str j ∧ i.length + j.length ≤ sizeLine ∧ Q (.str (i ++ j)) H
section
variable {P : Program} {w : World} {K : PySem.W.Frag} {mg : Str → Option Value} {base : Heap} {CD : Addr} {f : Addr} {cdv : Value} {A : Around} {outer : List Env} {s : Shared} {H0 : Hp} {E : XK} {rest : List Stmt} {u : TS}
theorem law_4 {fF : Addr} {dF : FuncData} (DF : Df P w K mg base CX0 7 "_law_fault" ["lines"] (spFl K) fF dF) (hr : Room 7 (A.deeper (envOfC "law" (defScope sLaw) s.heap.objs.size f cdv))) (hu : PSs (XL P w K mg base f cdv A outer s H0 E) rest u) :
    ∃ t, PSs (XL P w K mg base f cdv A outer s H0 E) (stL 4 :: rest) t ∧ ∀ D H (sc a d L : Addr) (ss : List Int) (os : List Ov) (qs : List (Int × Ov)) (z : Str) (y4 y6 y7 y8 y9 y10 y11 : Option V), J39 K H a sc L ss os qs → tl z ∈ [w_disc3, [], w_bdisk3, w_Disk3] →
      (∀ H', J39 K H' a sc L ss os qs → u D [some (V.ref sc), some (V.ref a), some (.ref d), some (.ref L), y4, some (.str z), y6, y7, y8, y9, y10, y11] H') →
      t D [some (V.ref sc), some (V.ref a), some (.ref d), some (.ref L), y4, some (.str z), y6, y7, y8, y9, y10, y11] H := by
  have nd := scLaw.nd
  refine ⟨_, pss_cons (ps_if (PW.pt (pw_or (pt_cmpR (op_neD hr.units) (pe_call DF.G hr rfl DF.g DF.kp DF.b .nil pass0 (pa_cons (pe_lst pa_nil) pa_nil)) (pe_tup (pa_cons pe_int (pa_cons pe_int pa_nil))) (nomark _))
      (pw_or1 (pt_cmpR (op_neD hr.units) (pe_call DF.G hr rfl DF.g DF.kp DF.b .nil pass0 (pa_cons (pe_op op_cat (pe_lst (pa_cons (pv 5) pa_nil)) (pe_slice sl_list (pv 3) (po_some pe_int) po_none)) pa_nil)) (pe_tup (pa_cons pe_int (pa_cons pe_int pa_nil))) (nomark _))))) (pss_one (ps_ret pe_bl)) pss_nil) hu,
    fun D H sc a d L ss os qs z y4 y6 y7 y8 y9 y10 y11 J hz nx => ?_⟩
  refine ⟨(by show 0 ≤ sizeLine; decide), fun q0 hq0 => ?_⟩
  have J1 := J.same (same_upd (o := .lst []) hq0)
  refine fl_ne (ls := []) (.inl (SqL.of upd_same)) (lns_of small_2.1.1) small_2.1.2 fun H1 s1 => ⟨false, rfl, iteF ?_⟩
  have J2 := J1.same s1
  refine ⟨_, rfl, (by show 1 ≤ sizeLine; decide), fun q1 hq1 => ?_⟩
  have s2 := same_upd (o := .lst [V.str z]) hq1
  have J3 := J2.same s2
  have e1 : (upd H1 q1 (.lst [V.str z])) q1 = some (.lst [V.str z]) := upd_same
  generalize upd H1 q1 (.lst [V.str z]) = H2 at J3 e1 ⊢
  refine ⟨_, rfl, _, rfl, L, _, rfl, SqL.of J3.hL, fun q2 hq2 => ?_⟩
  have s4 := same_upd (o := .lst (cutV (strV (allL os qs)) (some 1) none)) hq2
  have J4 := J3.same s4
  have e2 := s4 _ _ e1
  have e3 : (upd H2 q2 (.lst (cutV (strV (allL os qs)) (some 1) none))) q2 = some (.lst (strV ((allL os qs).drop 1))) := by
    rw [upd_same]
    have h := cut_from (strV (allL os qs)) 1
    have h' : cutV (strV (allL os qs)) (some 1) none = (strV (allL os qs)).drop 1 := h
    rw [h']
    unfold strV
    rw [List.map_drop]
  generalize upd H2 q2 (.lst (cutV (strV (allL os qs)) (some 1) none)) = H3 at J4 e2 e3 ⊢
  have hpl : (plQ os os.length).length ≤ os.length := by
    have := plK_len os os.length
    rw [plQ_K, List.length_map] at this
    exact this
  have hl : (allL os qs).length ≤ 15 := by
    have := J.n6
    have := J.q8
    rw [all_eq, List.length_cons, List.length_append, List.length_map, List.length_map]
    omega
  refine ⟨q1, q2, _, _, rfl, rfl, e2, e3, by rw [strV_len, List.length_drop, sizeLine_eq]; simp; omega, fun q3 hq3 => ?_⟩
  have J5 := J4.same (same_upd (o := .lst ([V.str z] ++ strV ((allL os qs).drop 1))) hq3)
  obtain ⟨g1, g2⟩ := first_disk J.n6 J.q8 J.ho J.hq hz
  refine fl_ne (ls := tl z :: (allL os qs).drop 1) (.inl (SqL.of ?_)) g1 g2 fun H4 s5 => ⟨false, rfl, iteF (nx H4 (J5.same s5))⟩
  rw [upd_same]
  show _ = some (HO.lst (V.str (mkS (tl z)) :: strV ((allL os qs).drop 1)))
  rw [mk_tlS]
  rfl
/-- one line, compared -/
theorem one_line {H : Hp} {Q : VK} {σ : L2.St} {x : Str} {l : List Nat} {a b : Int} (e : tl x = l) (h1 : LnsOk [l]) (h2 : diskF [l] = some (a, b)) (q : ∀ H', Same H H' → Q (.bl false) H') :
    (1 ≤ sizeLine ∧ ∀ p, H p = none → spFl K [.ref p] (upd H p (.lst [V.str x])) (fun y H2 => tTup (tCons (tC (.int a)) (tCons (tC (.int b)) tNil)) σ H2 fun z H3 => rNeD K y z H3 Q) E0) :=
  ⟨by decide, fun p hp => fl_ne (ls := [l]) (.inl (SqL.of (by rw [upd_same, ← e]; show _ = some (HO.lst [V.str (mkS (tl x))]); rw [mk_tlS]))) h1 h2 fun H' s' => q H' ((same_upd hp).trans s')⟩
theorem law_56 {fF : Addr} {dF : FuncData} (DF : Df P w K mg base CX0 7 "_law_fault" ["lines"] (spFl K) fF dF) (hr : Room 7 (A.deeper (envOfC "law" (defScope sLaw) s.heap.objs.size f cdv))) (hu : PSs (XL P w K mg base f cdv A outer s H0 E) rest u) :
    ∃ t, PSs (XL P w K mg base f cdv A outer s H0 E) (stL 5 :: stL 6 :: rest) t ∧ ∀ D H (sc a d L : Addr) (ss : List Int) (os : List Ov) (qs : List (Int × Ov)) (y4 y5 y6 y7 y8 y9 y10 y11 : Option V), J39 K H a sc L ss os qs →
      (∀ y6 H', J39 K H' a sc L ss os qs → u D [some (V.ref sc), some (V.ref a), some (.ref d), some (.ref L), y4, y5, y6, y7, y8, y9, y10, y11] H') →
      t D [some (V.ref sc), some (V.ref a), some (.ref d), some (.ref L), y4, y5, y6, y7, y8, y9, y10, y11] H := by
  have nd := scLaw.nd
  refine ⟨_, pss_cons (ps_for PassesOwn.never rfl (pi_tup (pe_tup (pa_cons pe_str (pa_cons pe_str (pa_cons pe_str (pa_cons pe_str (pa_cons pe_str (pa_cons pe_str (pa_cons pe_str (pa_cons (pe_op op_mulS pe_str pe_int) pa_nil)))))))))) (pg_name (i := 6) nd rfl (.inl rfl))
      (pss_one (ps_if (pt_cmpR (op_neD hr.units) (pe_call DF.G hr rfl DF.g DF.kp DF.b .nil pass0 (pa_cons (pe_lst (pa_cons (pe_op op_add_str pe_str (pv 6)) pa_nil)) pa_nil)) (pe_tup (pa_cons pe_int (pa_cons pe_int pa_nil))) (nomark _)) (pss_one (ps_ret pe_bl)) pss_nil)))
    (pss_cons (ps_if (PW.pt (pw_or (pt_cmpR (op_neD hr.units) (pe_call DF.G hr rfl DF.g DF.kp DF.b .nil pass0 (pa_cons (pe_lst (pa_cons pe_str pa_nil)) pa_nil)) (pe_tup (pa_cons pe_int (pa_cons pe_int pa_nil))) (nomark _))
      (pw_or (pt_cmpR (op_neD hr.units) (pe_call DF.G hr rfl DF.g DF.kp DF.b .nil pass0 (pa_cons (pe_lst (pa_cons pe_str pa_nil)) pa_nil)) (pe_tup (pa_cons pe_int (pa_cons pe_int pa_nil))) (nomark _))
      (pw_or1 (pt_cmpR (op_neD hr.units) (pe_call DF.G hr rfl DF.g DF.kp DF.b .nil pass0 (pa_cons (pe_lst (pa_cons pe_str pa_nil)) pa_nil)) (pe_tup (pa_cons pe_int (pa_cons pe_int pa_nil))) (nomark _)))))) (pss_one (ps_ret pe_bl)) pss_nil) hu),
    fun D H sc a d L ss os qs y4 y5 y6 y7 y8 y9 y10 y11 J nx => ?_⟩
  refine ⟨("9" : Str), 5000, rfl, rfl, by rw [len_tl, tl_n9]; decide, by decide, by decide, (by show 8 ≤ sizeLine; decide), fun t0 ht0 => ?_⟩
  have s0 := same_upd (o := .tup [V.str ("0" : Str), V.str ("-1" : Str), V.str ("x" : Str), V.str ("03" : Str), V.str ("+3" : Str), V.str ("3.0" : Str), V.str ("1001" : Str), V.str (Txt.mul ("9" : Str) 5000)]) ht0
  have e0 : (upd H t0 (.tup [V.str ("0" : Str), V.str ("-1" : Str), V.str ("x" : Str), V.str ("03" : Str), V.str ("+3" : Str), V.str ("3.0" : Str), V.str ("1001" : Str), V.str (Txt.mul ("9" : Str) 5000)])) t0 = some (.tup [V.str ("0" : Str), V.str ("-1" : Str), V.str ("x" : Str), V.str ("03" : Str), V.str ("+3" : Str), V.str ("3.0" : Str), V.str ("1001" : Str), V.str (Txt.mul ("9" : Str) 5000)]) := upd_same
  have J0 := J.same s0
  have hx : ∀ x ∈ [V.str ("0" : Str), V.str ("-1" : Str), V.str ("x" : Str), V.str ("03" : Str), V.str ("+3" : Str), V.str ("3.0" : Str), V.str ("1001" : Str), V.str (Txt.mul ("9" : Str) 5000)], ∃ z : Str, x = .str z ∧ z.length ≤ 5000 ∧ LnsOk [diskW ++ tl z] ∧ diskF [diskW ++ tl z] = some (0, 1) := by
    intro x hx
    have sm : ∀ (z : Str) (l : List Nat), tl z = l → l ∈ [w_n0, w_nm1, w_nx, w_n03, w_np3, w_n3p, w_n1001] → l.length ≤ 5000 → ∃ z' : Str, V.str z = .str z' ∧ z'.length ≤ 5000 ∧ LnsOk [diskW ++ tl z'] ∧ diskF [diskW ++ tl z'] = some (0, 1) := fun z l e hm hl => by
      obtain ⟨g1, g2⟩ := small_1 l hm
      exact ⟨z, rfl, by rw [len_tl, e]; exact hl, by rw [e]; exact lns_of g1, by rw [e]; exact g2⟩
    simp only [List.mem_cons, List.not_mem_nil, or_false] at hx
    rcases hx with rfl | rfl | rfl | rfl | rfl | rfl | rfl | rfl
    · exact sm _ _ tl_n0 (by simp) (by decide)
    · exact sm _ _ tl_nm1 (by simp) (by decide)
    · exact sm _ _ tl_nx (by simp) (by decide)
    · exact sm _ _ tl_n03 (by simp) (by decide)
    · exact sm _ _ tl_np3 (by simp) (by decide)
    · exact sm _ _ tl_n3p (by simp) (by decide)
    · exact sm _ _ tl_n1001 (by simp) (by decide)
    · refine ⟨_, rfl, by rw [len_tl, tl_nines, List.length_replicate]; decide, ?_⟩
      rw [tl_nines]
      exact nines
  generalize ([V.str ("0" : Str), V.str ("-1" : Str), V.str ("x" : Str), V.str ("03" : Str), V.str ("+3" : Str), V.str ("3.0" : Str), V.str ("1001" : Str), V.str (Txt.mul ("9" : Str) 5000)] : List V) = xs at s0 e0 J0 hx ⊢
  generalize upd H t0 (.tup xs) = H1 at s0 e0 J0 ⊢
  refine ⟨t0, rfl, ⟨xs, SqT.of e0⟩, for_tup (K := K) (a := t0) (xs := xs) (fun i σ' Hz => ∃ y6, σ' = [some (V.ref sc), some (V.ref a), some (.ref d), some (.ref L), y4, y5, y6, y7, y8, y9, y10, y11] ∧ Same H1 Hz) ⟨_, rfl, Same.refl _⟩ (fun i σ' Hz _ z => by obtain ⟨_, _, z⟩ := z; exact SqT.of (z _ _ e0)) ?_ ?_⟩
  · rintro i x σ' Hz hi ⟨y6, rfl, sz⟩
    obtain ⟨z, rfl, hz1, hz2, hz3⟩ := hx x (List.mem_of_getElem? hi)
    refine ⟨_, rfl, _, _, rfl, rfl, ?_, ?_⟩
    · rw [len_tl, tl_diskW, sizeLine_eq]
      have : diskW.length = 5 := by decide
      omega
    · exact one_line (l := diskW ++ tl z) (by rw [tl_append, tl_diskW]) hz2 hz3 fun H' s' => ⟨false, rfl, iteF ⟨_, rfl, sz.trans s'⟩⟩
  · rintro σ' Hz ⟨y6, rfl, sz⟩
    have Jz := J0.same sz
    refine one_line tl_dkW (lns_of small_2.2.1.1) small_2.2.1.2 fun H2 s2 => ⟨false, rfl, iteF ?_⟩
    refine one_line tl_disk34 (lns_of small_2.2.2.1.1) small_2.2.2.1.2 fun H3 s3 => ⟨false, rfl, iteF ?_⟩
    exact one_line tl_disk3b (lns_of small_2.2.2.2.1) small_2.2.2.2.2 fun H4 s4 => ⟨false, rfl, iteF (nx _ _ (((Jz.same s2).same s3).same s4))⟩
end
end Pf

set_option Elab.async false
set_option linter.all false
set_option maxRecDepth 100000
set_option maxHeartbeats 8000000
namespace Pf
open PySem PySem.Spec PyProof.Rows L2 TL
/-- a text that is computed of names and texts -/
def Vs (te : TE) (σ : L2.St) (x : Str) (n : Nat) : Prop := x.length ≤ n ∧ ∀ (H : Hp) (Q : VK), Q (.str x) H → te σ H Q
theorem Vs.c {σ : L2.St} {x : Str} {n : Nat} (h : x.length ≤ n) : Vs (tC (.str x)) σ x n := ⟨h, fun _ _ q => q⟩
theorem Vs.v {σ : L2.St} {x : Str} {n i : Nat} (h : x.length ≤ n) (e : σ[i]? = some (some (.str x))) : Vs (tVar i) σ x n := ⟨h, fun _ _ q => ⟨_, e, q⟩⟩
theorem Vs.add {σ : L2.St} {x y : Str} {n m : Nat} {t1 t2 : TE} (h1 : Vs t1 σ x n) (h2 : Vs t2 σ y m) (hs : n + m ≤ 10000) : Vs (tOp rAddT t1 t2) σ (x ++ y) (n + m) := by
  refine ⟨?_, fun H Q q => h1.2 H _ (h2.2 H _ ⟨_, _, rfl, rfl, ?_, q⟩)⟩
  · rw [len_tl, tl_append, List.length_append, ← len_tl, ← len_tl]
    have := h1.1
    have := h2.1
    omega
  · have := h1.1
    have := h2.1
    rw [sizeLine_eq]
    omega
def pD2 (x : Str × Int) : PyData := .tuple [.str x.1, .int x.2]
def Acc (K : PySem.W.Frag) (H : Hp) (vs : List V) (xs : List (Str × Int)) : Prop := DpAll K (Tp H) vs (xs.map pD2)
theorem Acc.same {K : PySem.W.Frag} {H H' : Hp} {vs : List V} {xs : List (Str × Int)} (A : Acc K H vs xs) (s : Same H H') : Acc K H' vs xs := dps_same (tp_same s) _ _ A
theorem item {K : PySem.W.Frag} {te : TE} {ts : TA} {σ : L2.St} {H : Hp} {Q : List V → Hp → Prop} {x : Str} {n : Nat} {u : Int} {vs : List V} {xs : List (Str × Int)} (A : Acc K H vs xs) (hte : Vs te σ x n)
    (k : ∀ v H', Same H H' → Acc K H' (vs ++ [v]) (xs ++ [(x, u)]) → ts σ H' fun vs2 H2 => Q (v :: vs2) H2) : tCons (tTup (tCons te (tCons (tC (.int u)) tNil))) ts σ H Q := by
  refine hte.2 _ _ ⟨(by show 2 ≤ sizeLine; decide), fun t ht => k _ _ (same_upd ht) ?_⟩
  have A' := A.same (same_upd (o := .tup [V.str x, V.int u]) ht)
  unfold Acc at A' ⊢
  rw [List.map_append]
  exact dps_app A' (.cons (.tup (SqT.of (tp_at upd_same rfl)) (.cons (.str _) (.cons (.int _) .nil))) .nil)
/-- the list of wrong lines -/
def Wr (K : PySem.W.Frag) (H : Hp) (w : Addr) (xs : List (Str × Int)) : Prop := ∃ us, H w = some (.lst us) ∧ Acc K H us xs
theorem Wr.same {K : PySem.W.Frag} {H H' : Hp} {w : Addr} {xs : List (Str × Int)} (A : Wr K H w xs) (s : Same H H') : Wr K H' w xs := by
  obtain ⟨us, e, h⟩ := A
  exact ⟨us, s _ _ e, h.same s⟩
theorem fl_ne' {K : PySem.W.Frag} {σ : L2.St} {H : Hp} {p : Addr} {ls : List (List Nat)} {a b : Int} {Q : VK} {ta : TA} (hta : ∀ H Q, Q [.int a, .int b] H → ta σ H Q) (hp : LT K H p (strV ls)) (LK : LnsOk ls) (e : diskF ls = some (a, b)) (q : ∀ H', Same H H' → Q (.bl false) H') :
    spFl K [.ref p] H (fun y H2 => tTup ta σ H2 fun z H3 => rNeD K y z H3 Q) E0 := by
  obtain ⟨p', ls', e1, h1, h2, h3, h4⟩ := fl_ne (σ := σ) (Q := Q) hp LK e q
  refine ⟨p', ls', e1, h1, h2, fun x hx t H' s' ht => ?_, fun z H' s' => ?_⟩
  · exact hta _ _ (h3 x hx t H' s' ht)
  · exact hta _ _ (h4 z H' s')
section
variable {P : Program} {w : World} {K : PySem.W.Frag} {mg : Str → Option Value} {base : Heap} {CD : Addr} {f : Addr} {cdv : Value} {A : Around} {outer : List Env} {s : Shared} {H0 : Hp} {E : XK} {rest : List Stmt} {u : TS}
theorem law_78 {fT fP : Addr} {dT dP : FuncData} (DT : Df P w K mg base CX0 2 "_law_take" ["draw", "many"] (spTake K) fT dT) (DP : Df P w K mg base CX0 3 "_law_pick" ["draw", "items"] (spPick K) fP dP) (ml : mg "len" = none) (ms : mg "str" = none) (hr : Room 7 (A.deeper (envOfC "law" (defScope sLaw) s.heap.objs.size f cdv))) (hu : PSs (XL P w K mg base f cdv A outer s H0 E) rest u) :
    ∃ t, PSs (XL P w K mg base f cdv A outer s H0 E) (stL 7 :: stL 8 :: rest) t ∧ ∀ D H (sc a d L : Addr) (ss : List Int) (os : List Ov) (qs : List (Int × Ov)) (y5 y6 y7 y8 y9 y10 y11 : Option V), J39 K H a sc L ss os qs →
      (∀ (i : Nat) (z : Str) H', J39 K H' a sc L ss os qs → i < os.length → tl z ∈ vals4 → u D [some (V.ref sc), some (V.ref a), some (.ref d), some (.ref L), some (.int ((os.length : Nat) : Int)), y5, y6, some (.int (((allL os qs).length : Nat) : Int)), some (.str (Str.ofString (toString ((i : Nat) : Int)))), some (.str z), y10, y11] H') →
      t D [some (V.ref sc), some (V.ref a), some (.ref d), some (.ref L), some (.int ((os.length : Nat) : Int)), y5, y6, y7, y8, y9, y10, y11] H := by
  have nd := scLaw.nd
  have h2 : Room 2 _ := hr.mono (by decide)
  have h3 : Room 3 _ := hr.mono (by decide)
  refine ⟨_, pss_cons (ps_set (i := 7) nd rfl (.inl rfl) (pe_callB call_len_seq (by rfl) ml boot_len (pa_cons (pv 3) pa_nil)))
    (pss_cons (ps_par rfl nd (i := 8) (j := 9) rfl rfl (by decide) rfl rfl (pa_cons (pe_callTy call_str_int (by rfl) ms (by decide +kernel) (pa_cons (pe_call DT.G h2 rfl DT.g DT.kp DT.b .nil pass0 (pa_cons (pv 1) (pa_cons (pv 4) pa_nil))) pa_nil)) (pa_cons (pe_call DP.G h3 rfl DP.g DP.kp DP.b .nil pass0 (pa_cons (pv 1) (pa_cons (pe_lst (pa_cons pe_str (pa_cons pe_str (pa_cons pe_str (pa_cons pe_str pa_nil))))) pa_nil))) pa_nil)) (by rfl))
    hu), fun D H sc a d L ss os qs y5 y6 y7 y8 y9 y10 y11 J nx => ?_⟩
  have n1 := J.n1
  have n6 := J.n6
  refine ⟨_, rfl, L, _, rfl, .inl (SqL.of J.hL), ?_⟩
  refine ⟨_, rfl, _, rfl, a, sc, ss, _, rfl, J.D, by omega, fun r H1 r0 r1 b1 D1 => ?_⟩
  have J1 := J.draw b1 D1
  obtain ⟨i, rfl⟩ : ∃ i : Nat, r = ((i : Nat) : Int) := ⟨r.toNat, by omega⟩
  refine ⟨_, rfl, few_log (few_nat (by omega)), ?_⟩
  refine ⟨_, rfl, (by show 4 ≤ sizeLine; decide), fun q1 hq1 => ?_⟩
  have s4 := same_upd (o := .lst [V.str ("torn" : Str), V.str ("1,2" : Str), V.str ("-5" : Str), V.str ("0" : Str)]) hq1
  have J2 := J1.same s4
  have nqa : q1 ≠ a := J1.D.ne hq1
  have eq4 : (upd H1 q1 (.lst [V.str ("torn" : Str), V.str ("1,2" : Str), V.str ("-5" : Str), V.str ("0" : Str)])) q1 = some (.lst [V.str ("torn" : Str), V.str ("1,2" : Str), V.str ("-5" : Str), V.str ("0" : Str)]) := upd_same
  generalize upd H1 q1 (.lst [V.str ("torn" : Str), V.str ("1,2" : Str), V.str ("-5" : Str), V.str ("0" : Str)]) = H2 at J2 eq4 ⊢
  refine ⟨a, q1, sc, ss, _, rfl, J2.D, eq4, nqa, by simp, fun v H5 hv b5 D5 => ?_⟩
  have hz : ∃ z : Str, v = .str z ∧ tl z ∈ vals4 := by
    simp only [List.mem_cons, List.not_mem_nil, or_false] at hv
    rcases hv with rfl | rfl | rfl | rfl
    · exact ⟨_, rfl, by rw [tl_torn]; simp [vals4]⟩
    · exact ⟨_, rfl, by rw [tl_v12]; simp [vals4]⟩
    · exact ⟨_, rfl, by rw [tl_vm5]; simp [vals4]⟩
    · exact ⟨_, rfl, by rw [tl_n0]; simp [vals4]⟩
  obtain ⟨z, rfl, hz⟩ := hz
  refine ⟨_, _, rfl, ?_⟩
  have hl : (strV (allL os qs)).length = (allL os qs).length := strV_len _
  rw [hl]
  exact nx i z H5 (J2.draw b5 D5) (by omega) hz
end
end Pf

set_option Elab.async false
set_option linter.all false
set_option maxRecDepth 100000
set_option maxHeartbeats 8000000
namespace Pf
open PySem PySem.Spec PyProof.Rows L2 TL
theorem tl_sp : tl ((" " : Str)) = [32] := by
  show tl (Str.ofString " ") = _
  rw [tl_ofString]; rfl
theorem Vs.num {σ : L2.St} (j : Nat) {n : Nat} (e : σ[j]? = some (some (.int ((n : Nat) : Int)))) (hl : (Str.ofString (toString ((n : Nat) : Int))).length ≤ 31) (hg : (((n : Nat) : Int)).natAbs.log2 < 1920) :
    Vs (tCB (fun xs H Q => ∃ i : Int, xs = [.int i] ∧ i.natAbs.log2 < 1920 ∧ Q (.str (toString i)) H) (tCons (tVar j) tNil)) σ (Str.ofString (toString ((n : Nat) : Int))) 31 := ⟨hl, fun H Q q => ⟨_, e, _, rfl, hg, q⟩⟩
/-- the wrong lines as they are written in the law -/
def wrS (p m z : Str) : List (Str × Int) :=
  [(("lose " : Str) ++ p ++ (" " : Str) ++ z, 0), (("" : Str), 0), (("loose" : Str), 1), (("loose " : Str) ++ m ++ (" " : Str) ++ z, 1), (("loose -1 " : Str) ++ z, 1)] ++
  [(("loose 0" : Str) ++ p ++ (" " : Str) ++ z, 1), (("loose " : Str) ++ p, 2), (("loose " : Str) ++ p ++ (" " : Str) ++ z ++ ("," : Str), 2), (("loose " : Str) ++ p ++ (" -0" : Str), 2)] ++
  [(("loose " : Str) ++ p ++ (" 1,,2" : Str), 2), (("loose " : Str) ++ p ++ (" Torn" : Str), 2), (("loose " : Str) ++ p ++ (" " : Str) ++ z ++ (" 1" : Str), 3), (("loose " : Str) ++ p ++ (" 01" : Str), 2)]
theorem wrS_L (p m z : Str) : (wrS p m z).map (fun x => (tl x.1, x.2)) = wrL (tl p) (tl m) (tl z) := by
  simp only [wrS, wrL, List.map_append, List.map_cons, List.map_nil, tl_append, tl_loseb, tl_sp, tl_loW, tl_looseW, tl_loosem1, tl_loose0, tl_comma1, tl_sm0, tl_s1cc2, tl_sTorn, tl_s1, tl_s01]
  rfl
abbrev SW (sc a d L : Addr) (n : Int) (y5 y6 y7 : Option V) (p z : Str) (y10 y11 : Option V) : L2.St := [some (V.ref sc), some (V.ref a), some (.ref d), some (.ref L), some (.int n), y5, y6, y7, some (.str p), some (.str z), y10, y11]
theorem Acc.app {K : PySem.W.Frag} {H : Hp} {vs vs' : List V} {xs xs' : List (Str × Int)} (A : Acc K H vs xs) (B : Acc K H vs' xs') : Acc K H (vs ++ vs') (xs ++ xs') := by
  unfold Acc at A B ⊢
  rw [List.map_append]
  exact dps_app A B
theorem set_lst {ta : TA} {ts : TS} {D : Ends} {σ : L2.St} {H : Hp} {i : Nat} (h : ta σ H fun vs H1 => vs.length ≤ sizeLine ∧ ∀ p, H1 p = none → ts D (σ.set i (some (.ref p))) (upd H1 p (.lst vs))) : tSeq (tAsg (tLst ta) (gName i)) ts D σ H := h
theorem set_cat {te : TE} {ta : TA} {ts : TS} {D : Ends} {σ : L2.St} {H : Hp} {i : Nat} (h : te σ H fun x H1 => ta σ H1 fun vs H2 => vs.length ≤ sizeLine ∧ ∀ q, H2 q = none → rCat x (.ref q) (upd H2 q (.lst vs)) fun y H3 => ts D (σ.set i (some y)) H3) : tSeq (tAsg (tOp rCat te (tLst ta)) (gName i)) ts D σ H := h
section
variable {P : Program} {w : World} {K : PySem.W.Frag} {mg : Str → Option Value} {base : Heap} {CD : Addr} {f : Addr} {cdv : Value} {A : Around} {outer : List Env} {s : Shared} {H0 : Hp} {E : XK} {rest : List Stmt} {u : TS}
theorem law_9 (ms : mg "str" = none) (hu : PSs (XL P w K mg base f cdv A outer s H0 E) rest u) :
    ∃ t, PSs (XL P w K mg base f cdv A outer s H0 E) (stL 9 :: stL 10 :: stL 11 :: rest) t ∧ ∀ D H (sc a d L : Addr) (ss : List Int) (os : List Ov) (qs : List (Int × Ov)) (i : Nat) (z : Str) (y5 y6 y7 y10 y11 : Option V), J39 K H a sc L ss os qs → i < os.length → tl z ∈ vals4 →
      (∀ (W : Addr) H', J39 K H' a sc L ss os qs → Wr K H' W (wrS (Str.ofString (toString ((i : Nat) : Int))) (Str.ofString (toString ((os.length : Nat) : Int))) z) → u D [some (V.ref sc), some (V.ref a), some (.ref d), some (.ref L), some (.int ((os.length : Nat) : Int)), y5, y6, y7, some (.str (Str.ofString (toString ((i : Nat) : Int)))), some (.str z), some (.ref W), y11] H') →
      t D [some (V.ref sc), some (V.ref a), some (.ref d), some (.ref L), some (.int ((os.length : Nat) : Int)), y5, y6, y7, some (.str (Str.ofString (toString ((i : Nat) : Int)))), some (.str z), y10, y11] H := by
  have nd := scLaw.nd
  refine ⟨_, pss_cons (ps_set (i := 10) nd rfl (.inl rfl) (pe_lst (pa_cons (pe_tup (pa_cons (pe_op op_add_str (pe_op op_add_str (pe_op op_add_str pe_str (pv 8)) pe_str) (pv 9)) (pa_cons pe_int pa_nil))) (pa_cons (pe_tup (pa_cons pe_str (pa_cons pe_int pa_nil))) (pa_cons (pe_tup (pa_cons pe_str (pa_cons pe_int pa_nil))) (pa_cons (pe_tup (pa_cons (pe_op op_add_str (pe_op op_add_str (pe_op op_add_str pe_str (pe_callTy call_str_int (by rfl) ms (by decide +kernel) (pa_cons (pv 4) pa_nil))) pe_str) (pv 9)) (pa_cons pe_int pa_nil))) (pa_cons (pe_tup (pa_cons (pe_op op_add_str pe_str (pv 9)) (pa_cons pe_int pa_nil))) pa_nil)))))))
    (pss_cons (ps_set (i := 10) nd rfl (.inl rfl) (pe_op op_cat (pv 10) (pe_lst (pa_cons (pe_tup (pa_cons (pe_op op_add_str (pe_op op_add_str (pe_op op_add_str pe_str (pv 8)) pe_str) (pv 9)) (pa_cons pe_int pa_nil))) (pa_cons (pe_tup (pa_cons (pe_op op_add_str pe_str (pv 8)) (pa_cons pe_int pa_nil))) (pa_cons (pe_tup (pa_cons (pe_op op_add_str (pe_op op_add_str (pe_op op_add_str (pe_op op_add_str pe_str (pv 8)) pe_str) (pv 9)) pe_str) (pa_cons pe_int pa_nil))) (pa_cons (pe_tup (pa_cons (pe_op op_add_str (pe_op op_add_str pe_str (pv 8)) pe_str) (pa_cons pe_int pa_nil))) pa_nil)))))))
    (pss_cons (ps_set (i := 10) nd rfl (.inl rfl) (pe_op op_cat (pv 10) (pe_lst (pa_cons (pe_tup (pa_cons (pe_op op_add_str (pe_op op_add_str pe_str (pv 8)) pe_str) (pa_cons pe_int pa_nil))) (pa_cons (pe_tup (pa_cons (pe_op op_add_str (pe_op op_add_str pe_str (pv 8)) pe_str) (pa_cons pe_int pa_nil))) (pa_cons (pe_tup (pa_cons (pe_op op_add_str (pe_op op_add_str (pe_op op_add_str (pe_op op_add_str pe_str (pv 8)) pe_str) (pv 9)) pe_str) (pa_cons pe_int pa_nil))) (pa_cons (pe_tup (pa_cons (pe_op op_add_str (pe_op op_add_str pe_str (pv 8)) pe_str) (pa_cons pe_int pa_nil))) pa_nil)))))))
    hu)), fun D H sc a d L ss os qs i z y5 y6 y7 y10 y11 J hi hz nx => ?_⟩
  have n6 := J.n6
  have lp : (Str.ofString (toString ((i : Nat) : Int))).length ≤ 31 := by rw [len_tl, tl_int]; exact few_len (few_nat (by omega))
  have lm : (Str.ofString (toString ((os.length : Nat) : Int))).length ≤ 31 := by rw [len_tl, tl_int]; exact few_len (few_nat (by omega))
  have hm : (((os.length : Nat) : Int)).natAbs.log2 < 1920 := few_log (few_nat (by omega))
  have lz : z.length ≤ 10 := by
    rw [len_tl]
    have h : ∀ v ∈ vals4, v.length ≤ 10 := by decide
    exact h _ hz
  generalize Str.ofString (toString ((i : Nat) : Int)) = p at lp nx ⊢
  have A00 : Acc K H [] [] := .nil
  refine set_lst ?_
  refine item (σ := SW sc a d L ((os.length : Nat) : Int) y5 y6 y7 p z (y10) y11) A00 (Vs.add (Vs.add (Vs.add (Vs.c (n := 20) (by rw [len_tl, tl_loseb]; decide)) (Vs.v (i := 8) lp (by rfl)) (by decide)) (Vs.c (n := 20) (by rw [len_tl, tl_sp]; decide)) (by decide)) (Vs.v (i := 9) lz (by rfl)) (by decide)) fun v0 H0 s0 A0 => ?_
  refine item (σ := SW sc a d L ((os.length : Nat) : Int) y5 y6 y7 p z (y10) y11) A0 (Vs.c (n := 20) (by decide)) fun v1 H1 s1 A1 => ?_
  refine item (σ := SW sc a d L ((os.length : Nat) : Int) y5 y6 y7 p z (y10) y11) A1 (Vs.c (n := 20) (by rw [len_tl, tl_loW]; decide)) fun v2 H2 s2 A2 => ?_
  refine item (σ := SW sc a d L ((os.length : Nat) : Int) y5 y6 y7 p z (y10) y11) A2 (Vs.add (Vs.add (Vs.add (Vs.c (n := 20) (by rw [len_tl, tl_looseW]; decide)) (Vs.num 4 (by rfl) lm hm) (by decide)) (Vs.c (n := 20) (by rw [len_tl, tl_sp]; decide)) (by decide)) (Vs.v (i := 9) lz (by rfl)) (by decide)) fun v3 H3 s3 A3 => ?_
  refine item (σ := SW sc a d L ((os.length : Nat) : Int) y5 y6 y7 p z (y10) y11) A3 (Vs.add (Vs.c (n := 20) (by rw [len_tl, tl_loosem1]; decide)) (Vs.v (i := 9) lz (by rfl)) (by decide)) fun v4 H4 s4 A4 => ?_
  refine ⟨(by show 5 ≤ sizeLine; decide), fun q1 hq1 => ?_⟩
  have sq1 := same_upd (o := .lst [v0, v1, v2, v3, v4]) hq1
  have eq1 : (upd H4 q1 (.lst [v0, v1, v2, v3, v4])) q1 = some (.lst [v0, v1, v2, v3, v4]) := upd_same
  have J1 := J.same (((((s0.trans s1).trans s2).trans s3).trans s4).trans sq1)
  have B1 := A4.same sq1
  generalize upd H4 q1 (.lst [v0, v1, v2, v3, v4]) = G1 at J1 eq1 B1 ⊢
  have A00 : Acc K G1 [] [] := .nil
  refine set_cat ⟨_, rfl, ?_⟩
  refine item (σ := SW sc a d L ((os.length : Nat) : Int) y5 y6 y7 p z (some (.ref q1)) y11) A00 (Vs.add (Vs.add (Vs.add (Vs.c (n := 20) (by rw [len_tl, tl_loose0]; decide)) (Vs.v (i := 8) lp (by rfl)) (by decide)) (Vs.c (n := 20) (by rw [len_tl, tl_sp]; decide)) (by decide)) (Vs.v (i := 9) lz (by rfl)) (by decide)) fun v5 H5 s5 A5 => ?_
  refine item (σ := SW sc a d L ((os.length : Nat) : Int) y5 y6 y7 p z (some (.ref q1)) y11) A5 (Vs.add (Vs.c (n := 20) (by rw [len_tl, tl_looseW]; decide)) (Vs.v (i := 8) lp (by rfl)) (by decide)) fun v6 H6 s6 A6 => ?_
  refine item (σ := SW sc a d L ((os.length : Nat) : Int) y5 y6 y7 p z (some (.ref q1)) y11) A6 (Vs.add (Vs.add (Vs.add (Vs.add (Vs.c (n := 20) (by rw [len_tl, tl_looseW]; decide)) (Vs.v (i := 8) lp (by rfl)) (by decide)) (Vs.c (n := 20) (by rw [len_tl, tl_sp]; decide)) (by decide)) (Vs.v (i := 9) lz (by rfl)) (by decide)) (Vs.c (n := 20) (by rw [len_tl, tl_comma1]; decide)) (by decide)) fun v7 H7 s7 A7 => ?_
  refine item (σ := SW sc a d L ((os.length : Nat) : Int) y5 y6 y7 p z (some (.ref q1)) y11) A7 (Vs.add (Vs.add (Vs.c (n := 20) (by rw [len_tl, tl_looseW]; decide)) (Vs.v (i := 8) lp (by rfl)) (by decide)) (Vs.c (n := 20) (by rw [len_tl, tl_sm0]; decide)) (by decide)) fun v8 H8 s8 A8 => ?_
  refine ⟨(by show 4 ≤ sizeLine; decide), fun q2 hq2 => ?_⟩
  have sq2 := same_upd (o := .lst [v5, v6, v7, v8]) hq2
  have eq2 : (upd H8 q2 (.lst [v5, v6, v7, v8])) q2 = some (.lst [v5, v6, v7, v8]) := upd_same
  have s58 := ((((s5.trans s6).trans s7).trans s8).trans sq2)
  have J2 := J1.same s58
  have B2 := A8.same sq2
  have B12 := B1.same s58
  have eq12 := s58 _ _ eq1
  generalize upd H8 q2 (.lst [v5, v6, v7, v8]) = G2 at J2 eq2 B2 B12 eq12 ⊢
  refine ⟨q1, q2, _, _, rfl, rfl, eq12, eq2, (by show 9 ≤ sizeLine; decide), fun q3 hq3 => ?_⟩
  have sq3 := same_upd (o := .lst ([v0, v1, v2, v3, v4] ++ [v5, v6, v7, v8])) hq3
  have J3 := J2.same sq3
  have eq3 : (upd G2 q3 (.lst ([v0, v1, v2, v3, v4] ++ [v5, v6, v7, v8]))) q3 = some (.lst ([v0, v1, v2, v3, v4] ++ [v5, v6, v7, v8])) := upd_same
  have B3 : Acc K (upd G2 q3 (.lst ([v0, v1, v2, v3, v4] ++ [v5, v6, v7, v8]))) ([v0, v1, v2, v3, v4] ++ [v5, v6, v7, v8]) _ := (B12.same sq3).app (B2.same sq3)
  generalize upd G2 q3 (.lst ([v0, v1, v2, v3, v4] ++ [v5, v6, v7, v8])) = G3 at J3 eq3 B3 ⊢
  have A00 : Acc K G3 [] [] := .nil
  refine set_cat ⟨_, rfl, ?_⟩
  refine item (σ := SW sc a d L ((os.length : Nat) : Int) y5 y6 y7 p z (some (.ref q3)) y11) A00 (Vs.add (Vs.add (Vs.c (n := 20) (by rw [len_tl, tl_looseW]; decide)) (Vs.v (i := 8) lp (by rfl)) (by decide)) (Vs.c (n := 20) (by rw [len_tl, tl_s1cc2]; decide)) (by decide)) fun v9 H9 s9 A9 => ?_
  refine item (σ := SW sc a d L ((os.length : Nat) : Int) y5 y6 y7 p z (some (.ref q3)) y11) A9 (Vs.add (Vs.add (Vs.c (n := 20) (by rw [len_tl, tl_looseW]; decide)) (Vs.v (i := 8) lp (by rfl)) (by decide)) (Vs.c (n := 20) (by rw [len_tl, tl_sTorn]; decide)) (by decide)) fun v10 H10 s10 A10 => ?_
  refine item (σ := SW sc a d L ((os.length : Nat) : Int) y5 y6 y7 p z (some (.ref q3)) y11) A10 (Vs.add (Vs.add (Vs.add (Vs.add (Vs.c (n := 20) (by rw [len_tl, tl_looseW]; decide)) (Vs.v (i := 8) lp (by rfl)) (by decide)) (Vs.c (n := 20) (by rw [len_tl, tl_sp]; decide)) (by decide)) (Vs.v (i := 9) lz (by rfl)) (by decide)) (Vs.c (n := 20) (by rw [len_tl, tl_s1]; decide)) (by decide)) fun v11 H11 s11 A11 => ?_
  refine item (σ := SW sc a d L ((os.length : Nat) : Int) y5 y6 y7 p z (some (.ref q3)) y11) A11 (Vs.add (Vs.add (Vs.c (n := 20) (by rw [len_tl, tl_looseW]; decide)) (Vs.v (i := 8) lp (by rfl)) (by decide)) (Vs.c (n := 20) (by rw [len_tl, tl_s01]; decide)) (by decide)) fun v12 H12 s12 A12 => ?_
  refine ⟨(by show 4 ≤ sizeLine; decide), fun q4 hq4 => ?_⟩
  have sq4 := same_upd (o := .lst [v9, v10, v11, v12]) hq4
  have eq4 : (upd H12 q4 (.lst [v9, v10, v11, v12])) q4 = some (.lst [v9, v10, v11, v12]) := upd_same
  have s93 := ((((s9.trans s10).trans s11).trans s12).trans sq4)
  have J4 := J3.same s93
  have B4 := A12.same sq4
  have B34 := B3.same s93
  have eq34 := s93 _ _ eq3
  generalize upd H12 q4 (.lst [v9, v10, v11, v12]) = G4 at J4 eq4 B4 B34 eq34 ⊢
  refine ⟨q3, q4, _, _, rfl, rfl, eq34, eq4, (by show 13 ≤ sizeLine; decide), fun q5 hq5 => ?_⟩
  have sq5 := same_upd (o := .lst (([v0, v1, v2, v3, v4] ++ [v5, v6, v7, v8]) ++ [v9, v10, v11, v12])) hq5
  refine nx q5 _ (J4.same sq5) ⟨_, upd_same, ?_⟩
  exact (B34.same sq5).app (B4.same sq5)
end
end Pf

set_option Elab.async false
set_option linter.all false
set_option maxRecDepth 100000
set_option maxHeartbeats 8000000
namespace Pf
open PySem PySem.Spec PyProof.Rows L2 TL
section
variable {P : Program} {w : World} {K : PySem.W.Frag} {mg : Str → Option Value} {base : Heap} {CD : Addr} {f : Addr} {cdv : Value} {A : Around} {outer : List Env} {s : Shared} {H0 : Hp} {E : XK} {rest : List Stmt} {u : TS}
theorem law_12 {fF : Addr} {dF : FuncData} (DF : Df P w K mg base CX0 7 "_law_fault" ["lines"] (spFl K) fF dF) (hr : Room 7 (A.deeper (envOfC "law" (defScope sLaw) s.heap.objs.size f cdv))) (hu : PSs (XL P w K mg base f cdv A outer s H0 E) rest u) :
    ∃ t, PSs (XL P w K mg base f cdv A outer s H0 E) (stL 12 :: rest) t ∧ ∀ D H (sc a d L W : Addr) (ss : List Int) (os : List Ov) (qs : List (Int × Ov)) (xs : List (Str × Int)) (y4 y5 y6 y8 y9 y11 : Option V), J39 K H a sc L ss os qs → Wr K H W xs →
      (∀ x ∈ xs, LnsOk (allL os qs ++ [tl x.1, w_nothing]) ∧ diskF (allL os qs ++ [tl x.1, w_nothing]) = some ((((allL os qs).length : Nat) : Int), x.2)) → (allL os qs).length ≤ 15 →
      (∀ y6 y11 H', J39 K H' a sc L ss os qs → u D [some (V.ref sc), some (V.ref a), some (.ref d), some (.ref L), y4, y5, y6, some (.int (((allL os qs).length : Nat) : Int)), y8, y9, some (.ref W), y11] H') →
      t D [some (V.ref sc), some (V.ref a), some (.ref d), some (.ref L), y4, y5, y6, some (.int (((allL os qs).length : Nat) : Int)), y8, y9, some (.ref W), y11] H := by
  have nd := scLaw.nd
  refine ⟨_, pss_cons (ps_for PassesOwn.never rfl (pi_list (pv 10)) (pg_tup rfl (pgs_cons (pg_name (i := 11) nd rfl (.inl rfl)) (pgs_cons (pg_name (i := 6) nd rfl (.inl rfl)) pgs_nil)))
      (pss_one (ps_if (pt_cmpR (op_neD hr.units) (pe_call DF.G hr rfl DF.g DF.kp DF.b .nil pass0 (pa_cons (pe_op op_cat (pv 3) (pe_lst (pa_cons (pv 11) (pa_cons pe_str pa_nil)))) pa_nil)) (pe_tup (pa_cons (pv 7) (pa_cons (pv 6) pa_nil))) (nomark _)) (pss_one (ps_ret pe_bl)) pss_nil))) hu,
    fun D H sc a d L W ss os qs xs y4 y5 y6 y8 y9 y11 J hW hx hl nx => ?_⟩
  obtain ⟨us, eW, aW⟩ := hW
  refine ⟨_, rfl, W, rfl, ⟨us, SqL.of eW⟩, for_list (K := K) (a := W) (xs := us) (fun i σ' Hz => ∃ y6 y11, σ' = [some (V.ref sc), some (V.ref a), some (.ref d), some (.ref L), y4, y5, y6, some (.int (((allL os qs).length : Nat) : Int)), y8, y9, some (.ref W), y11] ∧ Same H Hz) ⟨_, _, rfl, Same.refl _⟩ (fun i σ' Hz _ z => by obtain ⟨_, _, _, z⟩ := z; exact SqL.of (z _ _ eW)) ?_ ?_⟩
  · rintro i v σ' Hz hi ⟨y6, y11, rfl, sz⟩
    obtain ⟨e, he, hd9⟩ := dps_get aW hi
    rw [List.getElem?_map] at he
    cases hqi : xs[i]? with
    | none => rw [hqi] at he; cases he
    | some q =>
    rw [hqi] at he
    cases (Option.some.inj he)
    cases hd9 with
    | @tup b xs' _ hb hxs =>
    cases hxs with
    | cons h1 h2 =>
    cases h1 with
    | str =>
    cases h2 with
    | cons h3 h4 =>
    cases h3 with
    | int =>
    cases h4
    obtain ⟨g1, g2⟩ := hx q (List.mem_of_getElem? hqi)
    have hbz := same_seqT tp_le (same_seqT (tp_same sz) hb)
    refine ⟨b, _, rfl, hbz, rfl, _, _, rfl, _, _, rfl, rfl, ?_⟩
    refine ⟨_, rfl, _, rfl, (by show 2 ≤ sizeLine; decide), fun q1 hq1 => ?_⟩
    have Jz := J.same sz
    have s1 := same_upd (o := .lst [V.str q.1, V.str ("nothing" : Str)]) hq1
    have eL := s1 _ _ Jz.hL
    refine ⟨L, q1, _, _, rfl, rfl, eL, upd_same, by rw [strV_len, sizeLine_eq]; simp; omega, fun p hp => ?_⟩
    have s2 := same_upd (o := .lst (strV (allL os qs) ++ [V.str q.1, V.str ("nothing" : Str)])) hp
    refine fl_ne' (fun H Q k => ⟨_, rfl, _, rfl, k⟩) (.inl (SqL.of ?_)) g1 g2 fun H' s' => ⟨false, rfl, iteF ⟨_, _, rfl, ((sz.trans s1).trans s2).trans s'⟩⟩
    rw [upd_same, strV_app]
    show _ = some (HO.lst (strV (allL os qs) ++ [V.str (mkS (tl q.1)), V.str (mkS w_nothing)]))
    rw [mk_tlS, ← tl_nothing, mk_tlS]
  · rintro σ' Hz ⟨y6, y11, rfl, sz⟩
    exact nx _ _ Hz (J.same sz)
theorem lst_one {te : TE} {σ : L2.St} {H : Hp} {Q : VK} {x : Str} {n : Nat} (hv : Vs te σ x n) (h : 1 ≤ sizeLine ∧ ∀ p, H p = none → Q (.ref p) (upd H p (.lst [.str x]))) : tLst (tCons te tNil) σ H Q := hv.2 _ _ h
/-- three lines, compared -/
theorem fl_lines {H : Hp} {Q : VK} {σ : L2.St} {p : Addr} {xs : List Str} {ls : List (List Nat)} {a b : Int} (hp : H p = some (.lst (xs.map V.str))) (e : xs.map tl = ls) (h1 : lnsB ls = true) (h2 : diskF ls = some (a, b)) (q : ∀ H', Same H H' → Q (.bl false) H') :
    spFl K [.ref p] H (fun y H2 => tTup (tCons (tC (.int a)) (tCons (tC (.int b)) tNil)) σ H2 fun z H3 => rNeD K y z H3 Q) E0 := by
  refine fl_ne (ls := ls) (.inl (SqL.of ?_)) (lns_of h1) h2 q
  rw [hp, ← e]
  congr 2
  unfold strV
  rw [List.map_map]
  exact List.map_congr_left fun x _ => by show V.str x = V.str (mkS (tl x)); rw [mk_tlS]
theorem law_1315 {fF : Addr} {dF : FuncData} (DF : Df P w K mg base CX0 7 "_law_fault" ["lines"] (spFl K) fF dF) (hr : Room 7 (A.deeper (envOfC "law" (defScope sLaw) s.heap.objs.size f cdv))) :
    ∃ t, PSs (XL P w K mg base f cdv A outer s H0 E) [stL 13, stL 14, stL 15] t ∧ ∀ D H (sc a d L : Addr) (ss : List Int) (os : List Ov) (qs : List (Int × Ov)) (p z : Str) (y4 y5 y6 y7 y10 y11 : Option V), J39 K H a sc L ss os qs → p.length ≤ 31 → z.length ≤ 10 →
      LnsOk (allL os qs ++ [looseW ++ tl p ++ [32] ++ tl z]) → diskF (allL os qs ++ [looseW ++ tl p ++ [32] ++ tl z]) = none → (allL os qs).length ≤ 15 →
      (∀ H', D.rt (.bl true) H') →
      t D [some (V.ref sc), some (V.ref a), some (.ref d), some (.ref L), y4, y5, y6, y7, some (.str p), some (.str z), y10, y11] H := by
  have nd := scLaw.nd
  refine ⟨_, pss_cons (ps_if (PW.pt (pw_or (pt_cmpR (op_neD hr.units) (pe_call DF.G hr rfl DF.g DF.kp DF.b .nil pass0 (pa_cons (pe_lst (pa_cons pe_str (pa_cons pe_str (pa_cons pe_str pa_nil)))) pa_nil)) (pe_tup (pa_cons pe_int (pa_cons pe_int pa_nil))) (nomark _))
      (pw_or1 (pt_cmpR (op_neD hr.units) (pe_call DF.G hr rfl DF.g DF.kp DF.b .nil pass0 (pa_cons (pe_lst (pa_cons pe_str (pa_cons pe_str (pa_cons pe_str pa_nil)))) pa_nil)) (pe_tup (pa_cons pe_int (pa_cons pe_int pa_nil))) (nomark _))))) (pss_one (ps_ret pe_bl)) pss_nil)
    (pss_cons (ps_if (PW.pt (pw_or (pt_cmpR (op_neD hr.units) (pe_call DF.G hr rfl DF.g DF.kp DF.b .nil pass0 (pa_cons (pe_lst (pa_cons pe_str (pa_cons pe_str pa_nil))) pa_nil)) (pe_tup (pa_cons pe_int (pa_cons pe_int pa_nil))) (nomark _))
      (pw_or1 (pt_cmpR (op_neD hr.units) (pe_call DF.G hr rfl DF.g DF.kp DF.b .nil pass0 (pa_cons (pe_lst (pa_cons pe_str (pa_cons pe_str (pa_cons pe_str pa_nil)))) pa_nil)) (pe_tup (pa_cons pe_int (pa_cons pe_int pa_nil))) (nomark _))))) (pss_one (ps_ret pe_bl)) pss_nil)
    (pss_one (ps_ret (pe_cmpR op_isN (pe_call DF.G hr rfl DF.g DF.kp DF.b .nil pass0 (pa_cons (pe_op op_cat (pv 3) (pe_lst (pa_cons (pe_op op_add_str (pe_op op_add_str (pe_op op_add_str pe_str (pv 8)) pe_str) (pv 9)) pa_nil))) pa_nil)) pe_non (nomark _))))),
    fun D H sc a d L ss os qs p z y4 y5 y6 y7 y10 y11 J lp lz g1 g2 hl k => ?_⟩
  obtain ⟨⟨m1, m2⟩, ⟨m3, m4⟩, ⟨m5, m6⟩, m7, m8⟩ := small_3
  refine ⟨(by show 3 ≤ sizeLine; decide), fun q1 hq1 => ?_⟩
  have J1 := J.same (same_upd (o := .lst [V.str ("disk 3" : Str), V.str ("plate 1 5" : Str), V.str ("plate 1 6" : Str)]) hq1)
  refine fl_lines (xs := [("disk 3" : Str), ("plate 1 5" : Str), ("plate 1 6" : Str)]) upd_same (by simp only [List.map_cons, List.map_nil, tl_disk3, tl_p15, tl_p16]) m1 m2 fun H2 s2 => ⟨false, rfl, iteF ?_⟩
  have J2 := J1.same s2
  refine ⟨(by show 3 ≤ sizeLine; decide), fun q2 hq2 => ?_⟩
  have J3 := J2.same (same_upd (o := .lst [V.str ("disk 3" : Str), V.str ("plate 2 5" : Str), V.str ("plate 0 6" : Str)]) hq2)
  refine fl_lines (xs := [("disk 3" : Str), ("plate 2 5" : Str), ("plate 0 6" : Str)]) upd_same (by simp only [List.map_cons, List.map_nil, tl_disk3, tl_p25, tl_p06]) m3 m4 fun H3 s3 => ⟨false, rfl, iteF ?_⟩
  have J4 := J3.same s3
  refine ⟨(by show 2 ≤ sizeLine; decide), fun q3 hq3 => ?_⟩
  have J5 := J4.same (same_upd (o := .lst [V.str ("disk 3" : Str), V.str ("plate 1 empty" : Str)]) hq3)
  refine fl_lines (xs := [("disk 3" : Str), ("plate 1 empty" : Str)]) upd_same (by simp only [List.map_cons, List.map_nil, tl_disk3, tl_p1e]) m5 m6 fun H4 s4 => ⟨false, rfl, iteF ?_⟩
  have J6 := J5.same s4
  refine ⟨(by show 3 ≤ sizeLine; decide), fun q4 hq4 => ?_⟩
  have J7 := J6.same (same_upd (o := .lst [V.str ("disk 3" : Str), V.str ("loose 1 empty" : Str), V.str ("plate 2 5" : Str)]) hq4)
  refine fl_lines (xs := [("disk 3" : Str), ("loose 1 empty" : Str), ("plate 2 5" : Str)]) upd_same (by simp only [List.map_cons, List.map_nil, tl_disk3, tl_l1e, tl_p25]) m7 m8 fun H5 s5 => ⟨false, rfl, iteF ?_⟩
  have J8 := J7.same s5
  have hv : Vs (tOp rAddT (tOp rAddT (tOp rAddT (tC (.str ("loose " : Str))) (tVar 8)) (tC (.str (" " : Str)))) (tVar 9)) [some (V.ref sc), some (V.ref a), some (.ref d), some (.ref L), y4, y5, y6, y7, some (.str p), some (.str z), y10, y11] (("loose " : Str) ++ p ++ (" " : Str) ++ z) (20 + 31 + 20 + 10) :=
    .add (.add (.add (.c (by rw [len_tl, tl_looseW]; decide)) (.v lp (by rfl)) (by decide)) (.c (by rw [len_tl, tl_sp]; decide)) (by decide)) (.v lz (by rfl)) (by decide)
  refine ⟨_, rfl, lst_one hv ⟨(by show 1 ≤ sizeLine; decide), fun q5 hq5 => ?_⟩⟩
  have s6 := same_upd (o := .lst [V.str (("loose " : Str) ++ p ++ (" " : Str) ++ z)]) hq5
  refine ⟨L, q5, _, _, rfl, rfl, s6 _ _ J8.hL, upd_same, by rw [strV_len, sizeLine_eq]; simp; omega, fun q6 hq6 => ?_⟩
  refine ⟨q6, _, rfl, .inl (SqL.of ?_), g1, fun x hx => (by rw [g2] at hx; cases hx), fun _ H9 s9 => ⟨rfl, ?_⟩⟩
  · rw [upd_same, strV_app]
    show _ = some (HO.lst (strV (allL os qs) ++ [V.str (mkS (looseW ++ tl p ++ [32] ++ tl z))]))
    have e : looseW ++ tl p ++ [32] ++ tl z = tl (("loose " : Str) ++ p ++ (" " : Str) ++ z) := by
      rw [tl_append, tl_append, tl_append, tl_looseW, tl_sp]
    rw [e, mk_tlS]
  · exact k H9
end
theorem okOr {P : Program} {w : World} {K : PySem.W.Frag} {mg : Str → Option Value} {base : Heap} {CX : CXT} {k : Nat} {f : Addr} {fd : FuncData} {ps : List Str} {sp0 sp1 : Sp} (F0 : FnOk P w K mg base CX k f fd ps sp0) (F1 : FnOk P w K mg base CX k f fd ps sp1) :
    FnOk P w K mg base CX k f fd ps (fun vs H Q E => sp0 vs H Q E ∨ sp1 vs H Q E) :=
  ⟨fun vs H Q E h => h.elim (F0.len _ _ _ _) (F1.len _ _ _ _), fun A outer s H args us vs Q E hr he hb hv h => h.elim (F0.run A outer s H args us vs Q E hr he hb hv) (F1.run A outer s H args us vs Q E hr he hb hv)⟩
def spLaw (K : PySem.W.Frag) : Sp := fun vs H Q _ => ∃ (a : Addr) (ns : List Int), vs = [.ref a] ∧ SqL K H a (ns.map V.int) ∧ ns.length ≤ 63 ∧ ∀ H', Q (.bl true) H'
section
variable {P : Program} {w : World} {K : PySem.W.Frag} {mg : Str → Option Value} {base : Heap} {CD : Addr}
theorem ok_law {f fDk fW fP fT fF : Addr} {fd dDk dW dP dT dF : FuncData} (F : Fun K "law" "law" sLaw f fd) (T : DTxt K CD)
    (DD : Df P w K mg base CX0 4 "_law_disk" ["draw"] (spLDisk K CD) fDk dDk) (DW : Df P w K mg base CX0 2 "write_disk" ["disk"] (spWd K CD) fW dW) (DP : Df P w K mg base CX0 3 "_law_pick" ["draw", "items"] (spPick K) fP dP) (DT : Df P w K mg base CX0 2 "_law_take" ["draw", "many"] (spTake K) fT dT)
    (DF : Df P w K mg base CX0 7 "_law_fault" ["lines"] (spFl K) fF dF) (ml : mg "len" = none) (ms : mg "str" = none) (mL : mg "list" = none) : FnOk P w K mg base CX0 8 f fd ["script"] (spLaw K) := by
  refine F.ok scLaw (fun vs H Q E h => ?_) (fun cdv A outer s H vs Q E hr h => ?_)
  · obtain ⟨a, ns, rfl, _⟩ := h
    rfl
  · obtain ⟨a, ns, rfl, hS, hlen, k⟩ := h
    obtain ⟨t13, h13, q13⟩ := law_1315 (P := P) (w := w) (K := K) (mg := mg) (base := base) (f := f) (cdv := cdv) (A := A) (outer := outer) (s := s) (H0 := H) (E := E) DF hr
    obtain ⟨t12, h12, q12⟩ := law_12 DF hr h13
    obtain ⟨t9, h9, q9⟩ := law_9 (K := K) ms h12
    obtain ⟨t7, h7, q7⟩ := law_78 DT DP ml ms hr h9
    obtain ⟨t5, h5, q5⟩ := law_56 DF hr h7
    obtain ⟨t4, h4, q4⟩ := law_4 DF hr h5
    obtain ⟨t0, h0, q0⟩ := law_03 T DD DW DP mL ml hr h4
    refine ⟨t0, PSs.nox h0, q0 _ _ a ns hS hlen fun a2 d L os qs z H1 J1 hz => q4 _ _ _ _ _ _ _ _ _ _ _ _ _ _ _ _ _ J1 hz fun H2 J2 => q5 _ _ _ _ _ _ _ _ _ _ _ _ _ _ _ _ _ J2 fun y6 H3 J3 => q7 _ _ _ _ _ _ _ _ _ _ _ _ _ _ _ _ J3 fun i v H4 J4 hi hv => q9 _ _ _ _ _ _ _ _ _ i v _ _ _ _ _ J4 hi hv fun W H5 J5 hW => ?_⟩
    have n6 := J5.n6
    have hpl : (plQ os os.length).length ≤ os.length := by
      have := plK_len os os.length
      rw [plQ_K, List.length_map] at this
      exact this
    have hl : (allL os qs).length ≤ 15 := by
      have := J5.q8
      rw [all_eq, List.length_cons, List.length_append, List.length_map, List.length_map]
      omega
    obtain ⟨w1, w2, w3⟩ := wrong_disk J5.n1 J5.n6 J5.q8 J5.ho J5.hq hi hv
    have lp : (Str.ofString (toString ((i : Nat) : Int))).length ≤ 31 := by rw [len_tl, tl_int]; exact few_len (few_nat (by omega))
    have lz : v.length ≤ 10 := by
      rw [len_tl]
      have h : ∀ v ∈ vals4, v.length ≤ 10 := by decide
      exact h _ hv
    refine q12 _ _ _ _ _ _ _ _ _ _ _ _ _ _ _ _ _ J5 hW (fun x hx => ?_) hl fun y6 y11 H6 J6 => q13 _ _ _ _ _ _ _ _ _ _ _ _ _ _ _ _ _ J6 lp lz (by rw [tl_num]; exact w2) (by rw [tl_num]; exact w3) hl k
    have hx' : (tl x.1, x.2) ∈ wrL (numL i) (numL os.length) (tl v) := by
      rw [← tl_num i, ← tl_num os.length, ← wrS_L]
      exact List.mem_map.mpr ⟨x, hx, rfl⟩
    exact w1 _ hx'
end
end Pf

set_option Elab.async false
set_option linter.all false
set_option maxRecDepth 100000
set_option maxHeartbeats 8000000
namespace Pf
open PySem PySem.Spec PyProof.Rows L2
/-! ### what the top has written -/
theorem exm_own {K : PySem.W.Frag} {S : Addr} (h1 : PySem.W.subIn K (.ref S) (.type "BaseException") = some true) (h2 : PySem.W.isClsIn K S = true) (h3 : PySem.W.typeIn K (.ref S) = some (.type "type")) (h4 : PySem.W.subIn K (.ref S) (.ref S) = some true) : PySem.W.exmOne K (.ref S) (.ref S) = some true := by
  have g1 : (PySem.W.subIn K (.ref S) (.type "BaseException") == some true) = true := by rw [h1] <;> rfl
  have g2 : ((PySem.W.clsIn K S).isSome && PySem.W.typeIn K (.ref S) == some (.type "type")) = true := by
    have g3 : (PySem.W.clsIn K S).isSome = true := h2
    rw [g3, h3] <;> rfl
  show (if (PySem.W.subIn K (.ref S) (.type "BaseException") == some true) = true then (if ((PySem.W.clsIn K S).isSome && PySem.W.typeIn K (.ref S) == some (.type "type")) = true then PySem.W.subIn K (.ref S) (.ref S) else none) else none) = some true
  rw [if_pos g1, if_pos g2]
  exact h4
theorem all_mk {l : PySem.W.OpenLaw} {w : World} {K : PySem.W.Frag} {h : Heap} {mg : Str → Option Value} {fa : Addr} (X : K.In h) (G : h.Ns mainGlobals mg) (hfa : mg "law" = some (.ref fa))
    {CD T0 f0 f1 f2 f3 f4 f5 f6 f7 f8 f9 f10 f11 f12 f13 f14 f15 f16 f17 f18 f19 f20 f21 f22 f23 : Addr}
    {od0 an0 od1 an1 od2 an2 od3 an3 od4 an4 od5 an5 od6 an6 od7 an7 od8 an8 od9 an9 od10 an10 od11 an11 od12 an12 od13 an13 od14 an14 od15 an15 od16 an16 od17 an17 od18 an18 od19 an19 od20 an20 od21 an21 od22 an22 od23 an23 : Option Addr}
    {sl0 sl1 sl2 sl3 sl4 sl5 sl6 sl7 sl8 sl9 sl10 sl11 sl12 sl13 sl14 sl15 sl16 sl17 sl18 sl19 sl20 sl21 sl22 sl23 : Array (Option Value)}
    {oc0 kV0 dc0 pm0 cd0 ct0 oc1 kV1 dc1 pm1 cd1 ct1 oc2 kV2 dc2 pm2 cd2 ct2 oc3 kV3 dc3 pm3 cd3 ct3 oc4 kV4 dc4 pm4 cd4 ct4 oc5 kV5 dc5 pm5 cd5 ct5 oc6 kV6 dc6 pm6 cd6 ct6 oc7 kV7 dc7 pm7 cd7 ct7 oc8 kV8 dc8 pm8 cd8 ct8 oc9 kV9 dc9 pm9 cd9 ct9 oc10 kV10 dc10 pm10 cd10 ct10 oc11 kV11 dc11 pm11 cd11 ct11 oc12 kV12 dc12 pm12 cd12 ct12 oc13 kV13 dc13 pm13 cd13 ct13 oc14 kV14 dc14 pm14 cd14 ct14 oc15 kV15 dc15 pm15 cd15 ct15 oc16 kV16 dc16 pm16 cd16 ct16 oc17 kV17 dc17 pm17 cd17 ct17 oc18 kV18 dc18 pm18 cd18 ct18 oc19 kV19 dc19 pm19 cd19 ct19 oc20 kV20 dc20 pm20 cd20 ct20 oc21 kV21 dc21 pm21 cd21 ct21 oc22 kV22 dc22 pm22 cd22 ct22 oc23 kV23 dc23 pm23 cd23 ct23 : Value}
    {ddT : Option Addr} {nT : Nat} {slT : Array (Option Value)}
    {tkF tkM tkP : Tok}
    {CR SE fR NR : Addr} {nmR qR : Str} {bsR sbR : List Value} {snR : List Str} {abR : Bool} {clR : Option Bool} {ddR0 : Option Addr} {k0R k1R k2R k3R k5R : Option Value} {odR anR : Option Addr} {slR0 : Array (Option Value)} {ocR dcR pmR cdR ctR : Value}
    (aD : PySem.W.nsIn K mainGlobals "Disk" = some (some (.ref CD)))
    (a0 : PySem.W.nsIn K mainGlobals "is_whole" = some (some (.ref f0)))
    (l0 : K.lookup f0 = some ⟨oc0, od0, .func (PySem.W.fnOf "is_whole" "is_whole" (defArgs sWhole) (defBody sWhole) (defScope sWhole) (.ref T0) kV0 dc0 pm0 an0 cd0 ct0), sl0⟩)
    (lT : K.lookup T0 = some ⟨.type "tuple", ddT, .seq #[.none, .none] nT, slT⟩)
    (c0 : PySem.W.codeIn K cd0 "is_whole" = true)
    (k0 : PySem.W.keepIn K (.ref f0) = true)
    (a1 : PySem.W.nsIn K mainGlobals "is_number_word" = some (some (.ref f1)))
    (l1 : K.lookup f1 = some ⟨oc1, od1, .func (PySem.W.fnOf "is_number_word" "is_number_word" (defArgs sNw) (defBody sNw) (defScope sNw) .none kV1 dc1 pm1 an1 cd1 ct1), sl1⟩)
    (c1 : PySem.W.codeIn K cd1 "is_number_word" = true)
    (k1 : PySem.W.keepIn K (.ref f1) = true)
    (a2 : PySem.W.nsIn K mainGlobals "is_short_number_word" = some (some (.ref f2)))
    (l2 : K.lookup f2 = some ⟨oc2, od2, .func (PySem.W.fnOf "is_short_number_word" "is_short_number_word" (defArgs sSnw) (defBody sSnw) (defScope sSnw) .none kV2 dc2 pm2 an2 cd2 ct2), sl2⟩)
    (c2 : PySem.W.codeIn K cd2 "is_short_number_word" = true)
    (k2 : PySem.W.keepIn K (.ref f2) = true)
    (a3 : PySem.W.nsIn K mainGlobals "is_number_within" = some (some (.ref f3)))
    (l3 : K.lookup f3 = some ⟨oc3, od3, .func (PySem.W.fnOf "is_number_within" "is_number_within" (defArgs sNin) (defBody sNin) (defScope sNin) .none kV3 dc3 pm3 an3 cd3 ct3), sl3⟩)
    (c3 : PySem.W.codeIn K cd3 "is_number_within" = true)
    (k3 : PySem.W.keepIn K (.ref f3) = true)
    (a4 : PySem.W.nsIn K mainGlobals "figures_of" = some (some (.ref f4)))
    (l4 : K.lookup f4 = some ⟨oc4, od4, .func (PySem.W.fnOf "figures_of" "figures_of" (defArgs sFigs) (defBody sFigs) (defScope sFigs) .none kV4 dc4 pm4 an4 cd4 ct4), sl4⟩)
    (c4 : PySem.W.codeIn K cd4 "figures_of" = true)
    (k4 : PySem.W.keepIn K (.ref f4) = true)
    (a5 : PySem.W.nsIn K mainGlobals "word_at" = some (some (.ref f5)))
    (l5 : K.lookup f5 = some ⟨oc5, od5, .func (PySem.W.fnOf "word_at" "word_at" (defArgs sWordAt) (defBody sWordAt) (defScope sWordAt) .none kV5 dc5 pm5 an5 cd5 ct5), sl5⟩)
    (c5 : PySem.W.codeIn K cd5 "word_at" = true)
    (k5 : PySem.W.keepIn K (.ref f5) = true)
    (a6 : PySem.W.nsIn K mainGlobals "value_text" = some (some (.ref f6)))
    (l6 : K.lookup f6 = some ⟨oc6, od6, .func (PySem.W.fnOf "value_text" "value_text" (defArgs sVt) (defBody sVt) (defScope sVt) .none kV6 dc6 pm6 an6 cd6 ct6), sl6⟩)
    (c6 : PySem.W.codeIn K cd6 "value_text" = true)
    (k6 : PySem.W.keepIn K (.ref f6) = true)
    (a7 : PySem.W.nsIn K mainGlobals "write_disk" = some (some (.ref f7)))
    (l7 : K.lookup f7 = some ⟨oc7, od7, .func (PySem.W.fnOf "write_disk" "write_disk" (defArgs sWd) (defBody sWd) (defScope sWd) .none kV7 dc7 pm7 an7 cd7 ct7), sl7⟩)
    (c7 : PySem.W.codeIn K cd7 "write_disk" = true)
    (k7 : PySem.W.keepIn K (.ref f7) = true)
    (a8 : PySem.W.nsIn K mainGlobals "is_value_word" = some (some (.ref f8)))
    (l8 : K.lookup f8 = some ⟨oc8, od8, .func (PySem.W.fnOf "is_value_word" "is_value_word" (defArgs sIvw) (defBody sIvw) (defScope sIvw) .none kV8 dc8 pm8 an8 cd8 ct8), sl8⟩)
    (c8 : PySem.W.codeIn K cd8 "is_value_word" = true)
    (k8 : PySem.W.keepIn K (.ref f8) = true)
    (a9 : PySem.W.nsIn K mainGlobals "value_of" = some (some (.ref f9)))
    (l9 : K.lookup f9 = some ⟨oc9, od9, .func (PySem.W.fnOf "value_of" "value_of" (defArgs sVo) (defBody sVo) (defScope sVo) .none kV9 dc9 pm9 an9 cd9 ct9), sl9⟩)
    (c9 : PySem.W.codeIn K cd9 "value_of" = true)
    (k9 : PySem.W.keepIn K (.ref f9) = true)
    (a10 : PySem.W.nsIn K mainGlobals "check_word" = some (some (.ref f10)))
    (l10 : K.lookup f10 = some ⟨oc10, od10, .func (PySem.W.fnOf "check_word" "check_word" (defArgs sCw) (defBody sCw) (defScope sCw) .none kV10 dc10 pm10 an10 cd10 ct10), sl10⟩)
    (c10 : PySem.W.codeIn K cd10 "check_word" = true)
    (k10 : PySem.W.keepIn K (.ref f10) = true)
    (a11 : PySem.W.nsIn K mainGlobals "read_many" = some (some (.ref f11)))
    (l11 : K.lookup f11 = some ⟨oc11, od11, .func (PySem.W.fnOf "read_many" "read_many" (defArgs sRm) (defBody sRm) (defScope sRm) .none kV11 dc11 pm11 an11 cd11 ct11), sl11⟩)
    (c11 : PySem.W.codeIn K cd11 "read_many" = true)
    (k11 : PySem.W.keepIn K (.ref f11) = true)
    (a12 : PySem.W.nsIn K mainGlobals "read_line" = some (some (.ref f12)))
    (l12 : K.lookup f12 = some ⟨oc12, od12, .func (PySem.W.fnOf "read_line" "read_line" (defArgs sRl) (defBody sRl) (defScope sRl) .none kV12 dc12 pm12 an12 cd12 ct12), sl12⟩)
    (c12 : PySem.W.codeIn K cd12 "read_line" = true)
    (k12 : PySem.W.keepIn K (.ref f12) = true)
    (a13 : PySem.W.nsIn K mainGlobals "read_disk" = some (some (.ref f13)))
    (l13 : K.lookup f13 = some ⟨oc13, od13, .func (PySem.W.fnOf "read_disk" "read_disk" (defArgs sRdk) (defBody sRdk) (defScope sRdk) .none kV13 dc13 pm13 an13 cd13 ct13), sl13⟩)
    (c13 : PySem.W.codeIn K cd13 "read_disk" = true)
    (k13 : PySem.W.keepIn K (.ref f13) = true)
    (a14 : PySem.W.nsIn K mainGlobals "_law_number" = some (some (.ref f14)))
    (l14 : K.lookup f14 = some ⟨oc14, od14, .func (PySem.W.fnOf "_law_number" "_law_number" (defArgs sNum) (defBody sNum) (defScope sNum) .none kV14 dc14 pm14 an14 cd14 ct14), sl14⟩)
    (c14 : PySem.W.codeIn K cd14 "_law_number" = true)
    (k14 : PySem.W.keepIn K (.ref f14) = true)
    (a15 : PySem.W.nsIn K mainGlobals "_law_take" = some (some (.ref f15)))
    (l15 : K.lookup f15 = some ⟨oc15, od15, .func (PySem.W.fnOf "_law_take" "_law_take" (defArgs sTake) (defBody sTake) (defScope sTake) .none kV15 dc15 pm15 an15 cd15 ct15), sl15⟩)
    (c15 : PySem.W.codeIn K cd15 "_law_take" = true)
    (k15 : PySem.W.keepIn K (.ref f15) = true)
    (a16 : PySem.W.nsIn K mainGlobals "_law_pick" = some (some (.ref f16)))
    (l16 : K.lookup f16 = some ⟨oc16, od16, .func (PySem.W.fnOf "_law_pick" "_law_pick" (defArgs sPick) (defBody sPick) (defScope sPick) .none kV16 dc16 pm16 an16 cd16 ct16), sl16⟩)
    (c16 : PySem.W.codeIn K cd16 "_law_pick" = true)
    (k16 : PySem.W.keepIn K (.ref f16) = true)
    (a17 : PySem.W.nsIn K mainGlobals "_law_disk" = some (some (.ref f17)))
    (l17 : K.lookup f17 = some ⟨oc17, od17, .func (PySem.W.fnOf "_law_disk" "_law_disk" (defArgs sLDisk) (defBody sLDisk) (defScope sLDisk) .none kV17 dc17 pm17 an17 cd17 ct17), sl17⟩)
    (c17 : PySem.W.codeIn K cd17 "_law_disk" = true)
    (k17 : PySem.W.keepIn K (.ref f17) = true)
    (a18 : PySem.W.nsIn K mainGlobals "_law_fault" = some (some (.ref f18)))
    (l18 : K.lookup f18 = some ⟨oc18, od18, .func (PySem.W.fnOf "_law_fault" "_law_fault" (defArgs sFault) (defBody sFault) (defScope sFault) .none kV18 dc18 pm18 an18 cd18 ct18), sl18⟩)
    (c18 : PySem.W.codeIn K cd18 "_law_fault" = true)
    (k18 : PySem.W.keepIn K (.ref f18) = true)
    (a19 : PySem.W.nsIn K mainGlobals "law" = some (some (.ref f19)))
    (l19 : K.lookup f19 = some ⟨oc19, od19, .func (PySem.W.fnOf "law" "law" (defArgs sLaw) (defBody sLaw) (defScope sLaw) .none kV19 dc19 pm19 an19 cd19 ct19), sl19⟩)
    (c19 : PySem.W.codeIn K cd19 "law" = true)
    (k19 : PySem.W.keepIn K (.ref f19) = true)
    (a20 : PySem.W.findIn K (.ref CD) "__init__" = some (some (.ref f20)))
    (i20 : PySem.W.isFn K (.ref f20) = true)
    (l20 : K.lookup f20 = some ⟨oc20, od20, .func (PySem.W.fnOf "__init__" "Disk.__init__" (defArgs sInit) (defBody sInit) (defScope sInit) .none kV20 dc20 pm20 an20 cd20 ct20), sl20⟩)
    (c20 : PySem.W.codeIn K cd20 "Disk.__init__" = true)
    (k20 : PySem.W.keepIn K (.ref f20) = true)
    (a21 : PySem.W.findIn K (.ref CD) "write" = some (some (.ref f21)))
    (i21 : PySem.W.isFn K (.ref f21) = true)
    (l21 : K.lookup f21 = some ⟨oc21, od21, .func (PySem.W.fnOf "write" "Disk.write" (defArgs sWrite) (defBody sWrite) (defScope sWrite) .none kV21 dc21 pm21 an21 cd21 ct21), sl21⟩)
    (c21 : PySem.W.codeIn K cd21 "Disk.write" = true)
    (k21 : PySem.W.keepIn K (.ref f21) = true)
    (a22 : PySem.W.findIn K (.ref CD) "barrier" = some (some (.ref f22)))
    (i22 : PySem.W.isFn K (.ref f22) = true)
    (l22 : K.lookup f22 = some ⟨oc22, od22, .func (PySem.W.fnOf "barrier" "Disk.barrier" (defArgs sBar) (defBody sBar) (defScope sBar) .none kV22 dc22 pm22 an22 cd22 ct22), sl22⟩)
    (c22 : PySem.W.codeIn K cd22 "Disk.barrier" = true)
    (k22 : PySem.W.keepIn K (.ref f22) = true)
    (a23 : PySem.W.findIn K (.ref CD) "check_plate" = some (some (.ref f23)))
    (i23 : PySem.W.isFn K (.ref f23) = true)
    (l23 : K.lookup f23 = some ⟨oc23, od23, .func (PySem.W.fnOf "check_plate" "Disk.check_plate" (defArgs sCheck) (defBody sCheck) (defScope sCheck) .none kV23 dc23 pm23 an23 cd23 ct23), sl23⟩)
    (c23 : PySem.W.codeIn K cd23 "Disk.check_plate" = true)
    (k23 : PySem.W.keepIn K (.ref f23) = true)
    (pgCD : PySem.W.plainGet K CD Str.empty = true)
    (hdCD : PySem.W.hasDictIn K CD = true)
    (poCD : PySem.W.plainOver K CD = true)
    (saCD : PySem.W.findIn K (.ref CD) "__setattr__" = some (some (.builtin "object.__setattr__")))
    (mkCD : PySem.W.makesIn K CD = true)
    (kcCD : PySem.W.keepIn K (.ref CD) = true)
    (n_many : PySem.W.findIn K (.ref CD) "many" = some none)
    (n_settled : PySem.W.findIn K (.ref CD) "settled" = some none)
    (n_loose : PySem.W.findIn K (.ref CD) "loose" = some none)
    (z_isinstance : PySem.W.nsIn K mainGlobals "isinstance" = some none)
    (z_int : PySem.W.nsIn K mainGlobals "int" = some none)
    (z_bool : PySem.W.nsIn K mainGlobals "bool" = some none)
    (z_tuple : PySem.W.nsIn K mainGlobals "tuple" = some none)
    (z_len : PySem.W.nsIn K mainGlobals "len" = some none)
    (z_all : PySem.W.nsIn K mainGlobals "all" = some none)
    (z_enumerate : PySem.W.nsIn K mainGlobals "enumerate" = some none)
    (z_range : PySem.W.nsIn K mainGlobals "range" = some none)
    (z_list : PySem.W.nsIn K mainGlobals "list" = some none)
    (z_abs : PySem.W.nsIn K mainGlobals "abs" = some none)
    (z_str : PySem.W.nsIn K mainGlobals "str" = some none)
    (vFig : PySem.W.nsIn K mainGlobals "FIGURES" = some (some (.str ("0123456789" : Str) tkF)))
    (vMoF : PySem.W.nsIn K mainGlobals "MOST_FIGURES" = some (some (.int 4000 tkM)))
    (vMoP : PySem.W.nsIn K mainGlobals "MOST_PLATES" = some (some (.int 1000 tkP)))
    (vTor : PySem.W.nsIn K mainGlobals "TORN" = some (some .none))
    (aR0 : PySem.W.nsIn K mainGlobals "BadImage" = some (some (.ref CR)))
    (xR : K.lookup CR = some (excClassObj nmR qR CR NR bsR [.ref SE, .type "Exception", .type "BaseException", .type "object"] true snR sbR abR clR ddR0 k0R k1R k2R k3R k5R "Exception.__new__"))
    (sR0 : PySem.W.findIn K (.ref CR) "__setattr__" = some (some (.builtin "object.__setattr__")))
    (gaR : PySem.W.findIn K (.ref CR) "__getattribute__" = some (some (.builtin "BaseException.__getattribute__")))
    (ggR : PySem.W.findIn K (.ref CR) "__getattr__" = some none)
    (nlR : PySem.W.findIn K (.ref CR) "line" = some none)
    (nwR : PySem.W.findIn K (.ref CR) "word" = some none)
    (iR : PySem.W.findIn K (.ref CR) "__init__" = some (some (.ref fR)))
    (tR : PySem.W.typeIn K (.ref fR) = some (.type "function"))
    (lR : K.lookup fR = some ⟨ocR, odR, .func (PySem.W.fnOf "__init__" "BadImage.__init__" (defArgs sBiI) (defBody sBiI) (defScope sBiI) .none .none dcR pmR anR cdR ctR), slR0⟩)
    (cR : PySem.W.codeIn K cdR "BadImage.__init__" = true)
    (kR : PySem.W.keepIn K (.ref CR) = true)
    (eR : PySem.W.subIn K (.ref CR) (.type "BaseException") = some true)
    (tcR : PySem.W.typeIn K (.ref CR) = some (.type "type"))
    (hR : PySem.W.hasDictIn K CR = true)
    (icR : PySem.W.isClsIn K CR = true)
    (sR : PySem.W.subIn K (.ref CR) (.ref CR) = some true)
    : ∃ fd : FuncData, (∀ (s : Shared) (v : Value), BindsTo s fd ⟨[v], []⟩ [("script", v)]) ∧ ∀ base : Heap, K.In base → base.Ns mainGlobals mg → FnOk l.prog w K mg base CX0 8 fa fd ["script"] (spLaw K) := by
  have e := hfa.symm.trans (PySem.W.mg_of X G a19)
  cases e
  have b_isinstance : mg "isinstance" = none := PySem.W.mg_none_of X G z_isinstance
  have b_int : mg "int" = none := PySem.W.mg_none_of X G z_int
  have b_bool : mg "bool" = none := PySem.W.mg_none_of X G z_bool
  have b_tuple : mg "tuple" = none := PySem.W.mg_none_of X G z_tuple
  have b_len : mg "len" = none := PySem.W.mg_none_of X G z_len
  have b_all : mg "all" = none := PySem.W.mg_none_of X G z_all
  have b_enumerate : mg "enumerate" = none := PySem.W.mg_none_of X G z_enumerate
  have b_range : mg "range" = none := PySem.W.mg_none_of X G z_range
  have b_list : mg "list" = none := PySem.W.mg_none_of X G z_list
  have b_abs : mg "abs" = none := PySem.W.mg_none_of X G z_abs
  have b_str : mg "str" = none := PySem.W.mg_none_of X G z_str
  have T : DTxt K CD := ⟨⟨pgCD, hdCD, poCD, saCD⟩, n_many, n_settled, n_loose⟩
  have F1 := fun_mk (st := sNw) l1 c1 k1
  have b1 := F1.binds (ps := ["word"]) fun _ _ _ _ _ _ us hl => match us, hl with | [_], _ => rfl
  have F2 := fun_mk (st := sSnw) l2 c2 k2
  have b2 := F2.binds (ps := ["word"]) fun _ _ _ _ _ _ us hl => match us, hl with | [_], _ => rfl
  have F3 := fun_mk (st := sNin) l3 c3 k3
  have b3 := F3.binds (ps := ["word", "low", "high"]) fun _ _ _ _ _ _ us hl => match us, hl with | [_, _, _], _ => rfl
  have F4 := fun_mk (st := sFigs) l4 c4 k4
  have b4 := F4.binds (ps := ["word"]) fun _ _ _ _ _ _ us hl => match us, hl with | [_], _ => rfl
  have F5 := fun_mk (st := sWordAt) l5 c5 k5
  have b5 := F5.binds (ps := ["words", "place"]) fun _ _ _ _ _ _ us hl => match us, hl with | [_, _], _ => rfl
  have F6 := fun_mk (st := sVt) l6 c6 k6
  have b6 := F6.binds (ps := ["value"]) fun _ _ _ _ _ _ us hl => match us, hl with | [_], _ => rfl
  have F7 := fun_mk (st := sWd) l7 c7 k7
  have b7 := F7.binds (ps := ["disk"]) fun _ _ _ _ _ _ us hl => match us, hl with | [_], _ => rfl
  have F8 := fun_mk (st := sIvw) l8 c8 k8
  have b8 := F8.binds (ps := ["word"]) fun _ _ _ _ _ _ us hl => match us, hl with | [_], _ => rfl
  have F9 := fun_mk (st := sVo) l9 c9 k9
  have b9 := F9.binds (ps := ["word"]) fun _ _ _ _ _ _ us hl => match us, hl with | [_], _ => rfl
  have F10 := fun_mk (st := sCw) l10 c10 k10
  have b10 := F10.binds (ps := ["holds", "line", "word"]) fun _ _ _ _ _ _ us hl => match us, hl with | [_, _, _], _ => rfl
  have F11 := fun_mk (st := sRm) l11 c11 k11
  have b11 := F11.binds (ps := ["lines"]) fun _ _ _ _ _ _ us hl => match us, hl with | [_], _ => rfl
  have F12 := fun_mk (st := sRl) l12 c12 k12
  have b12 := F12.binds (ps := ["line", "words", "low", "many", "kinds"]) fun _ _ _ _ _ _ us hl => match us, hl with | [_, _, _, _, _], _ => rfl
  have F13 := fun_mk (st := sRdk) l13 c13 k13
  have b13 := F13.binds (ps := ["lines"]) fun _ _ _ _ _ _ us hl => match us, hl with | [_], _ => rfl
  have F14 := fun_mk (st := sNum) l14 c14 k14
  have b14 := F14.binds (ps := ["script", "index"]) fun _ _ _ _ _ _ us hl => match us, hl with | [_, _], _ => rfl
  have F15 := fun_mk (st := sTake) l15 c15 k15
  have b15 := F15.binds (ps := ["draw", "many"]) fun _ _ _ _ _ _ us hl => match us, hl with | [_, _], _ => rfl
  have F16 := fun_mk (st := sPick) l16 c16 k16
  have b16 := F16.binds (ps := ["draw", "items"]) fun _ _ _ _ _ _ us hl => match us, hl with | [_, _], _ => rfl
  have F17 := fun_mk (st := sLDisk) l17 c17 k17
  have b17 := F17.binds (ps := ["draw"]) fun _ _ _ _ _ _ us hl => match us, hl with | [_], _ => rfl
  have F18 := fun_mk (st := sFault) l18 c18 k18
  have b18 := F18.binds (ps := ["lines"]) fun _ _ _ _ _ _ us hl => match us, hl with | [_], _ => rfl
  have F19 := fun_mk (st := sLaw) l19 c19 k19
  have b19 := F19.binds (ps := ["script"]) fun _ _ _ _ _ _ us hl => match us, hl with | [_], _ => rfl
  have F20 := fun_mk (st := sInit) l20 c20 k20
  have b20 := F20.binds (ps := ["self", "many"]) fun _ _ _ _ _ _ us hl => match us, hl with | [_, _], _ => rfl
  have F21 := fun_mk (st := sWrite) l21 c21 k21
  have b21 := F21.binds (ps := ["self", "plate", "value"]) fun _ _ _ _ _ _ us hl => match us, hl with | [_, _, _], _ => rfl
  have F22 := fun_mk (st := sBar) l22 c22 k22
  have b22 := F22.binds (ps := ["self"]) fun _ _ _ _ _ _ us hl => match us, hl with | [_], _ => rfl
  have F23 := fun_mk (st := sCheck) l23 c23 k23
  have b23 := F23.binds (ps := ["self", "plate"]) fun _ _ _ _ _ _ us hl => match us, hl with | [_, _], _ => rfl
  have F0 : FunD K "is_whole" "is_whole" (defArgs sWhole) (defBody sWhole) (defScope sWhole) [.non, .non] [] f0 _ := ⟨⟨oc0, od0, .ref T0, kV0, dc0, pm0, an0, cd0, ct0, sl0, rfl, l0, c0, .inr ⟨by simp, T0, _, [.none, .none], nT, rfl, lT, rfl, .cons rfl (.cons rfl .nil)⟩, .inl rfl⟩, k0⟩
  obtain ⟨ds3, v3, bw3⟩ := F0.binds1 (ps := ["thing", "low", "high"]) 3 2 (by simp) rfl (fun _ _ _ _ _ _ _ us its h1 h2 => match us, its, h1, h2 with | [_, _, _], [_, _], _, _ => ⟨_, rfl, rfl⟩)
  cases v3
  refine ⟨PySem.W.fnOf "law" "law" (defArgs sLaw) (defBody sLaw) (defScope sLaw) .none kV19 dc19 pm19 an19 cd19 ct19, fun s v => .of_eq rfl, fun base _ _ => ?_⟩
  have GW := ok_whole (P := l.prog) (w := w) (mg := mg) (base := base) F0 b_isinstance b_int b_bool
  have mFig := PySem.W.mg_of X G vFig
  have mMoF := PySem.W.mg_of X G vMoF
  have mMoP := PySem.W.mg_of X G vMoP
  have mTor := PySem.W.mg_of X G vTor
  have RX : BiTx K mg CR SE fR := ⟨⟨⟨_, _, _, _, _, _, _, _, _, _, _, _, _, _, xR⟩, sR0, nlR, nwR, iR, tR, kR, eR, tcR, ⟨_, _, _, _, _, _, _, _, _, _, _, _, _, _, _, _, _, _, _, lR, cR⟩⟩, PySem.W.mg_of X G aR0⟩
  have XF : XfC K CR := ⟨gaR, ggR, eR, hR⟩
  have exm := exm_own eR icR tcR sR
  have GI := ok_init (P := l.prog) (w := w) (K := K) (mg := mg) (base := base) F20 T
  have GK := ok_check (P := l.prog) (w := w) (K := K) (mg := mg) (base := base) F23 T GW k0 (PySem.W.mg_of X G a0) bw3
  have GWr := ok_write (P := l.prog) (w := w) (K := K) (mg := mg) (base := base) F21 T GK ⟨a23, i23, k23⟩ b23
  have GNu := ok_num (P := l.prog) (w := w) (K := K) (mg := mg) (base := base) F14 b_int b_len b_abs
  have GT := ok_take (base := base) F15 GNu k14 (PySem.W.mg_of X G a14) b14 b_int
  have GP := ok_pick (base := base) F16 GT k15 (PySem.W.mg_of X G a15) b15 b_len
  have GB := ok_bar (P := l.prog) (w := w) (K := K) (mg := mg) (base := base) F22 T b_list b_tuple
  have GI1 := ok_init1 (P := l.prog) (w := w) (K := K) (mg := mg) (base := base) F20 T
  have GIO := FnOk.weak (sp' := spInO K CD) (okOr GI GI1) inO_of
  have MkDk : MkO l.prog w K mg base CD _ _ := ⟨⟨mkCD, a20, i20, kcCD⟩, GIO, (PySem.W.mg_of X G aD), b20⟩
  have GWrO := FnOk.weak (sp' := spWrO K CD) GWr wrO_of
  have GBO := FnOk.weak (sp' := spBrO K CD) GB brO_of
  have GFi := ok_figs (P := l.prog) (w := w) (K := K) (mg := mg) (base := base) F4
  have GNw := ok_nw (P := l.prog) (w := w) (K := K) (mg := mg) (base := base) F1 ⟨GFi, k4, (PySem.W.mg_of X G a4), b4⟩ mFig b_all
  have GSnw := ok_snw (P := l.prog) (w := w) (K := K) (mg := mg) (base := base) F2 ⟨GFi, k4, (PySem.W.mg_of X G a4), b4⟩ ⟨GNw, k1, (PySem.W.mg_of X G a1), b1⟩ mMoF b_len
  have GNin := ok_nin (P := l.prog) (w := w) (K := K) (mg := mg) (base := base) F3 ⟨GSnw, k2, (PySem.W.mg_of X G a2), b2⟩ b_int
  have GWa := ok_wordAt (P := l.prog) (w := w) (K := K) (mg := mg) (base := base) F5 b_len
  have GVt := ok_vt (P := l.prog) (w := w) (K := K) (mg := mg) (base := base) F6 b_str
  have GIvw := ok_ivw (P := l.prog) (w := w) (K := K) (mg := mg) (base := base) F8 ⟨GSnw, k2, (PySem.W.mg_of X G a2), b2⟩ b_all
  have GVo := ok_vo (P := l.prog) (w := w) (K := K) (mg := mg) (base := base) F9 mTor b_int b_tuple
  have GWd := ok_wd (P := l.prog) (w := w) (K := K) (mg := mg) (base := base) F7 T ⟨GVt, k6, (PySem.W.mg_of X G a6), b6⟩ b_len b_enumerate b_tuple
  have GCw := ok_cwX (P := l.prog) (w := w) (K := K) (mg := mg) (base := base) F10 RX
  have GRm := ok_rmX (P := l.prog) (w := w) (K := K) (mg := mg) (base := base) F11 ⟨GWa, k5, (PySem.W.mg_of X G a5), b5⟩ ⟨GCw, k10, (PySem.W.mg_of X G a10), b10⟩ ⟨GNin, k3, (PySem.W.mg_of X G a3), b3⟩ mMoP b_len b_int
  have GRl := ok_rlX (P := l.prog) (w := w) (K := K) (mg := mg) (base := base) F12 ⟨GWa, k5, (PySem.W.mg_of X G a5), b5⟩ ⟨GCw, k10, (PySem.W.mg_of X G a10), b10⟩ ⟨GNin, k3, (PySem.W.mg_of X G a3), b3⟩ ⟨GIvw, k8, (PySem.W.mg_of X G a8), b8⟩ ⟨GVo, k9, (PySem.W.mg_of X G a9), b9⟩ b_len b_int
  have GRdk := ok_rdX (P := l.prog) (w := w) (K := K) (mg := mg) (base := base) F13 T ⟨GRm, k11, (PySem.W.mg_of X G a11), b11⟩ MkDk ⟨GRl, k12, (PySem.W.mg_of X G a12), b12⟩ ⟨GWrO, ⟨a21, i21, k21⟩, b21⟩ ⟨GBO, ⟨a22, i22, k22⟩, b22⟩ b_len b_range
  have GFl := ok_fl (P := l.prog) (w := w) (K := K) (mg := mg) (base := base) F18 RX XF exm ⟨GRdk, k13, (PySem.W.mg_of X G a13), b13⟩
  have GLdk := ok_ldisk (P := l.prog) (w := w) (K := K) (mg := mg) (base := base) F17 T ⟨GP, k16, (PySem.W.mg_of X G a16), b16⟩ ⟨GT, k15, (PySem.W.mg_of X G a15), b15⟩ MkDk ⟨GWrO, ⟨a21, i21, k21⟩, b21⟩ ⟨GBO, ⟨a22, i22, k22⟩, b22⟩ b_len b_range
  exact ok_law F19 T ⟨GLdk, k17, (PySem.W.mg_of X G a17), b17⟩ ⟨GWd, k7, (PySem.W.mg_of X G a7), b7⟩ ⟨GP, k16, (PySem.W.mg_of X G a16), b16⟩ ⟨GT, k15, (PySem.W.mg_of X G a15), b15⟩ ⟨GFl, k18, (PySem.W.mg_of X G a18), b18⟩ b_len b_str b_list
theorem walk {l : PySem.W.OpenLaw} {q : Program} {loose : List Str} {XP : (Str → Option Value) → Heap → Prop} {YP : World → Heap → Prop} {d : DefRec} {K : Params → PySem.W.Frag} (hn : l.most = some 63) (hdf : d.params.defaults = [])
    (hY : ∀ (w : World) (h : Heap), YP w h → (K w.params).In h)
    (F : ∀ (w : World) (mg : Str → Option Value) (fa : Addr) (h : Heap), (K w.params).In h → h.Ns mainGlobals mg → mg d.name = some (.ref fa) →
      ∃ fd : FuncData, (∀ (s : Shared) (u : Value), BindsTo s fd ⟨[u], []⟩ [("script", u)]) ∧ ∀ base : Heap, (K w.params).In base → base.Ns mainGlobals mg → FnOk l.prog w (K w.params) mg base CX0 8 fa fd ["script"] (spLaw (K w.params))) :
    PySem.W.WalkO q loose XP YP l.row.toRowW d [] (fun f vs => PySem.call f vs) :=
  L2.walk_of (n := 63) (k := 8) (x := "script") (CX := fun _ => CX0) (sp := fun w => spLaw (K w.params)) hn (by decide) hdf ⟨rfl, by decide, by decide⟩ hY F (fun _ _ a ns hl _ hS => ⟨a, ns, rfl, hS, hl, fun _ => rfl⟩) fun _ _ _ _ _ z => z
end Pf

set_option Elab.async false
open PySem PySem.W PyProof.Rows
set_option maxRecDepth 100000 in
set_option maxHeartbeats 0 in
theorem PySem.Challenge.cw_plugproof_k39_whole_wrong_lines_holds : PySem.Challenge.rw_plugproof_k39_whole_wrong_lines.Holds := by
  w_on; o_law; k_head; (case hw => w_witness2)
  k_fill
  refine Pf.walk (l := PySem.Challenge.rw_plugproof_k39_whole_wrong_lines) rfl rfl (fun w h Y => PySem.W.kIn_of Y) ?F
  case F =>
    intro w mg fa h KX G hmg
    refine' Pf.all_mk KX G hmg ?aD ?a0 ?l0 ?lT ?c0 ?k0 ?a1 ?l1 ?c1 ?k1 ?a2 ?l2 ?c2 ?k2 ?a3 ?l3 ?c3 ?k3 ?a4 ?l4 ?c4 ?k4 ?a5 ?l5 ?c5 ?k5 ?a6 ?l6 ?c6 ?k6 ?a7 ?l7 ?c7 ?k7 ?a8 ?l8 ?c8 ?k8 ?a9 ?l9 ?c9 ?k9 ?a10 ?l10 ?c10 ?k10 ?a11 ?l11 ?c11 ?k11 ?a12 ?l12 ?c12 ?k12 ?a13 ?l13 ?c13 ?k13 ?a14 ?l14 ?c14 ?k14 ?a15 ?l15 ?c15 ?k15 ?a16 ?l16 ?c16 ?k16 ?a17 ?l17 ?c17 ?k17 ?a18 ?l18 ?c18 ?k18 ?a19 ?l19 ?c19 ?k19 ?a20 ?i20 ?l20 ?c20 ?k20 ?a21 ?i21 ?l21 ?c21 ?k21 ?a22 ?i22 ?l22 ?c22 ?k22 ?a23 ?i23 ?l23 ?c23 ?k23 ?pgCD ?hdCD ?poCD ?saCD ?mkCD ?kcCD ?n_many ?n_settled ?n_loose ?z_isinstance ?z_int ?z_bool ?z_tuple ?z_len ?z_all ?z_enumerate ?z_range ?z_list ?z_abs ?z_str ?vFig ?vMoF ?vMoP ?vTor ?aR0 ?xR ?sR0 ?gaR ?ggR ?nlR ?nwR ?iR ?tR ?lR ?cR ?kR ?eR ?tcR ?hR ?icR ?sR
    (case aD => k_is)
    (case a0 => k_is)
    (case l0 => k_is)
    (case lT => k_is)
    (case c0 => k_is)
    (case k0 => k_is)
    (case a1 => k_is)
    (case l1 => k_is)
    (case c1 => k_is)
    (case k1 => k_is)
    (case a2 => k_is)
    (case l2 => k_is)
    (case c2 => k_is)
    (case k2 => k_is)
    (case a3 => k_is)
    (case l3 => k_is)
    (case c3 => k_is)
    (case k3 => k_is)
    (case a4 => k_is)
    (case l4 => k_is)
    (case c4 => k_is)
    (case k4 => k_is)
    (case a5 => k_is)
    (case l5 => k_is)
    (case c5 => k_is)
    (case k5 => k_is)
    (case a6 => k_is)
    (case l6 => k_is)
    (case c6 => k_is)
    (case k6 => k_is)
    (case a7 => k_is)
    (case l7 => k_is)
    (case c7 => k_is)
    (case k7 => k_is)
    (case a8 => k_is)
    (case l8 => k_is)
    (case c8 => k_is)
    (case k8 => k_is)
    (case a9 => k_is)
    (case l9 => k_is)
    (case c9 => k_is)
    (case k9 => k_is)
    (case a10 => k_is)
    (case l10 => k_is)
    (case c10 => k_is)
    (case k10 => k_is)
    (case a11 => k_is)
    (case l11 => k_is)
    (case c11 => k_is)
    (case k11 => k_is)
    (case a12 => k_is)
    (case l12 => k_is)
    (case c12 => k_is)
    (case k12 => k_is)
    (case a13 => k_is)
    (case l13 => k_is)
    (case c13 => k_is)
    (case k13 => k_is)
    (case a14 => k_is)
    (case l14 => k_is)
    (case c14 => k_is)
    (case k14 => k_is)
    (case a15 => k_is)
    (case l15 => k_is)
    (case c15 => k_is)
    (case k15 => k_is)
    (case a16 => k_is)
    (case l16 => k_is)
    (case c16 => k_is)
    (case k16 => k_is)
    (case a17 => k_is)
    (case l17 => k_is)
    (case c17 => k_is)
    (case k17 => k_is)
    (case a18 => k_is)
    (case l18 => k_is)
    (case c18 => k_is)
    (case k18 => k_is)
    (case a19 => k_is)
    (case l19 => k_is)
    (case c19 => k_is)
    (case k19 => k_is)
    (case a20 => k_is)
    (case i20 => k_is)
    (case l20 => k_is)
    (case c20 => k_is)
    (case k20 => k_is)
    (case a21 => k_is)
    (case i21 => k_is)
    (case l21 => k_is)
    (case c21 => k_is)
    (case k21 => k_is)
    (case a22 => k_is)
    (case i22 => k_is)
    (case l22 => k_is)
    (case c22 => k_is)
    (case k22 => k_is)
    (case a23 => k_is)
    (case i23 => k_is)
    (case l23 => k_is)
    (case c23 => k_is)
    (case k23 => k_is)
    (case pgCD => k_is)
    (case hdCD => k_is)
    (case poCD => k_is)
    (case saCD => k_is)
    (case mkCD => k_is)
    (case kcCD => k_is)
    (case n_many => k_is)
    (case n_settled => k_is)
    (case n_loose => k_is)
    (case z_isinstance => k_is)
    (case z_int => k_is)
    (case z_bool => k_is)
    (case z_tuple => k_is)
    (case z_len => k_is)
    (case z_all => k_is)
    (case z_enumerate => k_is)
    (case z_range => k_is)
    (case z_list => k_is)
    (case z_abs => k_is)
    (case z_str => k_is)
    (case vFig => k_is)
    (case vMoF => k_is)
    (case vMoP => k_is)
    (case vTor => k_is)
    (case aR0 => k_is)
    (case xR => k_is)
    (case sR0 => k_is)
    (case gaR => k_is)
    (case ggR => k_is)
    (case nlR => k_is)
    (case nwR => k_is)
    (case iR => k_is)
    (case tR => k_is)
    (case lR => k_is)
    (case cR => k_is)
    (case kR => k_is)
    (case eR => k_is)
    (case tcR => k_is)
    (case hR => k_is)
    (case icR => k_is)
    (case sR => first | rfl | k_is)
