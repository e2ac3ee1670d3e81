import PyProof.Rows.All
import Wide.All
import OpenK.AllK
import Wide.FinOn
import HandS.ForMost
import HandS.IsInst
import HandS.Defaults
import HandS.TupAny
import HandS.TupMul
import HandS.Style
import HandS.Conv
import HandS.Walk
import KE.GoesEnum
import PySem.Challenge.RW_plugproof_k38_whole_disk_texts
import HandS.More
import HandS.RaiseMore
import HandS.Small
import HandS.TryOnly
import HandS.WordsExc
import HandS.Iter
import HandS.Dict
import KE.DataMinMax
import KE.SortData
import KE.KEqDict
import HandS.TupSets
import HandS.Text
import HandS.FStr
import HandS.Steps
set_option Elab.async false
namespace Pf
open PySem PySem.Spec PyProof.Rows L2
def topS (i : Nat) : Stmt := PySem.Challenge.pw_plugproof_k38_whole_disk_texts.main.body.getD i (.Pass ⟨0, 0, 0, 0⟩)
abbrev sBiI : Stmt := inClass (topS 3) 0
abbrev sWhole : Stmt := topS 6
abbrev sBpI : Stmt := inClass (topS 8) 0
abbrev sBcI : Stmt := inClass (topS 9) 0
abbrev sTgI : Stmt := inClass (topS 10) 0
abbrev sInit : Stmt := inClass (topS 14) 0
abbrev sWrite : Stmt := inClass (topS 14) 1
abbrev sBar : Stmt := inClass (topS 14) 2
abbrev sNow : Stmt := inClass (topS 14) 3
abbrev sVers : Stmt := inClass (topS 14) 4
abbrev sCount : Stmt := inClass (topS 14) 5
abbrev sFallen : Stmt := inClass (topS 14) 6
abbrev sCan : Stmt := inClass (topS 14) 7
abbrev sCheck : Stmt := inClass (topS 14) 8
abbrev sCopy : Stmt := topS 15
abbrev sNw : Stmt := topS 19
abbrev sSnw : Stmt := topS 20
abbrev sNin : Stmt := topS 21
abbrev sFigs : Stmt := topS 22
abbrev sWordAt : Stmt := topS 23
abbrev sVt : Stmt := topS 26
abbrev sWd : Stmt := topS 27
abbrev sIvw : Stmt := topS 28
abbrev sVo : Stmt := topS 29
abbrev sCw : Stmt := topS 30
abbrev sRm : Stmt := topS 31
abbrev sRl : Stmt := topS 32
abbrev sRdk : Stmt := topS 33
abbrev sHp : Stmt := topS 37
abbrev sIsHead : Stmt := topS 38
abbrev sRh : Stmt := topS 39
abbrev sCells : Stmt := topS 41
abbrev sChk : Stmt := topS 42
abbrev sSlot : Stmt := topS 45
abbrev sRows : Stmt := topS 46
abbrev sIsLog : Stmt := topS 47
abbrev sWg : Stmt := topS 48
abbrev sSlotsOf : Stmt := topS 49
abbrev sRg : Stmt := topS 50
abbrev sLast : Stmt := topS 51
abbrev sHomeP : Stmt := topS 55
abbrev sPod : Stmt := topS 56
abbrev sLc : Stmt := topS 57
abbrev sRhome : Stmt := topS 58
abbrev sStI : Stmt := inClass (topS 59) 0
abbrev sHomeM : Stmt := inClass (topS 59) 1
abbrev sBlock : Stmt := inClass (topS 59) 2
abbrev sDiskM : Stmt := inClass (topS 59) 3
abbrev sPut : Stmt := inClass (topS 59) 4
abbrev sPush : Stmt := inClass (topS 59) 5
abbrev sSync : Stmt := inClass (topS 59) 6
abbrev sLay : Stmt := inClass (topS 59) 7
abbrev sBring : Stmt := inClass (topS 59) 8
abbrev s_write : Stmt := inClass (topS 59) 9
abbrev s_bar : Stmt := inClass (topS 59) 10
abbrev sFresh : Stmt := topS 60
abbrev sOpen : Stmt := topS 61
abbrev sNum : Stmt := topS 63
abbrev sTake : Stmt := topS 64
abbrev sPick : Stmt := topS 65
abbrev sLDisk : Stmt := topS 66
abbrev sLText : Stmt := topS 67
abbrev sLaw : Stmt := topS 68
end Pf

set_option Elab.async false
set_option linter.all false
set_option maxRecDepth 100000
set_option maxHeartbeats 4000000
namespace Pf
open PySem PySem.Spec PyProof.Rows L2

/-! ### heaps and data -/
theorem same_upd {H : Hp} {p : Addr} {o : HO} (h : H p = none) : Same H (upd H p o) := fun b x e => by
  rw [upd_ne (ne_of_none e h)]
  exact e
theorem Same.up {G H : Hp} {p : Addr} {o : HO} (s : Same G H) (h : H p = none) : Same G (upd H p o) := s.trans (same_upd h)
theorem same_seqT {K : PySem.W.Frag} {H H' : Hp} {a : Addr} {xs : List V} (e : Same H H') (h : SqT K H a xs) : SqT K H' a xs := by
  rcases h with (h | ⟨o, h⟩) | h
  · exact .inl (.inl (e _ _ h))
  · exact .inl (.inr ⟨o, e _ _ h⟩)
  · exact .inr h
section
variable {K : PySem.W.Frag} {H H' : Hp}
mutual
theorem dp_same (e : Same H H') : ∀ (d : PyData) (v : V), Dp K H v d → Dp K H' v d
  | .none, _, h => by cases h; exact .non
  | .bool b, _, h => by cases h; exact .bl b
  | .int i, _, h => by cases h; exact .int i
  | .str x, _, h => by cases h; exact .str x
  | .list ds, _, h => by cases h with | lst hs ha => exact .lst (Same.seq e hs) (dps_same e ds _ ha)
  | .tuple ds, _, h => by cases h with | tup hs ha => exact .tup (same_seqT e hs) (dps_same e ds _ ha)
  | .dict _, _, h => by cases h
theorem dps_same (e : Same H H') : ∀ (ds : List PyData) (vs : List V), DpAll K H vs ds → DpAll K H' vs ds
  | [], _, h => by cases h; exact .nil
  | d :: ds, _, h => by cases h with | cons h1 h2 => exact .cons (dp_same e d _ h1) (dps_same e ds _ h2)
end
theorem dps_ints : ∀ ns : List Int, DpAll K H (ns.map V.int) (ns.map PyData.int)
  | [] => .nil
  | n :: ns => .cons (.int n) (dps_ints ns)
theorem dps_len : ∀ {vs : List V} {ds : List PyData}, DpAll K H vs ds → vs.length = ds.length
  | [], _, h => by cases h; rfl
  | v :: vs, _, h => by cases h with | cons h1 h2 => simp [dps_len h2]
theorem dps_get : ∀ {vs : List V} {ds : List PyData} {i : Nat} {v : V}, DpAll K H vs ds → vs[i]? = some v → ∃ d, ds[i]? = some d ∧ Dp K H v d
  | [], _, i, v, h, e => by simp at e
  | x :: vs, _, 0, v, h, e => by
    cases h with
    | cons h1 h2 =>
      cases (Option.some.inj e)
      exact ⟨_, rfl, h1⟩
  | x :: vs, _, i + 1, v, h, e => by
    cases h with
    | cons h1 h2 =>
      obtain ⟨d, e1, e2⟩ := dps_get h2 (show vs[i]? = some v from e)
      exact ⟨d, e1, e2⟩
theorem dps_app : ∀ {vs ws : List V} {ds es : List PyData}, DpAll K H vs ds → DpAll K H ws es → DpAll K H (vs ++ ws) (ds ++ es)
  | [], _, _, _, h, g => by cases h; exact g
  | v :: vs, _, _, _, h, g => by cases h with | cons h1 h2 => exact .cons h1 (dps_app h2 g)
theorem dps_take : ∀ {vs : List V} {ds : List PyData} (n : Nat), DpAll K H vs ds → DpAll K H (vs.take n) (ds.take n)
  | _, _, 0, _ => .nil
  | [], _, n + 1, h => by cases h; exact .nil
  | v :: vs, _, n + 1, h => by cases h with | cons h1 h2 => exact .cons h1 (dps_take n h2)
theorem dps_drop : ∀ {vs : List V} {ds : List PyData} (n : Nat), DpAll K H vs ds → DpAll K H (vs.drop n) (ds.drop n)
  | _, _, 0, h => h
  | [], _, n + 1, h => by cases h; exact .nil
  | v :: vs, _, n + 1, h => by cases h with | cons h1 h2 => exact dps_drop n h2
theorem dps_set : ∀ {vs : List V} {ds : List PyData} {v : V} {d : PyData} (i : Nat), DpAll K H vs ds → Dp K H v d → DpAll K H (vs.set i v) (ds.set i d)
  | [], _, _, _, _, h, _ => by cases h; exact .nil
  | x :: vs, _, v, d, 0, h, q => by cases h with | cons h1 h2 => exact .cons q h2
  | x :: vs, _, v, d, i + 1, h, q => by cases h with | cons h1 h2 => exact .cons h1 (dps_set i h2 q)
theorem tyx_tup {a : Addr} {xs : List V} (h : SqT K H a xs) : TyX K H (.ref a) (.type "tuple") := by
  rcases h with (h | ⟨o, h⟩) | ⟨o, its, n, h, c, _⟩
  · exact .base (.tup h)
  · exact .fTuple h
  · exact .kTuple h c
theorem tyx_lst {a : Addr} {xs : List V} (h : SqL K H a xs) : TyX K H (.ref a) (.type "list") := by
  rcases h with (h | ⟨o, h⟩) | ⟨o, its, n, h, c, _⟩
  · exact .base (.lst h)
  · exact .base (.frz h)
  · exact .kList h c
end
def intB : PyData → Bool | .int _ => true | .bool _ => true | _ => false
def boolB : PyData → Bool | .bool _ => true | _ => false
def tupB : PyData → Bool | .tuple _ => true | _ => false
section
variable {K : PySem.W.Frag} {H : Hp} {v : V} {d : PyData}
theorem isi_int (h : Dp K H v d) : ∃ t, TyX K H v t ∧ PySem.W.kitOne K t (.type "int") = some (intB d) := by
  cases h with
  | non => exact ⟨_, .base .non, kit_ty (show kitB "NoneType" "int" = some false by decide +kernel)⟩
  | bl b => exact ⟨_, .base (.bl b), kit_ty (show kitB "bool" "int" = some true by decide +kernel)⟩
  | int i => exact ⟨_, .base (.int i), kit_ty (show kitB "int" "int" = some true by decide +kernel)⟩
  | str x => exact ⟨_, .base (.str x), kit_ty (show kitB "str" "int" = some false by decide +kernel)⟩
  | lst hs _ => exact ⟨_, tyx_lst hs, kit_ty (show kitB "list" "int" = some false by decide +kernel)⟩
  | tup hs _ => exact ⟨_, tyx_tup hs, kit_ty (show kitB "tuple" "int" = some false by decide +kernel)⟩
theorem isi_bool (h : Dp K H v d) : ∃ t, TyX K H v t ∧ PySem.W.kitOne K t (.type "bool") = some (boolB d) := by
  cases h with
  | non => exact ⟨_, .base .non, kit_ty (show kitB "NoneType" "bool" = some false by decide +kernel)⟩
  | bl b => exact ⟨_, .base (.bl b), kit_ty (show kitB "bool" "bool" = some true by decide +kernel)⟩
  | int i => exact ⟨_, .base (.int i), kit_ty (show kitB "int" "bool" = some false by decide +kernel)⟩
  | str x => exact ⟨_, .base (.str x), kit_ty (show kitB "str" "bool" = some false by decide +kernel)⟩
  | lst hs _ => exact ⟨_, tyx_lst hs, kit_ty (show kitB "list" "bool" = some false by decide +kernel)⟩
  | tup hs _ => exact ⟨_, tyx_tup hs, kit_ty (show kitB "tuple" "bool" = some false by decide +kernel)⟩
theorem isi_tup (h : Dp K H v d) : ∃ t, TyX K H v t ∧ PySem.W.kitOne K t (.type "tuple") = some (tupB d) := by
  cases h with
  | non => exact ⟨_, .base .non, kit_ty (show kitB "NoneType" "tuple" = some false by decide +kernel)⟩
  | bl b => exact ⟨_, .base (.bl b), kit_ty (show kitB "bool" "tuple" = some false by decide +kernel)⟩
  | int i => exact ⟨_, .base (.int i), kit_ty (show kitB "int" "tuple" = some false by decide +kernel)⟩
  | str x => exact ⟨_, .base (.str x), kit_ty (show kitB "str" "tuple" = some false by decide +kernel)⟩
  | lst hs _ => exact ⟨_, tyx_lst hs, kit_ty (show kitB "list" "tuple" = some false by decide +kernel)⟩
  | tup hs _ => exact ⟨_, tyx_tup hs, kit_ty (show kitB "tuple" "tuple" = some true by decide +kernel)⟩
end
/-- a list's item, as what an augmented store reads -/
theorem get_list {X : Cx} : PGet X (rIxL X.K) := by
  intro pins s σ H x y v u Q I rx ry h
  obtain ⟨p, xs, i, z, rfl, rfl, hq, he, q⟩ := h
  cases rx
  obtain ⟨t, rfl⟩ := ry
  obtain ⟨its, r, pl, hz⟩ := I.list hq
  obtain ⟨j, h1, h2, h3, h4, h5⟩ := atI_get he
  obtain ⟨w, ew, rw'⟩ := r.get h2
  have hl := r.length
  have hn := line63
  have fin : EP X pins σ Q w s := ⟨z, H, I, rw', q⟩
  by_cases h0 : 0 ≤ i
  · have hj : i.toNat = j := by
      rw [seqIndex_of h0 h5] at h1
      exact Option.some.inj h1
    exact wpAny_getItem_list pl.isList h0 (by omega) (by rw [hj]; simpa using ew) fin
  · have hj : (i + (its.toArray.size : Int)).toNat = j := by
      rw [seqIndex_neg (by omega) h4] at h1
      rw [List.size_toArray, ← hl]
      exact Option.some.inj h1
    exact wpAny_getItem_list_neg pl.isList (by omega) (by rw [List.size_toArray] <;> omega) (by omega) (by rw [hj]; simpa using ew) fin

/-! ### enumerate over a tuple -/
set_option maxHeartbeats 1000000 in
theorem meets_enum1 {v : Value} {o : Obj} {H : Heap → Prop} (B : Begins v o H) :
    Meets (Builtin.«enumerate.__new__» ⟨[.type "enumerate", v], []⟩) (fun _ R s => H s.heap ∧
      R (.ok (.ret (.ref (s.heap.push o).objs.size))) { s with heap := (s.heap.push o).push { cls := .type "enumerate", data := .fields #[.none, .bool false, .ref s.heap.objs.size, rawInt 0, .none, .none] } }) :=
  .of_wp fun prog w A R s h => by
    obtain ⟨hp, g, d, tk, os⟩ := s; obtain ⟨h1, h⟩ := h
    have hsub := sub_enumerate
    have q1 : ∀ {A' : Around} {E : Value → Shared → Prop} {Q : Value → Shared → Prop}, Q (.ref hp.objs.size) ⟨hp.push o, g, d, tk, os⟩ → wpAny (model prog w) A' (pyIter v) Q E ⟨hp, g, d, tk, os⟩ :=
      fun q => B.iter prog w _ _ ⟨hp, g, d, tk, os⟩ _ h1 q
    wp_walk using q1
    refine wpAny_stack_any fun st => wpAny_pure ?_
    split
    · rename_i c _ _ _ _ _
      cases (c == Value.type "enumerate")
      · wp_walk using q1
        exact ⟨_, rfl, h⟩
      · wp_walk using q1
        exact ⟨_, rfl, h⟩
    · wp_walk using q1
      exact ⟨_, rfl, h⟩
theorem call_enum1 {prog : Program} {w : World} {A : Around} {E : Value → Shared → Prop} {s : Shared} {v : Value} {o : Obj} {H : Heap → Prop} {Q : Value → Shared → Prop} (B : Begins v o H) (h1 : H s.heap)
    (h : ∀ h', IsEnum h' (s.heap.objs.size + 1) s.heap.objs.size 0 .none → h'.get? s.heap.objs.size = some o → h'.objs.size = s.heap.objs.size + 2 →
      (∀ b o, s.heap.get? b = some o → h'.get? b = some o) → Q (.ref (s.heap.objs.size + 1)) { s with heap := h' }) :
    wpAny (model prog w) A (call (.type "enumerate") [v]) Q E s := by
  refine callType_new F.called_enumerate (by decide) (F.typeCall_enumerate_1 _) (F.newCall_enumerate_1 _) (fun obj => F.args_object_init_2 obj _) F.entry_enumerate_new
    (meets_enum1 B) ⟨h1, ?_⟩
  have hz : (s.heap.push o).objs.size = s.heap.objs.size + 1 := Heap.size_push ..
  show _ ∧ _
  rw [hz]
  have he : IsEnum ((s.heap.push o).push { cls := .type "enumerate", data := .fields #[.none, .bool false, .ref s.heap.objs.size, rawInt 0, .none, .none] }) (s.heap.objs.size + 1) s.heap.objs.size 0 .none := by
    have := Heap.get?_push_size (s.heap.push o) (o := { cls := .type "enumerate", data := .fields #[.none, .bool false, .ref s.heap.objs.size, rawInt 0, .none, .none] }) rfl
    rw [hz] at this; exact this
  refine ⟨⟨_, he, rfl⟩, h _ he (Heap.get?_push_of_some _ (Heap.get?_push_size _ B.free)) (by rw [Heap.size_push, hz]) fun b o x => Heap.get?_push_of_some _ (Heap.get?_push_of_some _ x)⟩
/-- the tuple at a, each item in a new pair -/
def IteT (K : PySem.W.Frag) (a : Addr) : It :=
  ⟨fun i H => ∃ (xs : List V) (x : V), SqT K H a xs ∧ xs[i]? = some x, fun i H v H' => ∃ T x, v = .ref T ∧ H T = none ∧ H' = upd H T (.tup [.int (i : Nat), x]) ∧ ∀ xs, SqT K H a xs → xs[i]? = some x, fun i H => ∃ xs : List V, SqT K H a xs ∧ xs.length = i⟩
theorem turn_enumT {P : Program} {w : World} {K : PySem.W.Frag} {elts : List Expr} {kk : Nat} {tpos : Pos} (a e it : Addr) :
    Turn P w K (.Tuple elts kk tpos) (IteT K a) [e, it] e (fun i h => (∃ old, IsEnum h e it ((i : Nat) : Int) old) ∧ h.IsTupleIter it a i ∧ e ≠ it) where
  mem := by simp
  obj := fun i h st b hb => by
    obtain ⟨⟨old, he⟩, ⟨o, ho, hc, hd⟩, _⟩ := st
    have e' : b = e ∨ b = it := by simpa using hb
    rcases e' with z | z
    · rw [z]; exact ⟨_, he, fun v q => nomatch q⟩
    · rw [z]; exact ⟨o, ho, fun v q => by rw [hd] at q; cases q⟩
  keep := fun i h h' st k => let ⟨⟨old, he⟩, hi, hne⟩ := st; ⟨⟨old, k e (by simp) _ he⟩, hi.at fun o q => k it (by simp) o q, hne⟩
  item := by
    intro X hP hw hK hc i pins s σ H E I hf st hg
    subst hP hw hK
    obtain ⟨⟨old, he⟩, hit, hne⟩ := st
    obtain ⟨xs, x, hq, hx⟩ := hg
    obtain ⟨its, rv, p, hz⟩ := I.tuple hq
    obtain ⟨u, hu, ru⟩ := rv.get hx
    have hel : e < s.heap.objs.size := Heap.lt_size he
    have hil : it < s.heap.objs.size := by obtain ⟨_, q, _⟩ := hit; exact Heap.lt_size q
    have hai : a ≠ it := by
      rintro rfl
      obtain ⟨o1, q1, c1, _⟩ := hit
      obtain ⟨o2, q2, c2, _⟩ := p
      rw [q1] at q2
      cases q2
      rw [c1] at c2
      exact absurd c2 (by decide)
    have hea : e ≠ a := by
      rintro rfl
      obtain ⟨o2, q2, c2, _⟩ := p
      have q3 := he.symm.trans q2
      cases q3
      simp at c2
    have hlt : i < its.toArray.size := by
      rw [List.size_toArray, ← rv.length]
      exact (List.getElem?_eq_some_iff.mp hx).1
    refine wpAny_pyNext_enum_itemD (Draws.tuple (A := X.A.in1) (I.ok.hd hc) it a hai its.toArray) he ⟨hit, p⟩ hlt hne (by simp [hne, hea]) fun y h' tk hy ho hst hT hsz hk => ?_
    have eyu : y = u := by
      have h2 : its.toArray[i]? = some u := by simpa using hu
      exact Option.some.inj ((show its.toArray[i]? = some y from hy).symm.trans h2)
    subst eyu
    refine ⟨_, rfl, wpAny_letOwnedTupleGo_enum (s := { s with heap := h', toks := tk + 1 }) ho fun h'' he' sb => ?_⟩
    have hT2 : h''.get? s.heap.objs.size = some { cls := .type "tuple", data := .seq #[.int i tk, y] } := (sb.2 _ (Nat.ne_of_gt hel)).trans hT
    have new : ObjOk X.prog X.w (upd H s.heap.objs.size (.tup [.int (i : Nat), x])) h'' s.heap.objs.size (.tup [.int (i : Nat), x]) :=
      ⟨by show 2 ≤ sizeLine; decide, [.int i tk, y], .cons ⟨_, rfl⟩ (.cons ru .nil), ⟨_, hT2, rfl, _, rfl⟩⟩
    have I1 : Inv X pins σ (upd H s.heap.objs.size (.tup [.int (i : Nat), x])) { s with heap := h'', toks := tk + 1 } :=
      I.turnedNew (ch := [e, it]) (fun b ob hb q => (sb.2 b (fun z => hb (by simp [z]))).trans (hk b ob (fun z => hb (by simp [z])) (fun z => hb (by simp [z])) q)) hf (Nat.le_refl _) new
    refine ⟨.ref s.heap.objs.size, _, I1, rfl, ⟨_, x, rfl, I.hok.fresh (Nat.le_refl _), rfl, fun ys hy => by rw [I.tuple_inj hy hq]; exact hx⟩, ⟨⟨y, ?_⟩, hst.1.at fun o q => (sb.2 it (Ne.symm hne)).trans q, hne⟩, fun b hb => ?_⟩
    · have e1 : ((i + 1 : Nat) : Int) = (i : Int) + 1 := by omega
      rw [e1]; exact he'
    · have hb' : b < s.heap.objs.size := by
        have e' : b = e ∨ b = it := by simpa using hb
        rcases e' with z | z
        · rw [z]; exact hel
        · rw [z]; exact hil
      rw [upd_ne (Nat.ne_of_lt hb')]
      exact (hf b hb).1
  done := by
    intro X hP hw hK hc i pins s σ H E I hf st hg
    subst hP hw hK
    obtain ⟨⟨old, he⟩, hit, hne⟩ := st
    obtain ⟨xs, hq, hx⟩ := hg
    obtain ⟨its, rv, p, hz⟩ := I.tuple hq
    obtain ⟨f0, f1, f2, f3, f4, f5⟩ := hf it (by simp)
    have hl := rv.length
    have hai : a ≠ it := by
      rintro rfl
      obtain ⟨o1, q1, c1, _⟩ := hit
      obtain ⟨o2, q2, c2, _⟩ := p
      rw [q1] at q2
      cases q2
      rw [c1] at c2
      exact absurd c2 (by decide)
    have en : its.toArray.size = i := by rw [List.size_toArray, ← hl]; exact hx
    exact wpAny_pyNext_enum_endD (Draws.tuple (A := X.A.in1) (I.ok.hd hc) it a hai its.toArray) he (by rw [en]; exact ⟨hit, p⟩) fun h' eb => ⟨rfl, I.turned (t' := s.toks) (fun b o hb q => eb b o hb q) f0 f1 f3 f4 f5⟩
  self := fun A i s Q E st h => let ⟨⟨_, he⟩, _⟩ := st; wpAny_pyIter_enum he h
def iEnumT (K : PySem.W.Frag) (ta : TA) : TI := fun σ H R => ta σ H fun vs H1 => ∃ a xs, vs = [.ref a] ∧ SqT K H1 a xs ∧ R (IteT K a) H1
theorem pi_enumT {X : Cx} {e : Expr} {ta : TA} {p pos tpos : Pos} {elts : List Expr} {kk : Nat} (hg : Gl X "enumerate") (hm : X.mg "enumerate" = none) (ha : PA X [e] ta) (hs : starEach [e] X.env = [(false, eval e X.env)] := by rfl) :
    PI X (.Tuple elts kk tpos) (.Call (.Name "enumerate" p) [e] [] pos) (iEnumT X.K ta) := by
  refine ⟨fun pins s σ H R I h => ?_⟩
  refine Call_ (ld_blt I hg hm boot_enumerate (PyProof.Rows.callWith_type1 (thn (ha.run pos pins s σ H _ I h) fun us s1 ⟨vs, H1, I1, r1, q1⟩ => ?_) hs rfl))
  obtain ⟨a, xs, ex, hq, q⟩ := q1
  subst ex
  cases r1 with
  | cons r rr =>
    cases rr
    cases r
    obtain ⟨its, rv, p', hz⟩ := I1.tuple hq
    refine call_enum1 (begins_tuple a its.toArray) p' fun h' he hit hsz hk => wpAny_pyIter_enum he ?_
    have I2 : Inv X pins σ H1 { s1 with heap := h' } := I1.kept (t' := s1.toks) hk
    refine ⟨s1.heap.objs.size + 1, [s1.heap.objs.size + 1, s1.heap.objs.size], _, _, H1, rfl, I2, turn_enumT a (s1.heap.objs.size + 1) s1.heap.objs.size, ⟨⟨.none, he⟩, ⟨_, hit, rfl, rfl⟩, Nat.succ_ne_self _⟩, fun b hb => ?_, q⟩
    have e' : b = s1.heap.objs.size + 1 ∨ b = s1.heap.objs.size := by simpa using hb
    have hle : s1.heap.objs.size ≤ b := by
      rcases e' with z | z
      · rw [z]; exact Nat.le_add_right _ _
      · rw [z]; exact Nat.le_refl _
    exact I1.fpOk hle (I1.hok.fresh hle)
theorem walk_enumT {K : PySem.W.Frag} {a : Addr} {xs : List V} : Walk (IteT K a) xs.length (fun H => SqT K H a xs) (YPair (fun i => some (.int (i : Nat))) (fun i => xs[i]?)) := by
  refine ⟨fun i _ hi q => ⟨xs, xs[i], q, by simp [hi]⟩, fun _ q => ⟨xs, q, rfl⟩, fun i H v H' _ q y => ?_⟩
  obtain ⟨T, x, h1, h2, h3, h4⟩ := y
  exact ⟨T, .int (i : Nat), x, h1, h2, h3, rfl, h4 xs q⟩
end Pf

set_option Elab.async false
set_option linter.all false
set_option maxRecDepth 100000
set_option maxHeartbeats 4000000
namespace Pf
open PySem PySem.Spec PyProof.Rows L2
theorem scWhole : FnScope ["thing", "low", "high"] ["thing", "low", "high"] (defScope sWhole) := ⟨rfl, rfl, rfl, by decide +kernel, rfl, by decide +kernel, by decide +kernel⟩
theorem scCells : FnScope ["value", "number"] ["value"] (defScope sCells) := ⟨rfl, rfl, rfl, by decide +kernel, rfl, by decide +kernel, by decide +kernel⟩
theorem scSlot : FnScope ["slots", "slot"] ["slots", "slot"] (defScope sSlot) := ⟨rfl, rfl, rfl, by decide +kernel, rfl, by decide +kernel, by decide +kernel⟩
theorem scIsLog : FnScope ["value", "group", "at", "many", "home"] ["value"] (defScope sIsLog) := ⟨rfl, rfl, rfl, by decide +kernel, rfl, by decide +kernel, by decide +kernel⟩

/-! ### is_whole -/
def loB (i : Int) : Option Int → Bool
  | none => true
  | some l => decide (l ≤ i)
def hiB (i : Int) : Option Int → Bool
  | none => true
  | some h => decide (i ≤ h)
def wholeB (d : PyData) (lo hi : Option Int) : Bool := match d with
  | .int i => loB i lo && hiB i hi
  | _ => false
def optV : Option Int → V
  | none => .non
  | some i => .int i
def spWhole (K : PySem.W.Frag) : Sp := fun vs H Q _ => ∃ v d lo hi, vs = [v, optV lo, optV hi] ∧ Dp K H v d ∧ Q (.bl (wholeB d lo hi)) H
section
variable {P : Program} {w : World} {K : PySem.W.Frag} {mg : Str → Option Value} {base : Heap}
theorem ok_whole {f : Addr} {fd : FuncData} {kws : List (Str × V)} (F : FunD K "is_whole" "is_whole" (defArgs sWhole) (defBody sWhole) (defScope sWhole) [.non, .non] kws f fd) (mi : mg "isinstance" = none) (mt : mg "int" = none) (mb : mg "bool" = none) :
    FnOk P w K mg base CX0 1 f fd ["thing", "low", "high"] (spWhole K) := by
  refine F.ok scWhole (fun vs H Q E h => ?_) (fun cdv A outer s H vs Q E hr h => ?_)
  · obtain ⟨v, d, lo, hi, rfl, _⟩ := h
    rfl
  · obtain ⟨v, d, lo, hi, rfl, hd, q⟩ := h
    refine ⟨_, pss_cons (ps_if (PW.pt (pw_or (pt_not (pt_val (pe_callB call_isi (by rfl) mi (by decide +kernel) (pa_cons (pv 0) (pa_cons (pe_bltn (v := .ty "int") (by rfl) mt boot_int rfl) pa_nil)))))
        (pw_or1 (pt_val (pe_callB call_isi (by rfl) mi (by decide +kernel) (pa_cons (pv 0) (pa_cons (pe_bltn (v := .ty "bool") (by rfl) mb boot_bool rfl) pa_nil))))))) (pss_one (ps_ret pe_bl)) pss_nil)
      (pss_cons (ps_if (PW.pt (pw_and (pt_cmpR op_notN (pv 1) pe_non (nomark _)) (pw_and1 (pt_cmpR op_lt (pv 0) (pv 1) (nomark _))))) (pss_one (ps_ret pe_bl)) pss_nil)
      (pss_one (ps_ret (pe_or (pe_cmp (pc_isN (pv 2))) (pe_one (pe_cmp (pc_le (pv 0) (pv 2)))))))), ?_⟩
    obtain ⟨t, ty, kt⟩ := isi_int hd
    obtain ⟨t2, ty2, kt2⟩ := isi_bool hd
    refine ⟨_, rfl, _, _, t, _, _, rfl, .ty _, ty, kt, _, rfl, ?_⟩
    cases hd with
    | non => exact iteT (iteT q)
    | str x => exact iteT (iteT q)
    | lst _ _ => exact iteT (iteT q)
    | tup _ _ => exact iteT (iteT q)
    | bl b => exact iteF ⟨_, rfl, _, _, t2, _, _, rfl, .ty _, ty2, kt2, _, rfl, iteT q⟩
    | int i =>
      refine iteF ⟨_, rfl, _, _, t2, _, _, rfl, .ty _, ty2, kt2, _, rfl, iteF ?_⟩
      have fin : ∀ b : Bool, Q (.bl (b && hiB i hi)) H → b = true → tRet (tOrV (tIsN (tVar 2)) (tLe (tVar 0) (tVar 2))) { nx := fun _ H' => Q .non H', rt := Q } [some (V.int i), some (optV lo), some (optV hi)] H := by
        intro b q hb
        subst hb
        cases hi with
        | none => exact ⟨_, rfl, _, rfl, iteT q⟩
        | some h => exact ⟨_, rfl, _, rfl, iteF ⟨_, rfl, _, rfl, i, h, rfl, rfl, q⟩⟩
      cases lo with
      | none => exact ⟨_, rfl, rfl, _, rfl, iteF (iteF (fin true q rfl))⟩
      | some l =>
        refine ⟨_, rfl, rfl, _, rfl, iteT ⟨_, rfl, _, rfl, i, l, rfl, rfl, _, rfl, ite2 (fun hc => ?_) (fun hc => ?_)⟩⟩
        · have hl : i < l := of_decide_eq_true hc
          have e : wholeB (.int i) (some l) hi = false := by
            show (decide (l ≤ i) && _) = false
            rw [decide_eq_false (by omega)]
            rfl
          rw [e] at q
          exact q
        · have hl : ¬ i < l := fun z => hc (decide_eq_true z)
          exact fin (decide (l ≤ i)) q (decide_eq_true (by omega))
theorem tyes_go {σ : L2.St} {H : Hp} {A B : Hp → Prop} (h : A H) : tYes σ H (fun b H3 => if b = true then A H3 else B H3) := by
  show if true = true then A H else B H
  rw [if_pos rfl]
  exact h
/-! ### is_cells -/
def isI : PyData → Bool
  | .int _ => true
  | _ => false
def cellsB (d : PyData) : Bool := match d with
  | .tuple ds => decide (ds.length = 8) && ds.all isI
  | _ => false
theorem whole_none (d : PyData) : wholeB d none none = isI d := by cases d <;> rfl
def spCells (K : PySem.W.Frag) : Sp := fun vs H Q _ => ∃ v d, vs = [v] ∧ Dp K H v d ∧ ∀ H', Same H H' → Q (.bl (cellsB d)) H'
theorem ok_cells {f fW : Addr} {fd fdW : FuncData} {dsW : List Value} (F : Fun K "is_cells" "is_cells" sCells f fd) (GW : FnOk P w K mg base CX0 1 fW fdW ["thing", "low", "high"] (spWhole K)) (kW : PySem.W.keepIn K (.ref fW) = true) (gW : mg "is_whole" = some (.ref fW))
    (bW : Binds K fdW ["thing", "low", "high"] dsW) (vW : Vals [.non, .non] dsW) (mi : mg "isinstance" = none) (mt : mg "tuple" = none) (ml : mg "len" = none) (ma : mg "all" = none) {tw : Tok} (mW : mg "WIDTH" = some (.int 8 tw)) :
    FnOk P w K mg base CX0 2 f fd ["value"] (spCells K) := by
  refine F.ok scCells (fun vs H Q E h => ?_) (fun cdv A outer s H vs Q E hr h => ?_)
  · obtain ⟨v, d, rfl, _⟩ := h
    rfl
  · obtain ⟨v, d, rfl, hd, q⟩ := h
    refine ⟨_, pss_cons (ps_if (PW.pt (pw_or (pt_not (pt_val (pe_callB call_isi (by rfl) mi (by decide +kernel) (pa_cons (pv 0) (pa_cons (pe_bltn (v := .ty "tuple") (by rfl) mt boot_tuple rfl) pa_nil)))))
        (pw_or1 (pt_cmpR op_ne (pe_callB call_len_seq (by rfl) ml boot_len (pa_cons (pv 0) pa_nil)) (pe_glob (v := .int 8) rfl mW ⟨_, rfl⟩) (nomark _))))) (pss_one (ps_ret pe_bl)) pss_nil)
      (pss_one (ps_ret (pe_callB (cr_all rfl) (by rfl) ma (by decide +kernel) (pa_cons
        (pe_lc (own := [("number", 1)]) (g := gName 1) (tt := tYes) rfl scCells.nd (pi_tup (pv 0)) (blkOk_by (N := ["value", "number"]) (sc := defScope sCells) (by decide +kernel)) (fun _ _ _ _ _ => pg_name (i := 1) scCells.nd rfl (Or.inl rfl)) (fun _ _ _ _ _ => pts_nil)
          (fun _ _ _ _ _ => pe_call GW hr rfl gW kW bW vW pass0 (pa_cons (pv 1) pa_nil))) pa_nil)))), ?_⟩
    obtain ⟨t, ty, kt⟩ := isi_tup hd
    refine ⟨_, rfl, _, _, t, _, _, rfl, .ty _, ty, kt, _, rfl, ?_⟩
    cases hd with
    | non => exact iteT (iteT (q _ (Same.refl _)))
    | str x => exact iteT (iteT (q _ (Same.refl _)))
    | lst _ _ => exact iteT (iteT (q _ (Same.refl _)))
    | int x => exact iteT (iteT (q _ (Same.refl _)))
    | bl b => exact iteT (iteT (q _ (Same.refl _)))
    | @tup a xs ds hs ha =>
      have hl := dps_len ha
      refine iteF ⟨_, rfl, a, xs, rfl, .inr hs, rfl, _, rfl, ite2 (fun hc => ?_) (fun hc => ?_)⟩
      · have hne : ds.length ≠ 8 := fun z => by
          rw [hl, z] at hc
          exact absurd hc (by decide)
        have e : cellsB (.tuple ds) = false := by
          show (decide (ds.length = 8) && _) = false
          rw [decide_eq_false hne]
          rfl
        have q' := q _ (Same.refl _)
        rw [e] at q'
        exact q'
      · have h8 : ds.length = 8 := by
          by_cases z : ds.length = 8
          · exact z
          · refine absurd ?_ hc
            rw [hl]
            have z2 : ¬ (V.int (ds.length : Nat) = V.int 8) := fun y => z (by injection y with y; omega)
            rw [decide_eq_false z2]
            rfl
        refine ⟨_, rfl, a, rfl, ⟨_, hs⟩, fun D hD => lc_tup (K := K) (a := a) (xs := xs) (fun i H' => Same H H' ∧ H' D = some (.lst ((ds.take i).map fun d => V.bl (isI d)))) ⟨same_upd hD, upd_same⟩ (fun i H' _ p => same_seqT p.1 hs) ?_ ?_⟩
        · rintro i x H' hi ⟨s1, e1⟩
          obtain ⟨d', hd', hp⟩ := dps_get ha hi
          have hil : i < ds.length := (List.getElem?_eq_some_iff.mp hd').1
          refine ⟨rfl, tyes_go ?_⟩
          refine ⟨x, rfl, x, d', none, none, rfl, dp_same s1 _ _ hp, _, e1, ?_, ?_, ?_⟩
          · rw [List.length_map, List.length_take]
            exact small1000 (by omega)
          · exact fun b o e => by
              rw [upd_ne (ne_of_none e hD)]
              exact s1 _ _ e
          · rw [upd_same, List.take_add_one, hd', List.map_append, whole_none]
            rfl
        · rintro H' ⟨s1, e1⟩
          rw [hl, List.take_length] at e1
          refine ⟨D, ds.map isI, rfl, SqL.of (by rw [e1, List.map_map]; rfl), ?_⟩
          have e : (ds.map isI).all id = cellsB (.tuple ds) := by
            show _ = (decide (ds.length = 8) && ds.all isI)
            rw [decide_eq_true h8, List.all_map]
            rfl
          rw [e]
          exact q _ s1
end
end Pf

set_option Elab.async false
set_option linter.all false
set_option maxRecDepth 100000
set_option maxHeartbeats 4000000
namespace Pf
open PySem PySem.Spec PyProof.Rows L2

/-! ### a heap without what may change -/
def Off (cs : List Addr) (H : Hp) : Hp := fun b => if b ∈ cs then none else H b
theorem off_in {cs : List Addr} {H : Hp} {b : Addr} (h : b ∈ cs) : Off cs H b = none := by unfold Off; rw [if_pos h]
theorem off_out {cs : List Addr} {H : Hp} {b : Addr} (h : b ∉ cs) : Off cs H b = H b := by unfold Off; rw [if_neg h]
theorem off_le {cs : List Addr} {H : Hp} : Same (Off cs H) H := fun b o e => by
  by_cases h : b ∈ cs
  · rw [off_in h] at e; cases e
  · rw [off_out h] at e; exact e
theorem off_same {cs : List Addr} {H H' : Hp} (s : Same H H') : Same (Off cs H) (Off cs H') := fun b o e => by
  by_cases h : b ∈ cs
  · rw [off_in h] at e; cases e
  · rw [off_out h] at e ⊢; exact s b o e
theorem off_upd {cs : List Addr} {H : Hp} {c : Addr} {o : HO} (h : c ∈ cs) : Off cs (upd H c o) = Off cs H := by
  funext b
  by_cases hb : b ∈ cs
  · rw [off_in hb, off_in hb]
  · rw [off_out hb, off_out hb, upd_ne (fun z => hb (by rw [z]; exact h))]
theorem off_new {cs : List Addr} {H : Hp} {p : Addr} {o : HO} (h : H p = none) : Same (Off cs H) (Off cs (upd H p o)) := off_same (same_upd h)
/-- an unlike set of what may change, where H has nothing of what is new in it -/
theorem off_more {cs ds : List Addr} {H : Hp} (h : ∀ c ∈ ds, c ∈ cs ∨ H c = none) : Same (Off cs H) (Off ds H) := fun b o e => by
  by_cases hb : b ∈ cs
  · rw [off_in hb] at e; cases e
  · rw [off_out hb] at e
    by_cases hd : b ∈ ds
    · rcases h b hd with z | z
      · exact absurd z hb
      · rw [z] at e; cases e
    · rw [off_out hd]; exact e
/-- all is kept but what stands at cs -/
def But (cs : List Addr) (H H' : Hp) : Prop := Same (Off cs H) H'
theorem But.at {cs : List Addr} {H H' : Hp} (s : But cs H H') {b : Addr} {o : HO} (h : H b = some o) (n : b ∉ cs) : H' b = some o := s b o (by rw [off_out n]; exact h)
theorem But.of {cs : List Addr} {H H' : Hp} (s : Same H H') : But cs H H' := (off_le).trans s
theorem But.off {cs ds : List Addr} {H H' : Hp} (s : But cs H H') (h : ∀ c ∈ cs, c ∈ ds) : Same (Off ds H) (Off ds H') := fun b o e => by
  by_cases hb : b ∈ ds
  · rw [off_in hb] at e; cases e
  · rw [off_out hb] at e ⊢
    exact s b o (by rw [off_out (fun z => hb (h b z))]; exact e)

/-- what is new in H' -/
def New (H H' : Hp) : Hp := fun b => match H b with
  | none => H' b
  | some _ => none
theorem new_at {H H' : Hp} {b : Addr} (h : H b = none) : New H H' b = H' b := by unfold New; rw [h]
theorem new_some {H H' : Hp} {b : Addr} {o : HO} (h : New H H' b = some o) : H b = none ∧ H' b = some o := by
  cases e : H b with
  | none => rw [new_at e] at h; exact ⟨rfl, h⟩
  | some u => unfold New at h; rw [e] at h; cases h
theorem new_same {H H1 H2 : Hp} (s : Same H1 H2) : Same (New H H1) (New H H2) := fun b o e => by
  obtain ⟨e1, e2⟩ := new_some e
  rw [new_at e1]
  exact s _ _ e2
theorem new_le {H H' : Hp} : Same (New H H') H' := fun b o e => (new_some e).2
theorem new_off {cs : List Addr} {H H' : Hp} (h : ∀ c ∈ cs, H c ≠ none) : Same (New H H') (Off cs H') := fun b o e => by
  obtain ⟨e1, e2⟩ := new_some e
  rw [off_out (fun z => h b z e1)]
  exact e2
theorem new_upd {cs : List Addr} {H H' : Hp} {c : Addr} {o : HO} (h : c ∈ cs) : Off cs (New H (upd H' c o)) = Off cs (New H H') := by
  funext b
  by_cases hb : b ∈ cs
  · rw [off_in hb, off_in hb]
  · rw [off_out hb, off_out hb]
    unfold New
    cases H b with
    | none => exact upd_ne (fun z => hb (by rw [z]; exact h))
    | some u => rfl
/-- of a later start less is new -/
theorem new_start {H H1 H2 : Hp} (s : Same H H1) : Same (New H1 H2) (New H H2) := fun b o e => by
  obtain ⟨e1, e2⟩ := new_some e
  rw [new_at (s.free e1)]
  exact e2

theorem new_step {cs : List Addr} {H H1 H2 : Hp} (s : Same H H1) (h : ∀ c ∈ cs, H1 c ≠ none) : Same (New H1 H2) (Off cs (New H H2)) := fun b o e => by
  obtain ⟨e1, e2⟩ := new_some e
  rw [off_out (fun z => h b z e1), new_at (s.free e1)]
  exact e2

/-! ### slices of tuples -/
theorem cut_from (xs : List V) (n : Nat) : cutV xs (some (n : Int)) none = xs.drop n := by
  unfold cutV
  rw [HT.sIx_nat, HT.sIx_none]
  by_cases h : n ≤ xs.length
  · rw [Nat.min_eq_left h]
    exact List.take_of_length_le (by rw [List.length_drop]; omega)
  · rw [Nat.min_eq_right (by omega), List.drop_of_length_le (by omega), List.drop_of_length_le (by omega)]
    exact List.take_nil
theorem cut_to (xs : List V) (n : Nat) : cutV xs none (some (n : Int)) = xs.take n := by
  unfold cutV
  rw [HT.sIx_nat, HT.sIx_none]
  rw [List.drop_zero, Nat.sub_zero]
  by_cases h : n ≤ xs.length
  · rw [Nat.min_eq_left h]
  · rw [Nat.min_eq_right (by omega), List.take_of_length_le (by omega), List.take_of_length_le (by omega)]
theorem slA_use {K : PySem.W.Frag} {a : Addr} {xs : List V} {lo hi : Option Int} {H : Hp} {Q : VK} (h : SqT K H a xs) (k : ∀ p H', Same H H' → SqT K H' p (cutV xs lo hi) → Q (.ref p) H') : rSlA K (.ref a) lo hi H Q := by
  refine ⟨a, xs, rfl, h, fun c => ?_, fun _ p hp => ?_⟩
  · have e : cutV xs lo hi = xs := by
      unfold cutV
      rw [c.1, c.2, List.drop_zero, Nat.sub_zero, List.take_length]
    exact k a H (Same.refl _) (by rw [e]; exact h)
  · exact k p _ (same_upd hp) (.inl (.inl upd_same))

theorem slA_new {K : PySem.W.Frag} {a : Addr} {xs : List V} {lo hi : Option Int} {H : Hp} {Q : VK} (h : SqT K H a xs) (hl : (cutV xs lo hi).length ≠ xs.length) (k : ∀ p, H p = none → Q (.ref p) (upd H p (.tup (cutV xs lo hi)))) : rSlA K (.ref a) lo hi H Q := by
  refine ⟨a, xs, rfl, h, fun c => ?_, fun _ p hp => k p hp⟩
  refine absurd ?_ hl
  unfold cutV
  rw [c.1, c.2, List.drop_zero, Nat.sub_zero, List.take_length]

/-! ### log plates -/
def intsOf : List PyData → Option (List Int)
  | [] => some []
  | .int i :: r => (intsOf r).map (i :: ·)
  | _ :: _ => none
theorem intsOf_map : ∀ ns : List Int, intsOf (ns.map PyData.int) = some ns
  | [] => rfl
  | n :: ns => by
    show (intsOf (ns.map PyData.int)).map (n :: ·) = _
    rw [intsOf_map ns]
    rfl
theorem intsOf_some : ∀ {ds : List PyData} {ns : List Int}, intsOf ds = some ns → ds = ns.map PyData.int
  | [], ns, h => by cases h; rfl
  | .int i :: r, ns, h => by
    have h' : (intsOf r).map (i :: ·) = some ns := h
    cases e : intsOf r with
    | none => rw [e] at h'; cases h'
    | some ms =>
      rw [e] at h'
      cases h'
      rw [intsOf_some e]
      rfl
  | .none :: _, _, h => by cases h
  | .bool _ :: _, _, h => by cases h
  | .str _ :: _, _, h => by cases h
  | .list _ :: _, _, h => by cases h
  | .tuple _ :: _, _, h => by cases h
  | .dict _ :: _, _, h => by cases h
theorem isI_of {d : PyData} (h : isI d = true) : ∃ i, d = .int i := by
  cases d <;> first | exact ⟨_, rfl⟩ | cases h
theorem allI_of : ∀ {ds : List PyData}, ds.all isI = true → ∃ ns : List Int, ds = ns.map PyData.int
  | [], _ => ⟨[], rfl⟩
  | d :: ds, h => by
    rw [List.all_cons, Bool.and_eq_true] at h
    obtain ⟨i, rfl⟩ := isI_of h.1
    obtain ⟨ns, rfl⟩ := allI_of h.2
    exact ⟨i :: ns, rfl⟩
theorem allI_map : ∀ ns : List Int, (ns.map PyData.int).all isI = true
  | [] => rfl
  | _ :: ns => by
    rw [List.map_cons, List.all_cons, allI_map ns]
    rfl
structure LP where
  g : Int
  a : Int
  m : Int
  h : Int
  cs : List Int
def LP.all (l : LP) : List Int := l.g :: l.a :: l.m :: l.h :: l.cs
def mkLog : List Int → Option LP
  | g :: a :: m :: h :: cs => if cs.length = 8 ∧ 0 ≤ g ∧ 0 ≤ a ∧ a < m ∧ 0 ≤ h then some ⟨g, a, m, h, cs⟩ else none
  | _ => none
def asLog (d : PyData) : Option LP := match d with
  | .tuple ds => (intsOf ds).bind mkLog
  | _ => none
theorem mkLog_some {ns : List Int} {l : LP} (h : mkLog ns = some l) : ns = l.all ∧ l.cs.length = 8 ∧ 0 ≤ l.g ∧ 0 ≤ l.a ∧ l.a < l.m ∧ 0 ≤ l.h := by
  unfold mkLog at h
  split at h
  · split at h
    · rename_i c
      cases h
      exact ⟨rfl, c⟩
    · cases h
  · cases h
theorem asLog_some {d : PyData} {l : LP} (h : asLog d = some l) : d = .tuple (l.all.map PyData.int) ∧ l.cs.length = 8 ∧ 0 ≤ l.g ∧ 0 ≤ l.a ∧ l.a < l.m ∧ 0 ≤ l.h := by
  unfold asLog at h
  split at h
  · rename_i ds
    cases e : intsOf ds with
    | none => rw [e] at h; cases h
    | some ns =>
      rw [e] at h
      obtain ⟨h1, h2⟩ := mkLog_some (show mkLog ns = some l from h)
      rw [intsOf_some e, h1]
      exact ⟨rfl, h2⟩
  · cases h
theorem asLog_mk {l : LP} (h : l.cs.length = 8 ∧ 0 ≤ l.g ∧ 0 ≤ l.a ∧ l.a < l.m ∧ 0 ≤ l.h) : asLog (.tuple (l.all.map PyData.int)) = some l := by
  show (intsOf _).bind mkLog = _
  rw [intsOf_map]
  show (if l.cs.length = 8 ∧ 0 ≤ l.g ∧ 0 ≤ l.a ∧ l.a < l.m ∧ 0 ≤ l.h then some (⟨l.g, l.a, l.m, l.h, l.cs⟩ : LP) else none) = _
  rw [if_pos h]
theorem dps_inv {K : PySem.W.Frag} {H : Hp} : ∀ {ns : List Int} {vs : List V}, DpAll K H vs (ns.map PyData.int) → vs = ns.map V.int
  | [], _, h => by cases h; rfl
  | n :: ns, _, h => by
    cases h with
    | cons h1 h2 =>
      cases h1
      rw [dps_inv h2]
      rfl
/-- a log plate's value, read -/
theorem log_read {K : PySem.W.Frag} {H : Hp} {v : V} {d : PyData} {l : LP} (hd : Dp K H v d) (h : asLog d = some l) : ∃ a, v = .ref a ∧ SqT K H a (l.all.map V.int) := by
  obtain ⟨rfl, _⟩ := asLog_some h
  cases hd with
  | tup hs ha => exact ⟨_, rfl, dps_inv ha ▸ hs⟩
theorem whole_lo {d : PyData} {l : Int} (h : wholeB d (some l) none = true) : ∃ i, d = .int i ∧ l ≤ i := by
  cases d with
  | int i =>
    have h' : (decide (l ≤ i) && true) = true := h
    rw [Bool.and_true] at h'
    exact ⟨i, rfl, of_decide_eq_true h'⟩
  | _ => cases h
theorem whole_both {d : PyData} {l u : Int} (h : wholeB d (some l) (some u) = true) : ∃ i, d = .int i ∧ l ≤ i ∧ i ≤ u := by
  cases d with
  | int i =>
    have h' : (decide (l ≤ i) && decide (i ≤ u)) = true := h
    rw [Bool.and_eq_true] at h'
    exact ⟨i, rfl, of_decide_eq_true h'.1, of_decide_eq_true h'.2⟩
  | _ => cases h
theorem asLog_none_of {d : PyData} (h : ∀ l, asLog d = some l → False) : (asLog d).isSome = false := by
  cases e : asLog d with
  | none => rfl
  | some l => exact (h l e).elim

section
variable {P : Program} {w : World} {K : PySem.W.Frag} {mg : Str → Option Value} {base : Heap}
/-! ### slot_plate -/
def spSlot : Sp := fun vs H Q _ => ∃ (S t : Int), vs = [.int S, .int t] ∧ 0 < S ∧ Q (.int (2 + t % S)) H
theorem ok_slot {f : Addr} {fd : FuncData} (F : Fun K "slot_plate" "slot_plate" sSlot f fd) {th : Tok} (mH : mg "HEAD_PLATES" = some (.int 2 th)) : FnOk P w K mg base CX0 1 f fd ["slots", "slot"] spSlot := by
  refine F.ok scSlot (fun vs H Q E h => ?_) (fun cdv A outer s H vs Q E hr h => ?_)
  · obtain ⟨S, t, rfl, _⟩ := h
    rfl
  · obtain ⟨S, t, rfl, hS, q⟩ := h
    exact ⟨_, pss_one (ps_ret (pe_op op_add (pe_glob (v := .int 2) rfl mH ⟨_, rfl⟩) (pe_op op_mod (pv 1) (pv 0)))), _, rfl, _, rfl, _, _, rfl, rfl, hS, _, _, rfl, rfl, q⟩

/-! ### is_log_plate -/
def spIsLog (K : PySem.W.Frag) : Sp := fun vs H Q _ => ∃ v d, vs = [v] ∧ Dp K H v d ∧ ∀ H', Same H H' → Q (.bl (asLog d).isSome) H'
theorem ok_isLog {f fW fC : Addr} {fd fdW fdC : FuncData} {ds1 ds2 : List Value} (F : Fun K "is_log_plate" "is_log_plate" sIsLog f fd) (GW : FnOk P w K mg base CX0 1 fW fdW ["thing", "low", "high"] (spWhole K)) (kW : PySem.W.keepIn K (.ref fW) = true) (gW : mg "is_whole" = some (.ref fW))
    (b1 : Binds K fdW ["thing", "low", "high"] ds1) (v1 : Vals [.non, .non] ds1) (b2 : Binds K fdW ["thing", "low", "high"] ds2) (v2 : Vals [.non] ds2) (b3 : Binds K fdW ["thing", "low", "high"] [])
    (GC : FnOk P w K mg base CX0 2 fC fdC ["value"] (spCells K)) (kC : PySem.W.keepIn K (.ref fC) = true) (gC : mg "is_cells" = some (.ref fC)) (bC : Binds K fdC ["value"] [])
    (mi : mg "isinstance" = none) (mt : mg "tuple" = none) {tl : Tok} (mL : mg "LOG_NUMBERS" = some (.int 4 tl)) :
    FnOk P w K mg base CX0 3 f fd ["value"] (spIsLog K) := by
  refine F.ok scIsLog (fun vs H Q E h => ?_) (fun cdv A outer s H vs Q E hr h => ?_)
  · obtain ⟨v, d, rfl, _⟩ := h
    rfl
  · obtain ⟨v, d, rfl, hd, q⟩ := h
    have hr1 : Room 1 _ := hr.mono (by decide)
    refine ⟨_, pss_cons (ps_if (PW.pt (pw_or (pt_not (pt_val (pe_callB call_isi (by rfl) mi (by decide +kernel) (pa_cons (pv 0) (pa_cons (pe_bltn (v := .ty "tuple") (by rfl) mt boot_tuple rfl) pa_nil)))))
        (pw_or1 (pt_not (pt_val (pe_call GC hr rfl gC kC bC .nil pass0 (pa_cons (pe_slice sl_tupA (pv 0) (po_some (pe_glob (v := .int 4) rfl mL ⟨_, rfl⟩)) po_none) pa_nil))))))) (pss_one (ps_ret pe_bl)) pss_nil)
      (pss_cons (ps_asg (pe_slice sl_tupA (pv 0) po_none (po_some (pe_glob (v := .int 4) rfl mL ⟨_, rfl⟩))) (pg_tup rfl (pgs_cons (pg_name (i := 1) scIsLog.nd rfl (.inl rfl)) (pgs_cons (pg_name (i := 2) scIsLog.nd rfl (.inl rfl)) (pgs_cons (pg_name (i := 3) scIsLog.nd rfl (.inl rfl)) (pgs_cons (pg_name (i := 4) scIsLog.nd rfl (.inl rfl)) pgs_nil))))))
      (pss_one (ps_ret (pe_and (pe_call GW hr1 rfl gW kW b2 v2 pass0 (pa_cons (pv 1) (pa_cons pe_int pa_nil))) (pe_and (pe_call GW hr1 rfl gW kW b1 v1 pass0 (pa_cons (pv 3) pa_nil))
        (pe_and (pe_call GW hr1 rfl gW kW b3 .nil pass0 (pa_cons (pv 2) (pa_cons pe_int (pa_cons (pe_op op_sub (pv 3) pe_int) pa_nil)))) (pe_one (pe_call GW hr1 rfl gW kW b2 v2 pass0 (pa_cons (pv 4) (pa_cons pe_int pa_nil)))))))))), ?_⟩
    obtain ⟨t, ty, kt⟩ := isi_tup hd
    refine ⟨_, rfl, _, _, t, _, _, rfl, .ty _, ty, kt, _, rfl, ?_⟩
    cases hd with
    | non => exact iteT (iteT (q _ (Same.refl _)))
    | str x => exact iteT (iteT (q _ (Same.refl _)))
    | lst _ _ => exact iteT (iteT (q _ (Same.refl _)))
    | int x => exact iteT (iteT (q _ (Same.refl _)))
    | bl b => exact iteT (iteT (q _ (Same.refl _)))
    | @tup a xs ds hs ha =>
      refine iteF ⟨_, rfl, 4, rfl, ?_⟩
      dsimp only [tNoPart]
      refine slA_use (K := K) (a := a) (xs := xs) (lo := some 4) (hi := none) hs fun p H1 s1 h1 => ?_
      have e4 : cutV xs (some (4 : Int)) none = xs.drop 4 := cut_from xs 4
      rw [e4] at h1
      refine ⟨_, .tuple (ds.drop 4), rfl, .tup h1 (dps_same s1 _ _ (dps_drop 4 ha)), fun H2 s2 => ⟨_, rfl, ?_⟩⟩
      have s02 : Same H H2 := s1.trans s2
      -- what fails: no log plate
      have no : (∀ l, asLog (.tuple ds) = some l → False) → ∀ H', Same H H' → Q (.bl false) H' := fun z H' s' => by
        have q' := q H' s'
        rw [asLog_none_of z] at q'
        exact q'
      cases hcell : cellsB (.tuple (ds.drop 4)) with
      | false =>
        refine iteT (no (fun l hl => ?_) _ s02)
        obtain ⟨e, h8, _⟩ := asLog_some hl
        injection e with e
        rw [e] at hcell
        have : cellsB (.tuple ((l.all.map PyData.int).drop 4)) = true := by
          show (decide ((l.cs.map PyData.int).length = 8) && (l.cs.map PyData.int).all isI) = true
          rw [allI_map, List.length_map, h8]
          rfl
        rw [this] at hcell
        cases hcell
      | true =>
        have hc2 : (decide ((ds.drop 4).length = 8) && (ds.drop 4).all isI) = true := hcell
        rw [Bool.and_eq_true] at hc2
        have h8 : (ds.drop 4).length = 8 := of_decide_eq_true hc2.1
        obtain ⟨cs, ecs⟩ := allI_of hc2.2
        have hlen : ds.length = 12 := by rw [List.length_drop] at h8; omega
        obtain ⟨d0, d1, d2, d3, rest, eds⟩ : ∃ d0 d1 d2 d3 rest, ds = d0 :: d1 :: d2 :: d3 :: rest := by
          match ds, hlen with
          | d0 :: d1 :: d2 :: d3 :: rest, _ => exact ⟨d0, d1, d2, d3, rest, rfl⟩
        subst eds
        have erest : rest = cs.map PyData.int := ecs
        subst erest
        have hc8 : cs.length = 8 := by simpa using h8
        obtain ⟨x0, x1, x2, x3, xr, exs, p0, p1, p2, p3⟩ : ∃ x0 x1 x2 x3 xr, xs = x0 :: x1 :: x2 :: x3 :: xr ∧ Dp K H x0 d0 ∧ Dp K H x1 d1 ∧ Dp K H x2 d2 ∧ Dp K H x3 d3 := by
          cases ha with
          | cons p0 ha => cases ha with
            | cons p1 ha => cases ha with
              | cons p2 ha => cases ha with
                | cons p3 ha => exact ⟨_, _, _, _, _, rfl, p0, p1, p2, p3⟩
        subst exs
        refine iteF ⟨_, rfl, 4, rfl, ?_⟩
        dsimp only [tNoPart]
        refine slA_use (K := K) (a := a) (lo := none) (hi := some 4) (same_seqT s02 hs) fun p' H3 s3 h3 => ?_
        have e4' : cutV (x0 :: x1 :: x2 :: x3 :: xr) none (some (4 : Int)) = [x0, x1, x2, x3] := cut_to _ 4
        rw [e4'] at h3
        have s03 : Same H H3 := s02.trans s3
        refine ⟨p', _, rfl, h3, rfl, _, _, rfl, _, _, rfl, _, _, rfl, _, _, rfl, rfl, ?_⟩
        refine ⟨_, rfl, x0, d0, some 0, none, rfl, dp_same s03 _ _ p0, _, rfl, ite2 (fun c0 => ?_) (fun c0 => no (fun l hl => ?_) _ s03)⟩
        · refine ⟨_, rfl, x2, d2, none, none, rfl, dp_same s03 _ _ p2, _, rfl, ite2 (fun c2 => ?_) (fun c2 => no (fun l hl => ?_) _ s03)⟩
          · obtain ⟨m, rfl⟩ := isI_of ((whole_none d2).symm.trans c2)
            cases p2
            refine ⟨_, rfl, _, rfl, _, _, rfl, rfl, x1, d1, some 0, some (m - 1), rfl, dp_same s03 _ _ p1, _, rfl, ite2 (fun c1 => ?_) (fun c1 => no (fun l hl => ?_) _ s03)⟩
            · refine ⟨_, rfl, x3, d3, some 0, none, rfl, dp_same s03 _ _ p3, ?_⟩
              obtain ⟨g, rfl, hg⟩ := whole_lo c0
              obtain ⟨at', rfl, ha1, ha2⟩ := whole_both c1
              have q' := q _ s03
              have e : (asLog (.tuple (.int g :: .int at' :: .int m :: d3 :: cs.map PyData.int))).isSome = wholeB d3 (some 0) none := by
                cases hw : wholeB d3 (some 0) none with
                | true =>
                  obtain ⟨hm, rfl, hh⟩ := whole_lo hw
                  have z := asLog_mk (l := ⟨g, at', m, hm, cs⟩) ⟨hc8, hg, ha1, by show at' < m; omega, hh⟩
                  have z2 : (PyData.int g :: .int at' :: .int m :: .int hm :: cs.map PyData.int) = (LP.all ⟨g, at', m, hm, cs⟩).map PyData.int := rfl
                  rw [z2, z]
                  rfl
                | false =>
                  refine asLog_none_of fun l hl => ?_
                  obtain ⟨e, _, _, _, _, hh⟩ := asLog_some hl
                  simp only [LP.all, List.map_cons, PyData.tuple.injEq, List.cons.injEq] at e
                  rw [e.2.2.2.1] at hw
                  have : wholeB (.int l.h) (some 0) none = true := by
                    show (decide (0 ≤ l.h) && true) = true
                    rw [decide_eq_true hh]
                    rfl
                  rw [this] at hw
                  cases hw
              rw [e] at q'
              exact q'
            · obtain ⟨e, _, _, ha1, ha2, _⟩ := asLog_some hl
              simp only [LP.all, List.map_cons, PyData.tuple.injEq, List.cons.injEq, PyData.int.injEq] at e
              refine c1 ?_
              rw [e.2.1]
              show (decide (0 ≤ l.a) && decide (l.a ≤ m - 1)) = true
              rw [decide_eq_true ha1, decide_eq_true (by omega)]
              rfl
          · obtain ⟨e, _⟩ := asLog_some hl
            simp only [LP.all, List.map_cons, PyData.tuple.injEq, List.cons.injEq, PyData.int.injEq] at e
            refine c2 ?_
            rw [e.2.2.1]
            rfl
        · obtain ⟨e, _, hg, _⟩ := asLog_some hl
          simp only [LP.all, List.map_cons, PyData.tuple.injEq, List.cons.injEq, PyData.int.injEq] at e
          refine c0 ?_
          rw [e.1]
          show (decide (0 ≤ l.g) && true) = true
          rw [decide_eq_true hg]
          rfl
end
end Pf

set_option Elab.async false
set_option linter.all false
set_option maxRecDepth 100000
set_option maxHeartbeats 4000000
namespace Pf
open PySem PySem.Spec PyProof.Rows L2
/-! ### disks -/
theorem n_ml : ¬ (("many" : Str) = "loose") := by decide +kernel
theorem n_ms : ¬ (("many" : Str) = "settled") := by decide +kernel
theorem n_sl : ¬ (("settled" : Str) = "loose") := by decide +kernel
theorem n_sm : ¬ (("settled" : Str) = "many") := by decide +kernel
theorem n_lm : ¬ (("loose" : Str) = "many") := by decide +kernel
theorem n_ls : ¬ (("loose" : Str) = "settled") := by decide +kernel
def fl (n : Int) (s l : Addr) : List (Str × V) := putF "loose" (.ref l) (putF "settled" (.ref s) (putF "many" (.int n) []))
theorem fl_eq (n : Int) (s l : Addr) : fl n s l = ([("many", V.int n), ("settled", V.ref s), ("loose", V.ref l)] : List (Str × V)) := by
  unfold fl
  simp only [putF, if_neg n_ms, if_neg n_sm, if_neg n_ml, if_neg n_lm, if_neg n_sl, if_neg n_ls]
theorem fl_many (n : Int) (s l : Addr) : (fl n s l).lookup ("many" : Str) = some (.int n) := by
  unfold fl
  rw [lookup_putF, if_neg n_ml, lookup_putF, if_neg n_ms, lookup_putF, if_pos rfl]
theorem fl_settled (n : Int) (s l : Addr) : (fl n s l).lookup ("settled" : Str) = some (.ref s) := by
  unfold fl
  rw [lookup_putF, if_neg n_sl, lookup_putF, if_pos rfl]
theorem fl_loose (n : Int) (s l : Addr) : (fl n s l).lookup ("loose" : Str) = some (.ref l) := by
  unfold fl
  rw [lookup_putF, if_pos rfl]
theorem fl_no (n : Int) (s l : Addr) {m : Str} (h1 : ¬ m = "loose") (h2 : ¬ m = "settled") (h3 : ¬ m = "many") : (fl n s l).lookup m = none := by
  unfold fl
  rw [lookup_putF, if_neg h1, lookup_putF, if_neg h2, lookup_putF, if_neg h3]
  rfl
theorem fl_len (n : Int) (s l : Addr) : (fl n s l).length < 1000 := by
  rw [fl_eq]
  show 3 < 1000
  decide
theorem fl_put_loose (n : Int) (s l l' : Addr) : putF "loose" (.ref l') (fl n s l) = fl n s l' := by
  rw [fl_eq, fl_eq]
  simp only [putF, if_neg n_ms, if_neg n_sm, if_neg n_ml, if_neg n_lm, if_neg n_sl, if_neg n_ls, if_pos]
/-- the pairs of what is loose -/
def LsAt (H : Hp) (ts : List V) (lv : List (Int × V)) : Prop := ts.length = lv.length ∧ ∀ (i : Nat) (q : Int × V), lv[i]? = some q → ∃ b, ts[i]? = some (.ref b) ∧ H b = some (.tup [.int q.1, q.2])
theorem LsAt.same {H H' : Hp} {ts : List V} {lv : List (Int × V)} (h : LsAt H ts lv) (s : Same H H') : LsAt H' ts lv := ⟨h.1, fun i q e => by
  obtain ⟨b, e1, e2⟩ := h.2 i q e
  exact ⟨b, e1, s _ _ e2⟩⟩
/-- a disk stands at d: how many plates, what is settled, what is loose -/
def DiskAt (C : Addr) (H : Hp) (d : Addr) (n : Int) (sv : List V) (lv : List (Int × V)) : Prop :=
  ∃ dx s l ts, H d = some (.ins C dx (fl n s l)) ∧ H s = some (.tup sv) ∧ sv.length = n.toNat ∧ 0 ≤ n ∧ H l = some (.tup ts) ∧ LsAt H ts lv
theorem DiskAt.same {C : Addr} {H H' : Hp} {d : Addr} {n : Int} {sv : List V} {lv : List (Int × V)} (h : DiskAt C H d n sv lv) (s : Same H H') : DiskAt C H' d n sv lv := by
  obtain ⟨dx, a, b, ts, h1, h2, h3, h4, h5, h6⟩ := h
  exact ⟨dx, a, b, ts, s _ _ h1, s _ _ h2, h3, h4, s _ _ h5, h6.same s⟩
/-- what a plate reads as -/
def nowV (sv : List V) (lv : List (Int × V)) (p : Int) : V := lv.foldl (fun v q => if q.1 = p then q.2 else v) (sv.getD p.toNat .non)
structure DTxt (K : PySem.W.Frag) (C : Addr) : Prop where
  cl : Cls K C
  nM : NoAttr K C "many"
  nS : NoAttr K C "settled"
  nL : NoAttr K C "loose"

theorem scInit : FnScope ["self", "many"] ["self", "many"] (defScope sInit) := ⟨rfl, rfl, rfl, by decide +kernel, rfl, by decide +kernel, by decide +kernel⟩
theorem scWrite : FnScope ["self", "plate", "value"] ["self", "plate", "value"] (defScope sWrite) := ⟨rfl, rfl, rfl, by decide +kernel, rfl, by decide +kernel, by decide +kernel⟩
theorem scNow : FnScope ["self", "plate", "value", "written", "late"] ["self", "plate"] (defScope sNow) := ⟨rfl, rfl, rfl, by decide +kernel, rfl, by decide +kernel, by decide +kernel⟩
theorem scCheck : FnScope ["self", "plate"] ["self", "plate"] (defScope sCheck) := ⟨rfl, rfl, rfl, by decide +kernel, rfl, by decide +kernel, by decide +kernel⟩
section
variable {P : Program} {w : World} {K : PySem.W.Frag} {mg : Str → Option Value} {base : Heap} {C : Addr}
def spInit (C : Addr) : Sp := fun vs H Q _ => ∃ (d dx : Addr) (n : Int), vs = [.ref d, .int n] ∧ H d = some (.ins C dx []) ∧ 2 ≤ n ∧ n ≤ 1000 ∧
  ∀ H' e, But [d] H H' → H e = none → H' e = some (.tup []) → DiskAt C H' d n (List.replicate n.toNat (.ref e)) [] → Q .non H'
theorem ok_init {f : Addr} {fd : FuncData} (F : Fun K "__init__" "Disk.__init__" sInit f fd) (T : DTxt K C) : FnOk P w K mg base CX0 1 f fd ["self", "many"] (spInit C) := by
  refine F.ok scInit (fun vs H Q E h => ?_) (fun cdv A outer s H vs Q E hr h => ?_)
  · obtain ⟨d, dx, n, rfl, _⟩ := h
    rfl
  · obtain ⟨d, dx, n, rfl, hd, h2, h3, k⟩ := h
    refine ⟨_, pss_cons (ps_fld (pv 0) (pv 1) rfl) (pss_cons (ps_fld (pv 0) (pe_op op_repT (pe_tup (pa_cons (pe_tup pa_nil) pa_nil)) (pv 1)) rfl) (pss_one (ps_fld (pv 0) (pe_tup pa_nil) rfl))), ?_⟩
    refine ⟨_, rfl, _, rfl, d, C, dx, [], rfl, hd, T.cl, T.nM, (by show 0 < 1000; decide), ?_⟩
    refine ⟨Nat.zero_le _, fun e he => ⟨by show 1 ≤ sizeLine; decide, fun u hu => ?_⟩⟩
    have ned : e ≠ d := fun z => by rw [z, upd_same] at he; cases he
    have nue : u ≠ e := fun z => by rw [z, upd_same] at hu; cases hu
    have nud : u ≠ d := fun z => by rw [z, upd_ne ned.symm, upd_same] at hu; cases hu
    refine ⟨_, rfl, u, n, [.ref e], rfl, rfl, SqT.of upd_same, by simp, h2, h3, by show 1 ≤ 1000; decide, fun s' hs => ?_⟩
    have nsu : s' ≠ u := fun z => by rw [z, upd_same] at hs; cases hs
    have nse : s' ≠ e := fun z => by rw [z, upd_ne nue.symm, upd_same] at hs; cases hs
    have nsd : s' ≠ d := fun z => by rw [z, upd_ne nud.symm, upd_ne ned.symm, upd_same] at hs; cases hs
    refine ⟨_, rfl, d, C, dx, putF "many" (.int n) [], rfl, by rw [upd_ne nsd.symm, upd_ne nud.symm, upd_ne ned.symm, upd_same], T.cl, T.nS, (by show 1 < 1000; decide), ?_⟩
    refine ⟨Nat.zero_le _, fun l hl => ?_⟩
    have nld : l ≠ d := fun z => by rw [z, upd_same] at hl; cases hl
    have nls : l ≠ s' := fun z => by rw [z, upd_ne nsd, upd_same] at hl; cases hl
    have nlu : l ≠ u := fun z => by rw [z, upd_ne nud, upd_ne nsu.symm, upd_same] at hl; cases hl
    have nle : l ≠ e := fun z => by rw [z, upd_ne ned, upd_ne nse.symm, upd_ne nue.symm, upd_same] at hl; cases hl
    have he0 : H e = none := by rw [upd_ne ned] at he; exact he
    have hu0 : H u = none := by rw [upd_ne nue, upd_ne nud] at hu; exact hu
    have hs0 : H s' = none := by rw [upd_ne nsu, upd_ne nse, upd_ne nsd] at hs; exact hs
    have hl0 : H l = none := by rw [upd_ne nld, upd_ne nls, upd_ne nlu, upd_ne nle, upd_ne nld] at hl; exact hl
    refine ⟨_, rfl, d, C, dx, putF "settled" (.ref s') (putF "many" (.int n) []), rfl, by rw [upd_ne nld.symm, upd_same], T.cl, T.nL, ?_, ?_⟩
    · show (if ("many" : Str) = "settled" then _ else (("many" : Str), V.int n) :: putF "settled" (V.ref s') []).length < 1000
      rw [if_neg n_ms]
      show 2 < 1000
      decide
    refine k _ e (fun b o q => ?_) he0 ?_ ⟨dx, s', l, [], upd_same, ?_, ?_, by omega, ?_, ⟨rfl, fun i q z => by simp at z⟩⟩
    · have hb : b ∉ [d] := fun z => by rw [off_in z] at q; cases q
      rw [off_out hb] at q
      have nbd : b ≠ d := fun z => hb (by rw [z]; simp)
      rw [upd_ne nbd, upd_ne (ne_of_none q hl0), upd_ne nbd, upd_ne (ne_of_none q hs0), upd_ne (ne_of_none q hu0), upd_ne (ne_of_none q he0), upd_ne nbd]
      exact q
    · rw [upd_ne ned, upd_ne nle.symm, upd_ne ned, upd_ne nse.symm, upd_ne nue.symm, upd_same]
    · rw [upd_ne nsd, upd_ne nls.symm, upd_ne nsd, upd_same, List.flatten_replicate_singleton]
    · rw [List.length_replicate]
    · rw [upd_ne nld, upd_same]
def spCheck (C : Addr) : Sp := fun vs H Q _ => ∃ (d : Addr) (n p : Int) (sv : List V) (lv : List (Int × V)), vs = [.ref d, .int p] ∧ DiskAt C H d n sv lv ∧ 0 ≤ p ∧ p < n ∧ Q .non H
theorem ok_check {f fW : Addr} {fd fdW : FuncData} (F : Fun K "check_plate" "Disk.check_plate" sCheck f fd) (T : DTxt K C) (GW : FnOk P w K mg base CX0 1 fW fdW ["thing", "low", "high"] (spWhole K)) (kW : PySem.W.keepIn K (.ref fW) = true) (gW : mg "is_whole" = some (.ref fW))
    (b3 : Binds K fdW ["thing", "low", "high"] []) : FnOk P w K mg base CX0 2 f fd ["self", "plate"] (spCheck C) := by
  refine F.ok scCheck (fun vs H Q E h => ?_) (fun cdv A outer s H vs Q E hr h => ?_)
  · obtain ⟨d, n, p, sv, lv, rfl, _⟩ := h
    rfl
  · obtain ⟨d, n, p, sv, lv, rfl, D, h0, h1, k⟩ := h
    obtain ⟨dx, a, b, ts, e1, e2, e3, e4, e5, e6⟩ := id D
    refine ⟨_, pss_one (ps_if (pt_not (pt_val (pe_call GW hr rfl gW kW b3 .nil pass0 (pa_cons (pv 1) (pa_cons pe_int (pa_cons (pe_op op_sub (pe_fld (pv 0) rfl) pe_int) pa_nil)))))) (pss_one ps_never) pss_nil), ?_⟩
    refine ⟨_, rfl, _, rfl, d, C, dx, _, _, rfl, e1, T.cl, T.nM, fl_many _ _ _, _, _, rfl, rfl, .int p, .int p, some 0, some (n - 1), rfl, .int p, _, rfl, ?_⟩
    have e : wholeB (.int p) (some 0) (some (n - 1)) = true := by
      show (decide (0 ≤ p) && decide (p ≤ n - 1)) = true
      rw [decide_eq_true h0, decide_eq_true (by omega)]
      rfl
    rw [e]
    exact iteF k
def spWrite (C : Addr) : Sp := fun vs H Q _ => ∃ (d : Addr) (n p : Int) (v : V) (sv : List V) (lv : List (Int × V)), vs = [.ref d, .int p, v] ∧ DiskAt C H d n sv lv ∧ 0 ≤ p ∧ p < n ∧ lv.length ≤ 1000 ∧
  ∀ H', But [d] H H' → DiskAt C H' d n sv (lv ++ [(p, v)]) → Q .non H'
theorem ok_write {f fK : Addr} {fd fdK : FuncData} (F : Fun K "write" "Disk.write" sWrite f fd) (T : DTxt K C) (GK : FnOk P w K mg base CX0 2 fK fdK ["self", "plate"] (spCheck C)) (mK : Meth K C "check_plate" fK) (bK : Binds K fdK ["self", "plate"] []) :
    FnOk P w K mg base CX0 3 f fd ["self", "plate", "value"] (spWrite C) := by
  refine F.ok scWrite (fun vs H Q E h => ?_) (fun cdv A outer s H vs Q E hr h => ?_)
  · obtain ⟨d, n, p, v, sv, lv, rfl, _⟩ := h
    rfl
  · obtain ⟨d, n, p, v, sv, lv, rfl, D, h0, h1, hz, k⟩ := h
    obtain ⟨dx, a, b, ts, e1, e2, e3, e4, e5, e6⟩ := id D
    refine ⟨_, pss_cons (ps_expr (pe_meth (pv 0) T.cl mK GK hr bK .nil pass0 (pa_cons (pv 1) pa_nil)))
      (pss_one (ps_fld (pv 0) (pe_op op_catA (pe_fld (pv 0) rfl) (pe_tup (pa_cons (pe_tup (pa_cons (pv 1) (pa_cons (pv 2) pa_nil))) pa_nil))) rfl)), ?_⟩
    refine ⟨_, rfl, d, dx, _, rfl, e1, fl_no _ _ _ (by decide +kernel) (by decide +kernel) (by decide +kernel), _, rfl, d, n, p, sv, lv, rfl, D, h0, h1, ?_⟩
    refine ⟨_, rfl, d, C, dx, _, _, rfl, e1, T.cl, T.nL, fl_loose _ _ _, ?_⟩
    refine ⟨_, rfl, _, rfl, by show 2 ≤ sizeLine; decide, fun u hu => ⟨by show 1 ≤ sizeLine; decide, fun u2 hu2 => ?_⟩⟩
    have nu2 : u2 ≠ u := fun z => by rw [z, upd_same] at hu2; cases hu2
    have hu20 : H u2 = none := by rw [upd_ne nu2] at hu2; exact hu2
    have s2 : Same H (upd (upd H u (.tup [.int p, v])) u2 (.tup [.ref u])) := (same_upd hu).trans (same_upd hu2)
    have hlen : ts.length = lv.length := e6.1
    -- behind: the new tuple of pairs stands at c
    have fin : ∀ (c : Addr) (H2 : Hp), Same (upd (upd H u (.tup [.int p, v])) u2 (.tup [.ref u])) H2 → H2 c = some (.tup (ts ++ [.ref u])) →
        ∃ v1, (L2.start ["self", "plate", "value"] [V.ref d, V.int p, v])[0]? = some (some v1) ∧ ∃ a C' dx' fs, v1 = V.ref a ∧ H2 a = some (.ins C' dx' fs) ∧ Cls K C' ∧ NoAttr K C' "loose" ∧ fs.length < 1000 ∧ Q .non (upd H2 a (.ins C' dx' (putF "loose" (.ref c) fs))) := by
      intro c H2 s hc
      have s' : Same H H2 := s2.trans s
      refine ⟨_, rfl, d, C, dx, _, rfl, s' _ _ e1, T.cl, T.nL, fl_len _ _ _, ?_⟩
      rw [fl_put_loose]
      have nd : ∀ {q : Addr} {xs : List V}, H2 q = some (.tup xs) → q ≠ d := fun h z => by
        rw [z, s' _ _ e1] at h
        cases h
      refine k _ (fun q o z => ?_) ⟨dx, a, c, ts ++ [.ref u], upd_same, ?_, e3, e4, ?_, ?_, ?_⟩
      · have hb : q ∉ [d] := fun y => by rw [off_in y] at z; cases z
        rw [off_out hb] at z
        rw [upd_ne (fun y => hb (by rw [y]; simp))]
        exact s' _ _ z
      · rw [upd_ne (nd (s' _ _ e2))]
        exact s' _ _ e2
      · rw [upd_ne (nd hc)]
        exact hc
      · rw [List.length_append, List.length_append, hlen]
        rfl
      · intro i q z
        by_cases hi : i < lv.length
        · rw [List.getElem?_append_left hi] at z
          obtain ⟨b', y1, y2⟩ := e6.2 i q z
          refine ⟨b', ?_, ?_⟩
          · rw [List.getElem?_append_left (by omega)]
            exact y1
          · rw [upd_ne (nd (s' _ _ y2))]
            exact s' _ _ y2
        · rw [List.getElem?_append_right (by omega)] at z
          have hi0 : i - lv.length = 0 := by
            have := (List.getElem?_eq_some_iff.mp z).1
            simp at this
            omega
          rw [hi0] at z
          cases (Option.some.inj z)
          refine ⟨u, ?_, ?_⟩
          · rw [List.getElem?_append_right (by omega), hlen, hi0]
            rfl
          · have hu' : H2 u = some (.tup [.int p, v]) := s _ _ (by rw [upd_ne nu2.symm, upd_same])
            rw [upd_ne (nd hu')]
            exact hu'
    refine ⟨b, u2, ts, [.ref u], rfl, rfl, SqT.of (s2 _ _ e5), SqT.of upd_same, ?_, fun z => ?_, fun _ z => absurd z (by simp), fun _ _ c hc => ?_⟩
    · rw [hlen]
      have := small1000 (n := 1000) (by decide)
      show lv.length + 1 ≤ sizeLine
      omega
    · subst z
      exact fin u2 _ (Same.refl _) upd_same
    · exact fin c _ (same_upd hc) upd_same
def spNow (C : Addr) : Sp := fun vs H Q _ => ∃ (d : Addr) (n p : Int) (sv : List V) (lv : List (Int × V)), vs = [.ref d, .int p] ∧ DiskAt C H d n sv lv ∧ 0 ≤ p ∧ p < n ∧ Q (nowV sv lv p) H
theorem ok_now {f fK : Addr} {fd fdK : FuncData} (F : Fun K "now" "Disk.now" sNow f fd) (T : DTxt K C) (GK : FnOk P w K mg base CX0 2 fK fdK ["self", "plate"] (spCheck C)) (mK : Meth K C "check_plate" fK) (bK : Binds K fdK ["self", "plate"] []) :
    FnOk P w K mg base CX0 3 f fd ["self", "plate"] (spNow C) := by
  refine F.ok scNow (fun vs H Q E h => ?_) (fun cdv A outer s H vs Q E hr h => ?_)
  · obtain ⟨d, n, p, sv, lv, rfl, _⟩ := h
    rfl
  · obtain ⟨d, n, p, sv, lv, rfl, D, h0, h1, k⟩ := h
    obtain ⟨dx, a, b, ts, e1, e2, e3, e4, e5, e6⟩ := id D
    refine ⟨_, pss_cons (ps_expr (pe_meth (pv 0) T.cl mK GK hr bK .nil pass0 (pa_cons (pv 1) pa_nil)))
      (pss_cons (ps_set (i := 2) scNow.nd rfl (.inl rfl) (pe_ix ix_tup (pe_fld (pv 0) rfl) (pv 1) (fun _ _ => rfl)))
      (pss_cons (ps_for PassesOwn.never rfl (pi_tup (pe_fld (pv 0) rfl)) (pg_tup rfl (pgs_cons (pg_name (i := 3) scNow.nd rfl (.inl rfl)) (pgs_cons (pg_name (i := 4) scNow.nd rfl (.inl rfl)) pgs_nil)))
        (pss_one (ps_if (pt_cmpR op_eq (pv 3) (pv 1) (nomark _)) (pss_one (ps_set (i := 2) scNow.nd rfl (.inl rfl) (pv 4))) pss_nil)))
      (pss_one (ps_ret (pv 2))))), ?_⟩
    refine ⟨_, rfl, d, dx, _, rfl, e1, fl_no _ _ _ (by decide +kernel) (by decide +kernel) (by decide +kernel), _, rfl, d, n, p, sv, lv, rfl, D, h0, h1, ?_⟩
    have hp : p.toNat < sv.length := by omega
    have ep : ((p.toNat : Nat) : Int) = p := by omega
    refine ⟨_, rfl, d, C, dx, _, _, rfl, e1, T.cl, T.nS, fl_settled _ _ _, _, rfl, a, sv, p, sv.getD p.toNat .non, rfl, rfl, SqT.of e2, ?_, ?_⟩
    · rw [← ep]
      refine atI_nat ?_
      rw [Int.toNat_natCast, List.getD_eq_getElem?_getD, List.getElem?_eq_getElem hp]
      rfl
    refine ⟨_, rfl, d, C, dx, _, _, rfl, e1, T.cl, T.nL, fl_loose _ _ _, b, rfl, ⟨_, SqT.of e5⟩, for_tup (K := K) (a := b) (xs := ts)
      (fun i σ H' => H' = H ∧ ∃ y3 y4, σ = [some (.ref d), some (.int p), some ((lv.take i).foldl (fun v q => if q.1 = p then q.2 else v) (sv.getD p.toNat .non)), y3, y4]) ⟨rfl, none, none, rfl⟩ (fun i σ H' _ z => by rw [z.1]; exact SqT.of e5) ?_ ?_⟩
    · rintro i x σ H' hi ⟨rfl, y3, y4, rfl⟩
      have hil : i < lv.length := by
        rw [← e6.1]
        exact (List.getElem?_eq_some_iff.mp hi).1
      obtain ⟨c, z1, z2⟩ := e6.2 i _ (List.getElem?_eq_getElem hil)
      have ex : x = .ref c := Option.some.inj (hi.symm.trans z1)
      subst ex
      refine ⟨c, _, rfl, SqT.of z2, rfl, _, _, rfl, _, _, rfl, rfl, ?_⟩
      have et : (lv.take (i + 1)).foldl (fun v q => if q.1 = p then q.2 else v) (sv.getD p.toNat .non) = if lv[i].1 = p then lv[i].2 else (lv.take i).foldl (fun v q => if q.1 = p then q.2 else v) (sv.getD p.toNat .non) := by
        rw [List.take_add_one, List.getElem?_eq_getElem hil, List.foldl_append]
        rfl
      refine ⟨_, rfl, _, rfl, rfl, _, rfl, ite2 (fun hc => ?_) (fun hc => ?_)⟩
      · have he : lv[i].1 = p := by
          have := of_decide_eq_true hc
          injection this
        exact ⟨_, rfl, rfl, _, _, by rw [et, if_pos he]; rfl⟩
      · have he : ¬ lv[i].1 = p := fun z => hc (decide_eq_true (by rw [z]))
        exact ⟨rfl, _, _, by rw [et, if_neg he]; rfl⟩
    · rintro σ H' ⟨rfl, y3, y4, rfl⟩
      refine ⟨_, rfl, ?_⟩
      rw [e6.1, List.take_length]
      exact k
end
end Pf

set_option Elab.async false
set_option linter.all false
set_option maxRecDepth 100000
set_option maxHeartbeats 4000000
namespace Pf
open PySem PySem.Spec PyProof.Rows L2
/-! ### shapes of data -/
theorem lay_ints : ∀ ns : List Int, PyData.canLayAll0 (ns.map PyData.int) = true
  | [] => by simp [PyData.canLayAll0]
  | n :: ns => by simp [PyData.canLayAll0, PyData.canLay0, lay_ints ns]
theorem dep_ints : ∀ ns : List Int, PyData.depthAll (ns.map PyData.int) = 0
  | [] => by simp [PyData.depthAll]
  | n :: ns => by simp [PyData.depthAll, PyData.depth, dep_ints ns]
theorem shaped_list {ds : List PyData} (h1 : PyData.canLayAll0 ds = true) (h2 : PyData.depthAll ds ≤ 60) : SeqAt.shaped (.list ds) = true := by
  have h3 : PyData.depth (.list ds) ≤ 64 := by
    simp only [PyData.depth]
    omega
  show (PyData.canLay0 (.list ds) && decide (PyData.depth (.list ds) ≤ 64)) = true
  rw [Bool.and_eq_true]
  exact ⟨by simp only [PyData.canLay0]; exact h1, decide_eq_true h3⟩
theorem shaped_tup {ds : List PyData} (h1 : PyData.canLayAll0 ds = true) (h2 : PyData.depthAll ds ≤ 60) : SeqAt.shaped (.tuple ds) = true := by
  have h3 : PyData.depth (.tuple ds) ≤ 64 := by
    simp only [PyData.depth]
    omega
  show (PyData.canLay0 (.tuple ds) && decide (PyData.depth (.tuple ds) ≤ 64)) = true
  rw [Bool.and_eq_true]
  exact ⟨by simp only [PyData.canLay0]; exact h1, decide_eq_true h3⟩
theorem scNum : FnScope ["script", "index", "cell", "blend"] ["script", "index"] (defScope sNum) := ⟨rfl, rfl, rfl, by decide +kernel, rfl, by decide +kernel, by decide +kernel⟩
theorem scTake : FnScope ["draw", "many"] ["draw", "many"] (defScope sTake) := ⟨rfl, rfl, rfl, by decide +kernel, rfl, by decide +kernel, by decide +kernel⟩
theorem scPick : FnScope ["draw", "items"] ["draw", "items"] (defScope sPick) := ⟨rfl, rfl, rfl, by decide +kernel, rfl, by decide +kernel, by decide +kernel⟩
section
variable {P : Program} {w : World} {K : PySem.W.Frag} {mg : Str → Option Value} {base : Heap}
def spNum (K : PySem.W.Frag) : Sp := fun vs H Q _ => ∃ (a : Addr) (ns : List Int) (i : Int), vs = [.ref a, .int i] ∧ SqL K H a (ns.map V.int) ∧ ns.length ≤ 63 ∧ ∀ r H', Same H H' → Q (.int r) H'
theorem ok_num {f : Addr} {fd : FuncData} (F : Fun K "_law_number" "_law_number" sNum f fd) (mi : mg "int" = none) (ml : mg "len" = none) (ma : mg "abs" = none) : FnOk P w K mg base CX0 1 f fd ["script", "index"] (spNum K) := by
  refine F.ok scNum (fun vs H Q E h => ?_) (fun cdv A outer s H vs Q E hr h => ?_)
  · obtain ⟨a, ns, i, rfl, _⟩ := h
    rfl
  · obtain ⟨a, ns, i, rfl, hS, hlen, k⟩ := h
    refine ⟨_, pss_cons (ps_if (pt_cmpR (op_eqD hr.units) (pv 0) (pe_lst pa_nil) (nomark _))
        (pss_one (ps_ret (pe_callTy call_int1 (by rfl) mi boot_int (pa_cons (pe_op op_mod (pe_op op_add (pe_op op_mul (pv 1) pe_int) pe_int) pe_int) pa_nil)))) pss_nil)
      (pss_cons (ps_set (i := 2) scNum.nd rfl (.inl rfl) (pe_ix ix_list (pv 0) (pe_op op_mod (pv 1) (pe_callB call_len_seq (by rfl) ml boot_len (pa_cons (pv 0) pa_nil))) (fun _ _ => rfl)))
      (pss_cons (ps_if (pt_cmpR op_ge (pe_callB call_abs (by rfl) ma (by decide +kernel) (pa_cons (pv 2) pa_nil)) (pe_op op_pow pe_int pe_int) (nomark _))
        (pss_one (ps_set (i := 2) scNum.nd rfl (.inl rfl) (pe_op op_mod (pv 2) (pe_op op_pow pe_int pe_int)))) pss_nil)
      (pss_cons (ps_set (i := 3) scNum.nd rfl (.inl rfl) (pe_op op_mod (pe_op op_add (pe_op op_mul (pe_op op_add (pv 2) (pe_op op_mul pe_int (pv 1))) pe_int) (pe_op op_mul pe_int (pe_callB call_len_seq (by rfl) ml boot_len (pa_cons (pv 0) pa_nil)))) pe_int))
      (pss_one (ps_ret (pe_callTy call_int1 (by rfl) mi boot_int (pa_cons (pe_op op_mod (pe_op op_add (pe_op op_mul (pe_op op_mod (pe_op op_mul (pv 3) pe_int) pe_int) pe_int) (pv 1)) pe_int) pa_nil))))))), ?_⟩
    refine ⟨_, rfl, Nat.zero_le _, fun p hp => ?_⟩
    have s1 : Same H (upd H p (.lst [])) := same_upd hp
    have hS1 : SqL K (upd H p (.lst [])) a (ns.map V.int) := s1.seq hS
    refine ⟨.list (ns.map PyData.int), .list [], .lst hS1 (dps_ints ns), .lst (SqL.of upd_same) .nil, shaped_list (lay_ints ns) (by rw [dep_ints]; decide), shaped_list (by simp [PyData.canLayAll0]) (by simp [PyData.depthAll]), _, rfl, ?_⟩
    cases ns with
    | nil =>
      have e : PyData.eqv (.list (([] : List Int).map PyData.int)) (.list []) = true := by simp [PyData.eqv, PyData.eqvAll]
      rw [e]
      exact iteT ⟨_, rfl, _, _, rfl, rfl, .inr ⟨by decide, by decide⟩, _, _, rfl, rfl, _, _, rfl, rfl, (by show (0 : Int) < 2147483647; decide), .inl ⟨_, rfl, k _ _ s1⟩⟩
    | cons n0 ns =>
      have e : PyData.eqv (.list ((n0 :: ns).map PyData.int)) (.list []) = false := by simp [PyData.eqv, PyData.eqvAll]
      rw [e]
      have hpos : (0 : Int) < (((n0 :: ns).map V.int).length : Nat) := by simp
      have hj0 : 0 ≤ i % (((n0 :: ns).map V.int).length : Nat) := Int.emod_nonneg _ (by omega)
      have hj1 : i % (((n0 :: ns).map V.int).length : Nat) < (((n0 :: ns).map V.int).length : Nat) := Int.emod_lt_of_pos _ hpos
      obtain ⟨j, ej⟩ : ∃ j : Nat, i % (((n0 :: ns).map V.int).length : Nat) = (j : Int) := ⟨_, (Int.toNat_of_nonneg hj0).symm⟩
      have hjl : j < (n0 :: ns).length := by
        rw [ej, List.length_map] at hj1
        omega
      have hat : atI ((n0 :: ns).map V.int) (i % (((n0 :: ns).map V.int).length : Nat)) = some (.int ((n0 :: ns)[j])) := by
        rw [ej]
        exact atI_nat (by rw [List.getElem?_map, List.getElem?_eq_getElem hjl]; rfl)
      refine iteF ⟨_, rfl, _, rfl, _, rfl, a, _, rfl, .inl hS1, _, _, rfl, rfl, hpos, a, _, _, _, rfl, rfl, hS1, hat, ?_⟩
      refine ⟨_, rfl, _, rfl, _, _, rfl, rfl, ⟨by decide, by decide, by decide⟩, _, _, rfl, rfl, _, rfl, ite2 (fun _ => ?_) (fun _ => ?_)⟩
      · refine ⟨_, rfl, _, _, rfl, rfl, ⟨by decide, by decide, by decide⟩, _, _, rfl, rfl, (by show (0 : Int) < 10 ^ 18; decide), ?_⟩
        refine ⟨_, rfl, _, rfl, _, _, rfl, rfl, .inl ⟨by decide, by decide⟩, _, _, rfl, rfl, _, _, rfl, rfl, .inr ⟨by decide, by decide⟩, _, rfl, a, _, rfl, .inl hS1, _, _, rfl, rfl, .inl ⟨by decide, by decide⟩, _, _, rfl, rfl, _, _, rfl, rfl, (by show (0 : Int) < 2147483647; decide), ?_⟩
        exact ⟨_, rfl, _, _, rfl, rfl, .inr ⟨by decide, by decide⟩, _, _, rfl, rfl, (by show (0 : Int) < 2147483629; decide), _, _, rfl, rfl, .inr ⟨by decide, by decide⟩, _, rfl, _, _, rfl, rfl, _, _, rfl, rfl, (by show (0 : Int) < 2147483587; decide), .inl ⟨_, rfl, k _ _ s1⟩⟩
      · refine ⟨_, rfl, _, rfl, _, _, rfl, rfl, .inl ⟨by decide, by decide⟩, _, _, rfl, rfl, _, _, rfl, rfl, .inr ⟨by decide, by decide⟩, _, rfl, a, _, rfl, .inl hS1, _, _, rfl, rfl, .inl ⟨by decide, by decide⟩, _, _, rfl, rfl, _, _, rfl, rfl, (by show (0 : Int) < 2147483647; decide), ?_⟩
        exact ⟨_, rfl, _, _, rfl, rfl, .inr ⟨by decide, by decide⟩, _, _, rfl, rfl, (by show (0 : Int) < 2147483629; decide), _, _, rfl, rfl, .inr ⟨by decide, by decide⟩, _, rfl, _, _, rfl, rfl, _, _, rfl, rfl, (by show (0 : Int) < 2147483587; decide), .inl ⟨_, rfl, k _ _ s1⟩⟩
/-- draw: the list of the script and how many were drawn -/
def DrawAt (K : PySem.W.Frag) (H : Hp) (a sc : Addr) (ns : List Int) : Prop := (∃ i : Int, H a = some (.lst [.ref sc, .int i])) ∧ SqL K (Off [a] H) sc (ns.map V.int) ∧ ns.length ≤ 63
theorem sql_but {H H' : Hp} {cs : List Addr} {p : Addr} {xs : List V} (h : SqL K H p xs) (s : But cs H H') (n : p ∉ cs) : SqL K H' p xs := by
  rcases h with (h | ⟨o, h⟩) | h
  · exact .inl (.inl (s.at h n))
  · exact .inl (.inr ⟨o, s.at h n⟩)
  · exact .inr h
theorem DrawAt.next {H H' : Hp} {a sc : Addr} {ns : List Int} (D : DrawAt K H a sc ns) (s : But [a] H H') (h : ∃ i : Int, H' a = some (.lst [.ref sc, .int i])) : DrawAt K H' a sc ns :=
  ⟨h, (s.off (fun c z => z)).seq D.2.1, D.2.2⟩
theorem DrawAt.same {H H' : Hp} {a sc : Addr} {ns : List Int} (D : DrawAt K H a sc ns) (s : Same H H') : DrawAt K H' a sc ns :=
  D.next (.of s) (let ⟨i, e⟩ := D.1; ⟨i, s _ _ e⟩)
def spTake (K : PySem.W.Frag) : Sp := fun vs H Q _ => ∃ (a sc : Addr) (ns : List Int) (m : Int), vs = [.ref a, .int m] ∧ DrawAt K H a sc ns ∧ 0 < m ∧ ∀ r H', 0 ≤ r → r < m → But [a] H H' → DrawAt K H' a sc ns → Q (.int r) H'
theorem ok_take {f fN : Addr} {fd fdN : FuncData} (F : Fun K "_law_take" "_law_take" sTake f fd) (GN : FnOk P w K mg base CX0 1 fN fdN ["script", "index"] (spNum K)) (kN : PySem.W.keepIn K (.ref fN) = true) (gN : mg "_law_number" = some (.ref fN))
    (bN : Binds K fdN ["script", "index"] []) (mi : mg "int" = none) : FnOk P w K mg base CX0 2 f fd ["draw", "many"] (spTake K) := by
  refine F.ok scTake (fun vs H Q E h => ?_) (fun cdv A outer s H vs Q E hr h => ?_)
  · obtain ⟨a, sc, ns, m, rfl, _⟩ := h
    rfl
  · obtain ⟨a, sc, ns, m, rfl, D, hm, k⟩ := h
    obtain ⟨⟨i, ha⟩, hS, hlen⟩ := id D
    refine ⟨_, pss_cons (ps_augS (pv 0) pe_int get_list pe_int ip_add set_list)
      (pss_one (ps_ret (pe_op op_mod (pe_callTy call_int1 (by rfl) mi boot_int (pa_cons (pe_call GN hr rfl gN kN bN .nil pass0
        (pa_cons (pe_ix ix_list (pv 0) pe_int (fun _ _ => rfl)) (pa_cons (pe_callTy call_int1 (by rfl) mi boot_int (pa_cons (pe_ix ix_list (pv 0) pe_int (fun _ _ => rfl)) pa_nil)) pa_nil))) pa_nil)) (pv 1)))), ?_⟩
    have sB : ∀ o, But [a] H (upd H a o) := fun o b u z => by
      have hb : b ∉ [a] := fun y => by rw [off_in y] at z; cases z
      rw [off_out hb] at z
      rw [upd_ne (fun y => hb (by rw [y]; simp))]
      exact z
    refine ⟨_, rfl, a, _, 1, .int i, rfl, rfl, SqL.of ha, rfl, i, 1, rfl, rfl, a, _, 1, 1, rfl, rfl, ha, rfl, ?_⟩
    refine ⟨_, rfl, a, _, 0, _, rfl, rfl, SqL.of upd_same, rfl, _, rfl, a, _, 1, _, rfl, rfl, SqL.of upd_same, rfl, .inl ⟨_, rfl, ?_⟩⟩
    refine ⟨sc, ns, i + 1, rfl, (sB _).seq hS, hlen, fun r H' s' => .inl ⟨_, rfl, _, rfl, _, _, rfl, rfl, hm, ?_⟩⟩
    have ha' : H' a = some (.lst [.ref sc, .int (i + 1)]) := s' _ _ upd_same
    have s2 : But [a] H H' := (sB _).trans s'
    exact k _ _ (Int.emod_nonneg _ (by omega)) (Int.emod_lt_of_pos _ hm) s2 (D.next s2 ⟨_, ha'⟩)
def spPick (K : PySem.W.Frag) : Sp := fun vs H Q _ => ∃ (a b sc : Addr) (ns : List Int) (xs : List V), vs = [.ref a, .ref b] ∧ DrawAt K H a sc ns ∧ H b = some (.lst xs) ∧ b ≠ a ∧ xs ≠ [] ∧ ∀ v H', v ∈ xs → But [a] H H' → DrawAt K H' a sc ns → Q v H'
theorem ok_pick {f fT : Addr} {fd fdT : FuncData} (F : Fun K "_law_pick" "_law_pick" sPick f fd) (GT : FnOk P w K mg base CX0 2 fT fdT ["draw", "many"] (spTake K)) (kT : PySem.W.keepIn K (.ref fT) = true) (gT : mg "_law_take" = some (.ref fT))
    (bT : Binds K fdT ["draw", "many"] []) (ml : mg "len" = none) : FnOk P w K mg base CX0 3 f fd ["draw", "items"] (spPick K) := by
  refine F.ok scPick (fun vs H Q E h => ?_) (fun cdv A outer s H vs Q E hr h => ?_)
  · obtain ⟨a, b, sc, ns, xs, rfl, _⟩ := h
    rfl
  · obtain ⟨a, b, sc, ns, xs, rfl, D, hb, hne, hx, k⟩ := h
    refine ⟨_, pss_one (ps_ret (pe_ix ix_list (pv 1) (pe_call GT hr rfl gT kT bT .nil pass0 (pa_cons (pv 0) (pa_cons (pe_callB call_len_seq (by rfl) ml boot_len (pa_cons (pv 1) pa_nil)) pa_nil))) (fun _ _ => rfl))), ?_⟩
    have hpos : 0 < xs.length := List.length_pos_iff.mpr hx
    refine ⟨_, rfl, _, rfl, _, rfl, b, xs, rfl, .inl (SqL.of hb), a, sc, ns, xs.length, rfl, D, by omega, fun r H' h0 h1 s' D' => ?_⟩
    have hb' : H' b = some (.lst xs) := s'.at hb (by simp [hne])
    have hr' : r.toNat < xs.length := by omega
    have er : ((r.toNat : Nat) : Int) = r := by omega
    refine ⟨b, xs, r, xs[r.toNat], rfl, rfl, SqL.of hb', ?_, k _ _ (List.getElem_mem hr') s' D'⟩
    have hat := atI_nat (j := r.toNat) (List.getElem?_eq_getElem hr')
    rw [er] at hat
    exact hat
end
end Pf

set_option Elab.async false
set_option linter.all false
set_option maxRecDepth 100000
set_option maxHeartbeats 4000000
namespace Pf
open PySem PySem.Spec PyProof.Rows L2
/-! ### the data of groups -/
abbrev Ch := Int × List Int
def pD (c : Ch) : PyData := .tuple [.int c.1, .tuple (c.2.map PyData.int)]
def chD (cs : List Ch) : PyData := .tuple (cs.map pD)
def optD : Option (List Ch) → PyData
  | none => .none
  | some cs => chD cs
def rowN (g : Int) (i : Nat) (m : Nat) (c : Ch) : List Int := g :: (i : Int) :: (m : Int) :: c.1 :: c.2
def rowsN (g : Int) (m : Nat) : Nat → List Ch → List (List Int)
  | _, [] => []
  | i, c :: cs => rowN g i m c :: rowsN g m (i + 1) cs
def rowD (ns : List Int) : PyData := .tuple (ns.map PyData.int)
theorem rowsN_get (g : Int) (m : Nat) : ∀ (cs : List Ch) (k i : Nat), (rowsN g m k cs)[i]? = cs[i]?.map (rowN g (k + i) m)
  | [], k, i => by simp [rowsN]
  | c :: cs, k, 0 => by simp [rowsN]
  | c :: cs, k, i + 1 => by
    show (rowsN g m (k + 1) cs)[i]? = cs[i]?.map (rowN g (k + (i + 1)) m)
    rw [rowsN_get g m cs (k + 1) i, show k + 1 + i = k + (i + 1) by omega]
theorem rowsN_len (g : Int) (m : Nat) : ∀ (cs : List Ch) (k : Nat), (rowsN g m k cs).length = cs.length
  | [], _ => rfl
  | c :: cs, k => by
    show (rowsN g m (k + 1) cs).length + 1 = cs.length + 1
    rw [rowsN_len g m cs (k + 1)]
section
variable {K : PySem.W.Frag} {H : Hp}
theorem pD_read {v : V} {c : Ch} (h : Dp K H v (pD c)) : ∃ a e, v = .ref a ∧ SqT K H a [.int c.1, .ref e] ∧ SqT K H e (c.2.map V.int) := by
  cases h with
  | tup hs ha =>
    cases ha with
    | cons h1 ha =>
      cases h1
      cases ha with
      | cons h2 ha =>
        cases ha
        cases h2 with
        | tup hs2 ha2 => exact ⟨_, _, rfl, hs, dps_inv ha2 ▸ hs2⟩
theorem pD_mk {a e : Addr} {c : Ch} (h1 : SqT K H a [.int c.1, .ref e]) (h2 : SqT K H e (c.2.map V.int)) : Dp K H (.ref a) (pD c) :=
  .tup h1 (.cons (.int _) (.cons (.tup h2 (dps_ints _)) .nil))
theorem ints_mk {a : Addr} {ns : List Int} (h : SqT K H a (ns.map V.int)) : Dp K H (.ref a) (.tuple (ns.map PyData.int)) := .tup h (dps_ints _)
end
theorem tup_off {K : PySem.W.Frag} {H : Hp} {p : Addr} {xs : List V} {cs : List Addr} (h : SqT K H p xs) (n : p ∉ cs) : SqT K (Off cs H) p xs := by
  rcases h with (h | ⟨o, h⟩) | h
  · exact .inl (.inl (by rw [off_out n]; exact h))
  · exact .inl (.inr ⟨o, by rw [off_out n]; exact h⟩)
  · exact .inr h
theorem eqv_int (a b : Int) : PyData.eqv (.int a) (.int b) = decide (a = b) := by
  simp [PyData.eqv]
  rfl
theorem eqvAll_ints : ∀ ns ms : List Int, PyData.eqvAll (ns.map PyData.int) (ms.map PyData.int) = decide (ns = ms)
  | [], [] => by simp [PyData.eqvAll]
  | [], m :: ms => by simp [PyData.eqvAll]
  | n :: ns, [] => by simp [PyData.eqvAll]
  | n :: ns, m :: ms => by
    simp only [List.map_cons, PyData.eqvAll, eqvAll_ints ns ms, eqv_int]
    by_cases h : n = m <;> by_cases h2 : ns = ms <;> simp [h, h2]
theorem eqv_ints (ns ms : List Int) : PyData.eqv (.tuple (ns.map PyData.int)) (.tuple (ms.map PyData.int)) = decide (ns = ms) := by
  rw [← eqvAll_ints]
  simp [PyData.eqv]
theorem shaped_ints (ns : List Int) : SeqAt.shaped (.tuple (ns.map PyData.int)) = true := shaped_tup (lay_ints ns) (by rw [dep_ints]; decide)
/-! ### the meaning: whole groups and rows of them -/
def grp (ds : List PyData) (S t : Nat) (g m : Int) : Nat → Option (List Ch)
  | 0 => some []
  | n + 1 => (grp ds S t g m n).bind fun cs => (asLog (ds.getD ((t + n) % S) .none)).bind fun l => if l.g = g ∧ l.a = (n : Int) ∧ l.m = m then some (cs ++ [(l.h, l.cs)]) else none
def wg (ds : List PyData) (S t : Nat) (g : Int) : Option (List Ch) :=
  (asLog (ds.getD (t % S) .none)).bind fun l => if (S : Int) < l.m then none else grp ds S t g l.m l.m.toNat
theorem grp_none {ds : List PyData} {S t : Nat} {g m : Int} {i : Nat} (h : grp ds S t g m i = none) : ∀ n, i ≤ n → grp ds S t g m n = none
  | 0, hn => by
    have : i = 0 := by omega
    subst this
    exact h
  | n + 1, hn => by
    by_cases e : i = n + 1
    · rw [← e]; exact h
    · show (grp ds S t g m n).bind _ = none
      rw [grp_none h n (by omega)]
      rfl
theorem grp_len {ds : List PyData} {S t : Nat} {g m : Int} : ∀ {n : Nat} {cs : List Ch}, grp ds S t g m n = some cs → cs.length = n
  | 0, cs, h => by cases h; rfl
  | n + 1, cs, h => by
    have h' : (grp ds S t g m n).bind _ = some cs := h
    cases e : grp ds S t g m n with
    | none => rw [e] at h'; cases h'
    | some cs0 =>
      rw [e] at h'
      cases e2 : asLog (ds.getD ((t + n) % S) .none) with
      | none => rw [e2] at h'; cases h'
      | some l =>
        rw [e2] at h'
        have h3 : (if l.g = g ∧ l.a = (n : Int) ∧ l.m = m then some (cs0 ++ [(l.h, l.cs)]) else none) = some cs := h'
        by_cases c : l.g = g ∧ l.a = (n : Int) ∧ l.m = m
        · rw [if_pos c] at h3
          cases h3
          rw [List.length_append, grp_len e]
          rfl
        · rw [if_neg c] at h3
          cases h3

theorem scRows : FnScope ["group", "changes", "many", "at", "home", "cells"] ["group", "changes"] (defScope sRows) := ⟨rfl, rfl, rfl, by decide +kernel, rfl, by decide +kernel, by decide +kernel⟩
theorem scWg : FnScope ["disk", "slots", "slot", "group", "first", "many", "changes", "at", "value"] ["disk", "slots", "slot", "group"] (defScope sWg) := ⟨rfl, rfl, rfl, by decide +kernel, rfl, by decide +kernel, by decide +kernel⟩
section
variable {P : Program} {w : World} {K : PySem.W.Frag} {mg : Str → Option Value} {base : Heap} {C : Addr}
/-! ### log_rows -/
def spRows (K : PySem.W.Frag) : Sp := fun vs H Q _ => ∃ (g : Int) (v : V) (cs : List Ch), vs = [.int g, v] ∧ Dp K H v (chD cs) ∧ (∀ c ∈ cs, c.2.length = 8) ∧ cs.length ≤ 1000 ∧
  ∀ H' p us, Same H H' → H p = none → H' p = some (.lst us) → DpAll K (Off [p] H') us ((rowsN g cs.length 0 cs).map rowD) → Q (.ref p) H'
theorem ok_rows {f : Addr} {fd : FuncData} (F : Fun K "log_rows" "log_rows" sRows f fd) (ml : mg "len" = none) (me : mg "enumerate" = none) : FnOk P w K mg base CX0 1 f fd ["group", "changes"] (spRows K) := by
  refine F.ok scRows (fun vs H Q E h => ?_) (fun cdv A outer s H vs Q E hr h => ?_)
  · obtain ⟨g, v, cs, rfl, _⟩ := h
    rfl
  · obtain ⟨g, v, cs, rfl, hd, h8, hz, k⟩ := h
    refine ⟨_, pss_cons (ps_set (i := 2) scRows.nd rfl (.inr rfl) (pe_callB call_len_seq (by rfl) ml boot_len (pa_cons (pv 1) pa_nil)))
      (pss_one (ps_ret (pe_lc (own := [("at", 3), ("home", 4), ("cells", 5)]) (g := gTup K 2 (gCons (gName 3) (gCons (gTup K 2 (gCons (gName 4) (gCons (gName 5) gNil))) gNil))) (tt := tYes)
        (te := tOp (rCatA K) (tTup (tCons (tVar 0) (tCons (tVar 3) (tCons (tVar 2) (tCons (tVar 4) tNil))))) (tVar 5)) rfl scRows.nd (pi_enumT (by rfl) me (pa_cons (pv 1) pa_nil)) (blkOk_by (N := ["group", "changes", "many", "at", "home", "cells"]) (sc := defScope sRows) (by decide +kernel))
        (fun _ _ _ _ _ => pg_tup rfl (pgs_cons (pg_name (i := 3) scRows.nd rfl (.inl rfl)) (pgs_cons (pg_tup rfl (pgs_cons (pg_name (i := 4) scRows.nd rfl (.inl rfl)) (pgs_cons (pg_name (i := 5) scRows.nd rfl (.inl rfl)) pgs_nil))) pgs_nil))) (fun _ _ _ _ _ => pts_nil)
        (fun _ _ _ _ _ => pe_op op_catA (pe_tup (pa_cons (pv 0) (pa_cons (pv 3) (pa_cons (pv 2) (pa_cons (pv 4) pa_nil))))) (pv 5))))), ?_⟩
    have hd' : Dp K H v (.tuple (cs.map pD)) := hd
    cases hd' with
    | @tup a xs _ hs ha =>
      have hl : xs.length = cs.length := by rw [dps_len ha, List.length_map]
      refine ⟨_, rfl, a, xs, rfl, .inr hs, ?_⟩
      refine ⟨_, rfl, a, xs, rfl, hs, fun D hD => lc_it (walk_enumT (K := K) (a := a) (xs := xs)) (fun i H' => ∃ us, Same H H' ∧ H' D = some (.lst us) ∧ DpAll K (Off [D] H') us (((rowsN g cs.length 0 cs).take i).map rowD))
        ⟨[], same_upd hD, upd_same, .nil⟩ (fun i H' _ z => same_seqT z.choose_spec.1 hs) ?_ ?_⟩
      · rintro i x H1 H2 hi ⟨us, s1, e1, dU⟩ ⟨T, x0, x1, rfl, nT, rfl, e0, ex⟩
        cases (Option.some.inj e0)
        obtain ⟨d', hd', hp⟩ := dps_get ha ex
        rw [List.getElem?_map] at hd'
        have hil : i < cs.length := by omega
        rw [List.getElem?_eq_getElem hil] at hd'
        have ed : pD cs[i] = d' := Option.some.inj hd'
        subst ed
        obtain ⟨a1, c1, rfl, q1, q2⟩ := pD_read hp
        have s12 : Same H1 (upd H1 T (.tup [.int (i : Nat), .ref a1])) := same_upd nT
        have s02 : Same H (upd H1 T (.tup [.int (i : Nat), .ref a1])) := s1.trans s12
        have c8 : cs[i].2.length = 8 := h8 _ (List.getElem_mem hil)
        refine ⟨T, _, rfl, SqT.of upd_same, rfl, _, _, rfl, _, _, rfl, ⟨a1, _, rfl, same_seqT s02 q1, rfl, _, _, rfl, _, _, rfl, rfl, rfl, rfl, tyes_go ?_⟩⟩
        refine ⟨_, rfl, _, rfl, _, rfl, _, rfl, (by show 4 ≤ sizeLine; decide), fun u hu => ?_⟩
        have s3 := same_upd (o := .tup [.int g, .int (i : Nat), .int (xs.length : Nat), .int cs[i].1]) hu
        refine ⟨_, rfl, u, c1, _, _, rfl, rfl, SqT.of upd_same, same_seqT s3 (same_seqT s02 q2), ?_, fun z => absurd z (by simp), fun _ z => ?_, fun _ _ c hc => ?_⟩
        · rw [List.length_map, c8]
          show 4 + 8 ≤ sizeLine
          decide
        · rw [List.map_eq_nil_iff] at z
          rw [z] at c8
          cases c8
        · have s4 := same_upd (o := .tup ([V.int g, .int (i : Nat), .int (xs.length : Nat), .int cs[i].1] ++ cs[i].2.map V.int)) hc
          have s14 := (s12.trans s3).trans s4
          have hcD : c ≠ D := fun z => by
            rw [z, s3 _ _ (s12 _ _ e1)] at hc
            cases hc
          have hul : us.length ≤ 1000 := by
            rw [dps_len dU, List.length_map, List.length_take]
            omega
          refine ⟨us, s14 _ _ e1, small1000 hul, us ++ [.ref c], fun b o z => ?_, upd_same, ?_⟩
          · rw [upd_ne (ne_of_none z hD)]
            exact s14 _ _ (s1 _ _ z)
          · rw [off_upd (by simp), List.take_add_one, rowsN_get, List.getElem?_eq_getElem hil, List.map_append]
            refine dps_app (dps_same (off_same s14) _ _ dU) (.cons ?_ .nil)
            refine ints_mk (ns := rowN g (0 + i) cs.length cs[i]) (SqT.of ?_)
            rw [off_out (by simp [hcD]), upd_same]
            have e0i : 0 + i = i := by omega
            rw [e0i, hl]
            rfl
      · rintro H' ⟨us, s1, e1, dU⟩
        have et : (rowsN g cs.length 0 cs).take xs.length = rowsN g cs.length 0 cs := List.take_of_length_le (by rw [rowsN_len, hl]; exact Nat.le_refl _)
        rw [et] at dU
        exact k _ D us s1 hD e1 dU
/-! ### whole_group -/
/-- the ring's S plates read as ds -/
def RingAt (K : PySem.W.Frag) (C : Addr) (H : Hp) (d : Addr) (S : Nat) (ds : List PyData) : Prop :=
  ∃ n sv lv, DiskAt C H d n sv lv ∧ 2 + (S : Int) ≤ n ∧ ∀ j : Nat, j < S → Dp K H (nowV sv lv (2 + (j : Int))) (ds.getD j .none)
theorem RingAt.same {H H' : Hp} {d : Addr} {S : Nat} {ds : List PyData} (h : RingAt K C H d S ds) (s : Same H H') : RingAt K C H' d S ds := by
  obtain ⟨n, sv, lv, h1, h2, h3⟩ := h
  exact ⟨n, sv, lv, h1.same s, h2, fun j hj => dp_same s _ _ (h3 j hj)⟩
def spWg (K : PySem.W.Frag) (C : Addr) : Sp := fun vs H Q _ => ∃ (d : Addr) (S t : Nat) (g : Int) (ds : List PyData), vs = [.ref d, .int S, .int t, .int g] ∧ RingAt K C H d S ds ∧ 0 < S ∧ S ≤ 1000 ∧
  ∀ v H', Same H H' → Dp K (New H H') v (optD (wg ds S t g)) → Q v H'
/-- what whole_group asks of the text -/
structure WTxt (P : Program) (w : World) (K : PySem.W.Frag) (mg : Str → Option Value) (base : Heap) (C fN fS fL : Addr) (fdN fdS fdL : FuncData) (tl : Tok) : Prop where
  T : DTxt K C
  GN : FnOk P w K mg base CX0 3 fN fdN ["self", "plate"] (spNow C)
  mN : Meth K C "now" fN
  bN : Binds K fdN ["self", "plate"] []
  GS : FnOk P w K mg base CX0 1 fS fdS ["slots", "slot"] spSlot
  kS : PySem.W.keepIn K (.ref fS) = true
  gS : mg "slot_plate" = some (.ref fS)
  bS : Binds K fdS ["slots", "slot"] []
  GL : FnOk P w K mg base CX0 3 fL fdL ["value"] (spIsLog K)
  kL : PySem.W.keepIn K (.ref fL) = true
  gL : mg "is_log_plate" = some (.ref fL)
  bL : Binds K fdL ["value"] []
  mR : mg "range" = none
  mT : mg "tuple" = none
  mL : mg "LOG_NUMBERS" = some (.int 4 tl)
theorem ok_wg {f fN fS fL : Addr} {fd fdN fdS fdL : FuncData} {tl : Tok} (F : Fun K "whole_group" "whole_group" sWg f fd) (W : WTxt P w K mg base C fN fS fL fdN fdS fdL tl) : FnOk P w K mg base CX0 4 f fd ["disk", "slots", "slot", "group"] (spWg K C) := by
  refine F.ok scWg (fun vs H Q E h => ?_) (fun cdv A outer s H vs Q E hr h => ?_)
  · obtain ⟨d, S, t, g, ds, rfl, _⟩ := h
    rfl
  · obtain ⟨d, S, t, g, ds, rfl, R, hS, hS2, k⟩ := h
    have hr1 : Room 1 _ := hr.mono (by decide)
    refine ⟨_, pss_cons (ps_set (i := 4) scWg.nd rfl (.inl rfl) (pe_meth (pv 0) W.T.cl W.mN W.GN hr W.bN .nil pass0 (pa_cons (pe_call W.GS hr1 rfl W.gS W.kS W.bS .nil pass0 (pa_cons (pv 1) (pa_cons (pv 2) pa_nil))) pa_nil)))
      (pss_cons (ps_if (pt_not (pt_val (pe_call W.GL hr rfl W.gL W.kL W.bL .nil pass0 (pa_cons (pv 4) pa_nil)))) (pss_one (ps_ret pe_non)) pss_nil)
      (pss_cons (ps_set (i := 5) scWg.nd rfl (.inl rfl) (pe_ix ix_tup (pv 4) pe_int (fun _ _ => rfl)))
      (pss_cons (ps_if (pt_cmpR op_gt (pv 5) (pv 1) (nomark _)) (pss_one (ps_ret pe_non)) pss_nil)
      (pss_cons (ps_set (i := 6) scWg.nd rfl (.inl rfl) (pe_lst pa_nil))
      (pss_cons (ps_for PassesOwn.never rfl (pi_range1 (by rfl) W.mR (pa_cons (pv 5) pa_nil)) (pg_name (i := 7) scWg.nd rfl (.inl rfl))
        (pss_cons (ps_set (i := 8) scWg.nd rfl (.inl rfl) (pe_meth (pv 0) W.T.cl W.mN W.GN hr W.bN .nil pass0 (pa_cons (pe_call W.GS hr1 rfl W.gS W.kS W.bS .nil pass0 (pa_cons (pv 1) (pa_cons (pe_op op_add (pv 2) (pv 7)) pa_nil))) pa_nil)))
        (pss_cons (ps_if (PW.pt (pw_or (pt_not (pt_val (pe_call W.GL hr rfl W.gL W.kL W.bL .nil pass0 (pa_cons (pv 8) pa_nil)))) (pw_or1 (pt_cmpR (op_neD hr.units) (pe_slice sl_tupA (pv 8) po_none (po_some pe_int)) (pe_tup (pa_cons (pv 3) (pa_cons (pv 7) (pa_cons (pv 5) pa_nil)))) (nomark _))))) (pss_one (ps_ret pe_non)) pss_nil)
        (pss_one (ps_expr (pe_bm PySem.F.plainAttrs_list PySem.F.slot_list_append PySem.F.type_list_append mt_append (pv 6) (pa_cons (pe_tup (pa_cons (pe_ix ix_tup (pv 8) pe_int (fun _ _ => rfl)) (pa_cons (pe_slice sl_tupA (pv 8) (po_some (pe_glob (v := .int 4) rfl W.mL ⟨_, rfl⟩)) po_none) pa_nil))) pa_nil)))))))
      (pss_one (ps_ret (pe_callTy call_tuple_of (by rfl) W.mT boot_tuple (pa_cons (pv 6) pa_nil))))))))), ?_⟩
    obtain ⟨n, sv, lv, D, hn, hring⟩ := id R
    obtain ⟨dx, pa, pb, ts, e1, e2, e3, e4, e5, e6⟩ := id D
    have hSi : (0 : Int) < (S : Int) := by omega
    have nows : ∀ (u : Nat), 0 ≤ 2 + (u : Int) % (S : Int) ∧ 2 + (u : Int) % (S : Int) < n ∧ Dp K H (nowV sv lv (2 + (u : Int) % (S : Int))) (ds.getD (u % S) .none) := fun u => by
      have h1 : (u : Int) % (S : Int) = ((u % S : Nat) : Int) := by norm_cast
      have h2 : u % S < S := Nat.mod_lt _ hS
      rw [h1]
      exact ⟨by omega, by omega, hring _ h2⟩
    obtain ⟨n0, n1, hp0⟩ := nows t
    refine ⟨_, rfl, d, dx, _, rfl, e1, fl_no _ _ _ (by decide +kernel) (by decide +kernel) (by decide +kernel), _, rfl, _, rfl, (S : Int), (t : Int), rfl, hSi, d, n, _, sv, lv, rfl, D, n0, n1, ?_⟩
    generalize hv0 : nowV sv lv (2 + (t : Int) % (S : Int)) = v0 at hp0
    refine ⟨_, rfl, v0, _, rfl, hp0, fun H1 s1 => ⟨_, rfl, ?_⟩⟩
    cases e : asLog (ds.getD (t % S) .none) with
    | none =>
      have ew : wg ds S t g = none := by
        unfold wg
        rw [e]
        rfl
      refine iteT (k .non _ s1 ?_)
      rw [ew]
      exact .non
    | some l =>
      obtain ⟨_, l8, lg, la, lm, lh⟩ := asLog_some e
      obtain ⟨a0, rfl, hT0⟩ := log_read hp0 e
      refine iteF ⟨_, rfl, a0, _, 2, .int l.m, rfl, rfl, same_seqT s1 hT0, atI_nat (j := 2) rfl, ?_⟩
      refine ⟨_, rfl, _, rfl, l.m, (S : Int), rfl, rfl, _, rfl, ite2 (fun hc => ?_) (fun hc => ?_)⟩
      · have hc' : (S : Int) < l.m := of_decide_eq_true hc
        have ew : wg ds S t g = none := by
          unfold wg
          rw [e]
          show (if (S : Int) < l.m then none else _) = none
          rw [if_pos hc']
        refine k .non _ s1 ?_
        rw [ew]
        exact .non
      · have hc' : ¬ (S : Int) < l.m := fun z => hc (decide_eq_true z)
        have ew : wg ds S t g = grp ds S t g l.m l.m.toNat := by
          unfold wg
          rw [e]
          show (if (S : Int) < l.m then none else _) = _
          rw [if_neg hc']
        refine ⟨Nat.zero_le _, fun c hcn => ?_⟩
        have hc0 : H c = none := s1.free hcn
        refine ⟨_, rfl, l.m, rfl, by omega, by omega, for_range (lo := 0) (n := l.m.toNat) (fun i σ H' => ∃ cs y7 y8 us, σ = [some (.ref d), some (.int S), some (.int t), some (.int g), some (.ref a0), some (.int l.m), some (.ref c), y7, y8] ∧
          grp ds S t g l.m i = some cs ∧ Same H H' ∧ H' c = some (.lst us) ∧ DpAll K (Off [c] (New H H')) us (cs.map pD)) ⟨[], none, none, [], rfl, rfl, s1.trans (same_upd hcn), upd_same, .nil⟩ ?_ ?_⟩
        · rintro i σ H' hi ⟨cs, y7, y8, us, rfl, eg, s2, ec, dU⟩
          obtain ⟨m0, m1, hp1⟩ := nows (t + i)
          have et : ((t : Int) + (0 + (i : Int))) = ((t + i : Nat) : Int) := by omega
          refine ⟨_, rfl, d, dx, _, rfl, s2 _ _ e1, fl_no _ _ _ (by decide +kernel) (by decide +kernel) (by decide +kernel), _, rfl, _, rfl, _, rfl, _, _, rfl, rfl, (S : Int), ((t + i : Nat) : Int), by rw [← et]; rfl, hSi, d, n, _, sv, lv, rfl, D.same s2, m0, m1, ?_⟩
          generalize hv1 : nowV sv lv (2 + ((t + i : Nat) : Int) % (S : Int)) = v1 at hp1
          refine ⟨_, rfl, v1, _, rfl, dp_same s2 _ _ hp1, fun H3 s3 => ⟨_, rfl, ?_⟩⟩
          have s23 : Same H H3 := s2.trans s3
          -- a turn that fails
          have bad : grp ds S t g l.m (i + 1) = none → ∀ H', Same H H' → Q .non H' := fun z H' s' => by
            refine k .non _ s' ?_
            rw [ew, grp_none z l.m.toNat (by omega)]
            exact .non
          cases ee : asLog (ds.getD ((t + i) % S) .none) with
          | none =>
            refine iteT (iteT (bad ?_ _ s23))
            show (grp ds S t g l.m i).bind _ = none
            rw [eg]
            show (asLog (ds.getD ((t + i) % S) .none)).bind _ = none
            rw [ee]
            rfl
          | some l1 =>
            obtain ⟨_, k8, kg, ka, km, kh⟩ := asLog_some ee
            obtain ⟨a1, rfl, hT1⟩ := log_read hp1 ee
            have step : grp ds S t g l.m (i + 1) = if l1.g = g ∧ l1.a = (i : Int) ∧ l1.m = l.m then some (cs ++ [(l1.h, l1.cs)]) else none := by
              show (grp ds S t g l.m i).bind _ = _
              rw [eg]
              show (asLog (ds.getD ((t + i) % S) .none)).bind _ = _
              rw [ee]
              rfl
            refine iteF ⟨_, rfl, 3, rfl, ?_⟩
            dsimp only [tNoPart]
            refine slA_use (K := K) (a := a1) (lo := none) (hi := some 3) (same_seqT s23 hT1) fun p H4 s4 h4 => ?_
            have e3' : cutV (l1.all.map V.int) none (some (3 : Int)) = [l1.g, l1.a, l1.m].map V.int := cut_to _ 3
            rw [e3'] at h4
            refine ⟨_, rfl, _, rfl, _, rfl, (by show 3 ≤ sizeLine; decide), fun q hq => ?_⟩
            have s5 := same_upd (o := .tup [.int g, .int (0 + (i : Int)), .int l.m]) hq
            refine ⟨_, _, ints_mk (ns := [l1.g, l1.a, l1.m]) (same_seqT s5 h4), ints_mk (ns := [g, 0 + (i : Int), l.m]) (SqT.of upd_same), shaped_ints _, shaped_ints _, _, rfl, ?_⟩
            rw [eqv_ints]
            have s05 := (s23.trans s4).trans s5
            by_cases hcc : l1.g = g ∧ l1.a = (i : Int) ∧ l1.m = l.m
            · have ed : ([l1.g, l1.a, l1.m] = [g, 0 + (i : Int), l.m]) := by rw [hcc.1, hcc.2.1, hcc.2.2, Int.zero_add]
              rw [decide_eq_true ed]
              have ec5 : (upd H4 q (.tup [.int g, .int (0 + (i : Int)), .int l.m])) c = some (.lst us) := s5 _ _ (s4 _ _ (s3 _ _ ec))
              refine iteF ⟨_, rfl, .inl ⟨rfl, _, SqL.of ec5⟩, _, rfl, a1, _, 3, .int l1.h, rfl, rfl, same_seqT s05 hT1, atI_nat (j := 3) rfl, _, rfl, 4, rfl, ?_⟩
              dsimp only [tNoPart]
              have e4' : cutV (l1.all.map V.int) (some (4 : Int)) none = l1.cs.map V.int := cut_from _ 4
              refine slA_new (K := K) (a := a1) (lo := some 4) (hi := none) (same_seqT s05 hT1) (by rw [e4', List.length_map, List.length_map]; show l1.cs.length ≠ l1.cs.length + 1 + 1 + 1 + 1; omega) fun p2 hp2 => ?_
              have s6 := same_upd (o := .tup (cutV (l1.all.map V.int) (some (4 : Int)) none)) hp2
              have np2c : p2 ≠ c := fun z => by
                rw [z, ec5] at hp2
                cases hp2
              refine ⟨(by show 2 ≤ sizeLine; decide), fun u hu => ?_⟩
              have s7 := same_upd (o := .tup [.int l1.h, .ref p2]) hu
              have s37 := ((s3.trans s4).trans s5).trans (s6.trans s7)
              have ec7 := s37 _ _ ec
              have nuc : u ≠ c := fun z => by
                rw [z, s6 _ _ ec5] at hu
                cases hu
              have hul : us.length = i := by
                rw [dps_len dU, List.length_map, grp_len eg]
              refine ⟨c, us, .ref u, rfl, rfl, ec7, small1000 (by omega), cs ++ [(l1.h, l1.cs)], _, _, us ++ [.ref u], rfl, ?_, fun b o z => ?_, upd_same, ?_⟩
              · rw [step, if_pos hcc]
              · rw [upd_ne (ne_of_none z hc0)]
                exact s37 _ _ (s2 _ _ z)
              · rw [new_upd (by simp), List.map_append]
                refine dps_app (dps_same (off_same (new_same s37)) _ _ dU) (.cons ?_ .nil)
                have hu0 : H u = none := (s05.trans s6).free hu
                have hp20 : H p2 = none := s05.free hp2
                refine pD_mk (c := (l1.h, l1.cs)) (e := p2) (SqT.of ?_) ?_
                · rw [off_out (by simp [nuc]), new_at hu0, upd_same]
                · refine SqT.of ?_
                  rw [off_out (by simp [np2c]), new_at hp20]
                  refine s7 _ _ ?_
                  rw [upd_same, e4']
            · have ed : ¬ ([l1.g, l1.a, l1.m] = [g, 0 + (i : Int), l.m]) := fun z => hcc (by
                simp only [List.cons.injEq, Int.zero_add, and_true] at z
                exact z)
              rw [decide_eq_false ed]
              refine iteT (bad ?_ _ s05)
              rw [step, if_neg hcc]
        · rintro σ H' ⟨cs, y7, y8, us, rfl, eg, s2, ec, dU⟩
          refine ⟨_, rfl, c, us, rfl, .inl ⟨SqL.of ec, fun q hq => k _ _ (s2.trans (same_upd hq)) ?_⟩⟩
          rw [ew, eg]
          exact .tup (SqT.of (by rw [new_at (s2.free hq), upd_same])) (dps_same ((off_le).trans (new_same (same_upd hq))) _ _ dU)
end
end Pf

set_option Elab.async false
set_option linter.all false
set_option maxRecDepth 100000
set_option maxHeartbeats 4000000
namespace Pf
open PySem PySem.Spec PyProof.Rows L2
/-! ### rows of groups -/
abbrev Gr := Int × Nat × List Ch
def gD (z : Gr) : PyData := .tuple [.int z.1, .int (z.2.1 : Int), chD z.2.2]
def slotsN (zs : List Gr) : Nat := (zs.map fun z => z.2.2.length).sum
def rgs (ds : List PyData) (S : Nat) : Nat → Nat → Nat → Int → List Gr
  | 0, _, _, _ => []
  | k + 1, used, t, g => match wg ds S t g with
    | none => []
    | some cs => if used + cs.length ≤ S then (g, t, cs) :: rgs ds S k (used + cs.length) (t + cs.length) (g + 1) else []
theorem wg_len {ds : List PyData} {S t : Nat} {g : Int} {cs : List Ch} (h : wg ds S t g = some cs) : 0 < cs.length ∧ cs.length ≤ S := by
  unfold wg at h
  cases e : asLog (ds.getD (t % S) .none) with
  | none => rw [e] at h; cases h
  | some l =>
    rw [e] at h
    have h' : (if (S : Int) < l.m then none else grp ds S t g l.m l.m.toNat) = some cs := h
    by_cases c : (S : Int) < l.m
    · rw [if_pos c] at h'; cases h'
    · rw [if_neg c] at h'
      obtain ⟨_, _, _, h1, h2, _⟩ := asLog_some e
      rw [grp_len h']
      omega
theorem slotsN_app (xs ys : List Gr) : slotsN (xs ++ ys) = slotsN xs + slotsN ys := by
  unfold slotsN
  rw [List.map_append, List.sum_append]
theorem gD_read {K : PySem.W.Frag} {H : Hp} {v : V} {z : Gr} (h : Dp K H v (gD z)) : ∃ a x, v = .ref a ∧ SqT K H a [.int z.1, .int (z.2.1 : Int), x] ∧ Dp K H x (chD z.2.2) := by
  cases h with
  | tup hs ha =>
    cases ha with
    | cons h1 ha =>
      cases h1
      cases ha with
      | cons h2 ha =>
        cases h2
        cases ha with
        | cons h3 ha =>
          cases ha
          exact ⟨_, _, rfl, hs, h3⟩
theorem ch_read {K : PySem.W.Frag} {H : Hp} {v : V} {cs : List Ch} (h : Dp K H v (chD cs)) : ∃ a xs, v = .ref a ∧ SqT K H a xs ∧ xs.length = cs.length ∧ DpAll K H xs (cs.map pD) := by
  have h' : Dp K H v (.tuple (cs.map pD)) := h
  cases h' with
  | tup hs ha => exact ⟨_, _, rfl, hs, by rw [dps_len ha, List.length_map], ha⟩
theorem optD_non {K : PySem.W.Frag} {H : Hp} {v : V} {o : Option (List Ch)} (h : Dp K H v (optD o)) : (v = .non) = (o = none) := by
  cases o with
  | none =>
    cases h
    simp
  | some cs =>
    obtain ⟨a, xs, rfl, _⟩ := ch_read h
    simp
theorem scSlotsOf : FnScope ["groups", "number", "slot", "changes"] ["groups"] (defScope sSlotsOf) := ⟨rfl, rfl, rfl, by decide +kernel, rfl, by decide +kernel, by decide +kernel⟩
theorem scRg : FnScope ["disk", "slots", "head", "group", "slot", "groups", "changes"] ["disk", "slots", "head"] (defScope sRg) := ⟨rfl, rfl, rfl, by decide +kernel, rfl, by decide +kernel, by decide +kernel⟩
theorem scLast : FnScope ["disk", "slots", "greatest", "slot", "value"] ["disk", "slots"] (defScope sLast) := ⟨rfl, rfl, rfl, by decide +kernel, rfl, by decide +kernel, by decide +kernel⟩
section
variable {P : Program} {w : World} {K : PySem.W.Frag} {mg : Str → Option Value} {base : Heap} {C : Addr}
def rLenS (K : PySem.W.Frag) : List V → Hp → VK → Prop := fun xs H Q => ∃ p ys, xs = [.ref p] ∧ (SqL K H p ys ∨ SqT K H p ys) ∧ Q (.int (ys.length : Nat)) H
def spSlotsOf (K : PySem.W.Frag) : Sp := fun vs H Q _ => ∃ (a : Addr) (xs : List V) (zs : List Gr), vs = [.ref a] ∧ SqL K H a xs ∧ DpAll K H xs (zs.map gD) ∧ zs.length ≤ 1000 ∧ ∀ H', Same H H' → Q (.int (slotsN zs : Nat)) H'
theorem ok_slotsOf {f : Addr} {fd : FuncData} (F : Fun K "slots_of" "slots_of" sSlotsOf f fd) (ml : mg "len" = none) (ms : mg "sum" = none) : FnOk P w K mg base CX0 1 f fd ["groups"] (spSlotsOf K) := by
  refine F.ok scSlotsOf (fun vs H Q E h => ?_) (fun cdv A outer s H vs Q E hr h => ?_)
  · obtain ⟨a, xs, zs, rfl, _⟩ := h
    rfl
  · obtain ⟨a, xs, zs, rfl, hs, ha, hz, k⟩ := h
    have hl : xs.length = zs.length := by rw [dps_len ha, List.length_map]
    refine ⟨_, pss_one (ps_ret (pe_callB (cr_sum rfl) (by rfl) ms (by decide +kernel) (pa_cons
        (pe_lc (own := [("number", 1), ("slot", 2), ("changes", 3)]) (g := gTup K 3 (gCons (gName 1) (gCons (gName 2) (gCons (gName 3) gNil)))) (tt := tYes) (te := tCB (rLenS K) (tCons (tVar 3) tNil)) rfl scSlotsOf.nd (pi_list (pv 0))
          (blkOk_by (N := ["groups", "number", "slot", "changes"]) (sc := defScope sSlotsOf) (by decide +kernel))
          (fun _ _ _ _ _ => pg_tup rfl (pgs_cons (pg_name (i := 1) scSlotsOf.nd rfl (.inl rfl)) (pgs_cons (pg_name (i := 2) scSlotsOf.nd rfl (.inl rfl)) (pgs_cons (pg_name (i := 3) scSlotsOf.nd rfl (.inl rfl)) pgs_nil)))) (fun _ _ _ _ _ => pts_nil)
          (fun _ _ _ _ _ => pe_callB call_len_seq (by rfl) ml boot_len (pa_cons (pv 3) pa_nil))) pa_nil))), ?_⟩
    refine ⟨_, rfl, a, rfl, ⟨_, hs⟩, fun D hD => lc_list (K := K) (a := a) (xs := xs) (fun i H' => Same H H' ∧ H' D = some (.lst ((zs.take i).map fun z => V.int (z.2.2.length : Nat)))) ⟨same_upd hD, upd_same⟩ (fun i H' _ p => p.1.seq hs) ?_ ?_⟩
    · rintro i x H' hi ⟨s1, e1⟩
      obtain ⟨d', hd', hp⟩ := dps_get ha hi
      rw [List.getElem?_map] at hd'
      have hil : i < zs.length := by
        have := (List.getElem?_eq_some_iff.mp hi).1
        omega
      rw [List.getElem?_eq_getElem hil] at hd'
      cases (Option.some.inj hd')
      obtain ⟨a1, x3, rfl, q1, q2⟩ := gD_read hp
      obtain ⟨a2, ys, rfl, q3, q4, _⟩ := ch_read q2
      refine ⟨a1, _, rfl, same_seqT s1 q1, rfl, _, _, rfl, _, _, rfl, _, _, rfl, rfl, rfl, tyes_go ?_⟩
      refine ⟨_, rfl, a2, ys, rfl, .inr (same_seqT s1 q3), _, e1, ?_, ?_, ?_⟩
      · rw [List.length_map, List.length_take]
        exact small1000 (by omega)
      · exact fun b o e => by
          rw [upd_ne (ne_of_none e hD)]
          exact s1 _ _ e
      · rw [upd_same, List.take_add_one, List.getElem?_eq_getElem hil, List.map_append, q4]
        rfl
    · rintro H' ⟨s1, e1⟩
      rw [hl, List.take_length] at e1
      refine ⟨D, zs.map fun z => ((z.2.2.length : Nat) : Int), rfl, SqL.of (by rw [e1, List.map_map]; rfl), ?_⟩
      have e : (zs.map fun z => ((z.2.2.length : Nat) : Int)).sum = ((slotsN zs : Nat) : Int) := by
        unfold slotsN
        clear k ha hl e1 hz
        induction zs with
        | nil => rfl
        | cons z zs ih =>
          rw [List.map_cons, List.sum_cons, ih, List.map_cons, List.sum_cons]
          omega
      rw [e]
      exact k _ s1
/-! ### read_groups -/
def rgW (K : PySem.W.Frag) (H : Hp) (d hd c : Addr) (S : Nat) (ds : List PyData) (full : List Gr) (m : Nat) (σ : L2.St) (H' : Hp) : Prop :=
  ∃ acc used t g us v, σ = [some (.ref d), some (.int S), some (.ref hd), some (.int g), some (.int ((t : Nat) : Int)), some (.ref c), some v] ∧ acc ++ rgs ds S m used t g = full ∧ S < used + m ∧ used ≤ S ∧ used = slotsN acc ∧ acc.length ≤ used ∧
    Same H H' ∧ H' c = some (.lst us) ∧ DpAll K (Off [c] (New H H')) us (acc.map gD) ∧ Dp K (Off [c] (New H H')) v (optD (wg ds S t g))
def spRg (K : PySem.W.Frag) (C : Addr) : Sp := fun vs H Q _ => ∃ (d hd : Addr) (S t : Nat) (g n : Int) (ds : List PyData), vs = [.ref d, .int S, .ref hd] ∧ RingAt K C H d S ds ∧ 0 < S ∧ S ≤ 900 ∧ SqT K H hd [.int n, .int g, .int t] ∧
  ∀ v H', Same H H' → Dp K (New H H') v (.tuple ((rgs ds S (S + 1) 0 t g).map gD)) → Q v H'
theorem ok_rg {f fW fZ : Addr} {fd fdW fdZ : FuncData} (F : Fun K "read_groups" "read_groups" sRg f fd) (GW : FnOk P w K mg base CX0 4 fW fdW ["disk", "slots", "slot", "group"] (spWg K C)) (kW : PySem.W.keepIn K (.ref fW) = true) (gW : mg "whole_group" = some (.ref fW)) (bW : Binds K fdW ["disk", "slots", "slot", "group"] [])
    (GZ : FnOk P w K mg base CX0 1 fZ fdZ ["groups"] (spSlotsOf K)) (kZ : PySem.W.keepIn K (.ref fZ) = true) (gZ : mg "slots_of" = some (.ref fZ)) (bZ : Binds K fdZ ["groups"] []) (ml : mg "len" = none) (mt : mg "tuple" = none) :
    FnOk P w K mg base CX0 5 f fd ["disk", "slots", "head"] (spRg K C) := by
  refine F.ok scRg (fun vs H Q E h => ?_) (fun cdv A outer s H vs Q E hr h => ?_)
  · obtain ⟨d, hd, S, t, g, n, ds, rfl, _⟩ := h
    rfl
  · obtain ⟨d, hd, S, t, g, n, ds, rfl, R, hS, hS2, hh, k⟩ := h
    have hr1 : Room 1 _ := hr.mono (by decide)
    refine ⟨_, pss_cons (ps_par rfl scRg.nd (i := 3) (j := 4) rfl rfl (by decide) rfl rfl (pa_cons (pe_ix ix_tup (pv 2) pe_int (fun _ _ => rfl)) (pa_cons (pe_ix ix_tup (pv 2) pe_int (fun _ _ => rfl)) pa_nil)) (by rfl))
      (pss_cons (ps_set (i := 5) scRg.nd rfl (.inl rfl) (pe_lst pa_nil))
      (pss_cons (ps_set (i := 6) scRg.nd rfl (.inl rfl) (pe_call GW hr rfl gW kW bW .nil pass0 (pa_cons (pv 0) (pa_cons (pv 1) (pa_cons (pv 4) (pa_cons (pv 3) pa_nil))))))
      (pss_cons (ps_while PassesOwn.never (PW.pt (pw_and (pt_cmpR op_notN (pv 6) pe_non (nomark _)) (pw_and1 (pt_cmpR op_le (pe_op op_add (pe_call GZ hr1 rfl gZ kZ bZ .nil pass0 (pa_cons (pv 5) pa_nil)) (pe_callB call_len_seq (by rfl) ml boot_len (pa_cons (pv 6) pa_nil))) (pv 1) (nomark _)))))
        (pss_cons (ps_expr (pe_bm PySem.F.plainAttrs_list PySem.F.slot_list_append PySem.F.type_list_append mt_append (pv 5) (pa_cons (pe_tup (pa_cons (pv 3) (pa_cons (pv 4) (pa_cons (pv 6) pa_nil)))) pa_nil)))
        (pss_cons (ps_set (i := 3) scRg.nd rfl (.inl rfl) (pe_op op_add (pv 3) pe_int))
        (pss_cons (ps_set (i := 4) scRg.nd rfl (.inl rfl) (pe_op op_add (pv 4) (pe_callB call_len_seq (by rfl) ml boot_len (pa_cons (pv 6) pa_nil))))
        (pss_one (ps_set (i := 6) scRg.nd rfl (.inl rfl) (pe_call GW hr rfl gW kW bW .nil pass0 (pa_cons (pv 0) (pa_cons (pv 1) (pa_cons (pv 4) (pa_cons (pv 3) pa_nil)))))))))))
      (pss_one (ps_ret (pe_callTy call_tuple_of (by rfl) mt boot_tuple (pa_cons (pv 5) pa_nil))))))), ?_⟩
    refine ⟨_, rfl, hd, _, 1, .int g, rfl, rfl, hh, rfl, _, rfl, hd, _, 2, .int t, rfl, rfl, hh, rfl, _, _, rfl, ?_⟩
    refine ⟨Nat.zero_le _, fun c hc => ?_⟩
    have s1 := same_upd (o := .lst []) hc
    have hc1 : (upd H c (.lst [])) c ≠ none := by rw [upd_same]; simp
    refine ⟨_, rfl, _, rfl, _, rfl, _, rfl, d, S, t, g, ds, rfl, R.same s1, hS, by omega, fun v0 H0 s0 hv0 => ?_⟩
    refine ⟨rgW K H d hd c S ds (rgs ds S (S + 1) 0 t g), ⟨S + 1, [], 0, t, g, [], v0, rfl, rfl, by omega, by omega, rfl, Nat.le_refl _, s1.trans s0, s0 _ _ upd_same, .nil, dp_same (new_step s1 (by simpa using hc1)) _ _ hv0⟩, ?_⟩
    rintro m σ H' ⟨acc, used, t', g', us, v, rfl, er, hm, hu, eu, hal, s, ec, dU, dv⟩
    obtain ⟨m', rfl⟩ : ∃ m', m = m' + 1 := ⟨m - 1, by omega⟩
    refine ⟨_, rfl, rfl, _, rfl, ?_⟩
    cases ew : wg ds S t' g' with
    | none =>
      rw [ew] at dv
      cases dv
      have ea : acc = rgs ds S (S + 1) 0 t g := by
        rw [← er]
        show acc = acc ++ (match wg ds S t' g' with | none => [] | some cs => _)
        rw [ew, List.append_nil]
      refine iteF (iteF ⟨_, rfl, c, us, rfl, .inl ⟨SqL.of ec, fun q hq => k _ _ (s.trans (same_upd hq)) ?_⟩⟩)
      rw [← ea]
      exact .tup (SqT.of (by rw [new_at (s.free hq), upd_same])) (dps_same ((off_le).trans (new_same (same_upd hq))) _ _ dU)
    | some cs =>
      rw [ew] at dv
      obtain ⟨av, xs, rfl, hav, hxl, _⟩ := ch_read (show Dp K _ v (chD cs) from dv)
      have hav' : SqT K H' av xs := same_seqT ((off_le).trans new_le) hav
      have c0 := wg_len ew
      refine iteT ⟨_, rfl, c, us, acc, rfl, SqL.of ec, dps_same ((off_le).trans new_le) _ _ dU, by omega, fun H3 s3 => ?_⟩
      refine ⟨_, rfl, av, xs, rfl, .inr (same_seqT s3 hav'), _, _, rfl, rfl, _, rfl, _, _, rfl, rfl, _, rfl, ?_⟩
      have ec3 := s3 _ _ ec
      have er2 : acc ++ (if used + cs.length ≤ S then (g', t', cs) :: rgs ds S m' (used + cs.length) (t' + cs.length) (g' + 1) else []) = rgs ds S (S + 1) 0 t g := by
        rw [← er]
        show _ = acc ++ (match wg ds S t' g' with | none => [] | some cs => if used + cs.length ≤ S then (g', t', cs) :: rgs ds S m' (used + cs.length) (t' + cs.length) (g' + 1) else [])
        rw [ew]
      refine ite2 (fun hcnd => ?_) (fun hcnd => ?_)
      · have hfit : used + cs.length ≤ S := by
          have := of_decide_eq_true hcnd
          rw [← eu, hxl] at this
          omega
        rw [if_pos hfit] at er2
        refine ⟨rgW K H d hd c S ds (rgs ds S (S + 1) 0 t g) m', fun _ _ z => ⟨m', by omega, z⟩, ?_⟩
        refine ⟨_, rfl, .inl ⟨rfl, _, SqL.of ec3⟩, _, rfl, _, rfl, _, rfl, (by show 3 ≤ sizeLine; decide), fun u hu => ?_⟩
        have s4 := same_upd (o := .tup [.int g', .int (t' : Nat), .ref av]) hu
        have nuc : u ≠ c := fun z => by
          rw [z, ec3] at hu
          cases hu
        have hul : us.length ≤ 1000 := by
          rw [dps_len dU, List.length_map]
          omega
        refine ⟨c, us, .ref u, rfl, rfl, s4 _ _ ec3, small1000 hul, ?_⟩
        have s34 : Same H' (upd H3 u (.tup [.int g', .int (t' : Nat), .ref av])) := s3.trans s4
        have s05 : Same H (upd (upd H3 u (.tup [.int g', .int (t' : Nat), .ref av])) c (.lst (us ++ [.ref u]))) := fun b o z => by
          rw [upd_ne (ne_of_none z hc)]
          exact s34 _ _ (s _ _ z)
        have hav5 : SqT K (upd (upd H3 u (.tup [.int g', .int (t' : Nat), .ref av])) c (.lst (us ++ [.ref u]))) av xs := by
          refine same_seqT (H := Off [c] (New H H')) (fun b o z => ?_) hav
          have hb : b ∉ [c] := fun y => by rw [off_in y] at z; cases z
          rw [off_out hb] at z
          rw [upd_ne (fun y => hb (by rw [y]; simp))]
          exact s34 _ _ (new_le _ _ z)
        refine ⟨_, rfl, _, _, rfl, rfl, _, rfl, _, rfl, av, xs, rfl, .inr hav5, _, _, rfl, rfl, ?_⟩
        have et : (t' : Int) + (xs.length : Nat) = ((t' + cs.length : Nat) : Int) := by omega
        refine ⟨_, rfl, _, rfl, _, rfl, _, rfl, d, S, t' + cs.length, g' + 1, ds, by rw [← et]; rfl, R.same s05, hS, by omega, fun v' H6 s6 hv' => ?_⟩
        refine ⟨acc ++ [(g', t', cs)], used + cs.length, t' + cs.length, g' + 1, us ++ [.ref u], v', by rw [← et]; rfl, ?_, by omega, hfit, ?_, ?_, s05.trans s6, s6 _ _ upd_same, ?_, ?_⟩
        · rw [← er2, List.append_assoc]
          rfl
        · rw [slotsN_app, ← eu]
          show _ = used + (cs.length + 0)
          omega
        · rw [List.length_append]
          show acc.length + 1 ≤ _
          omega
        · have sO : Same (Off [c] (New H H')) (Off [c] (New H H6)) := by
            refine (off_same (new_same s34)).trans ?_
            rw [← new_upd (c := c) (o := .lst (us ++ [.ref u])) (by simp)]
            exact off_same (new_same s6)
          rw [List.map_append]
          refine dps_app (dps_same sO _ _ dU) (.cons ?_ .nil)
          refine .tup (SqT.of (xs := [.int g', .int (t' : Nat), .ref av]) ?_) (.cons (.int _) (.cons (.int _) (.cons (dp_same sO _ _ dv) .nil)))
          rw [off_out (by simp [nuc]), new_at ((s.trans s3).free hu)]
          exact s6 _ _ (by rw [upd_ne nuc, upd_same])
        · exact dp_same (new_step s05 (by simp [upd_same])) _ _ hv'
      · have hfit : ¬ used + cs.length ≤ S := fun z => hcnd (decide_eq_true (by rw [← eu, hxl]; omega))
        rw [if_neg hfit, List.append_nil] at er2
        refine ⟨_, rfl, c, us, rfl, .inl ⟨SqL.of ec3, fun q hq => k _ _ ((s.trans s3).trans (same_upd hq)) ?_⟩⟩
        rw [← er2]
        exact .tup (SqT.of (by rw [new_at ((s.trans s3).free hq), upd_same])) (dps_same ((off_le).trans (new_same (s3.trans (same_upd hq)))) _ _ dU)
/-! ### last_seen -/
def lastI (ds : List PyData) : Int := ds.foldl (fun m d => match asLog d with | some l => max m l.g | none => m) (-1)
def spLast (K : PySem.W.Frag) (C : Addr) : Sp := fun vs H Q _ => ∃ (d : Addr) (S : Nat) (ds : List PyData), vs = [.ref d, .int S] ∧ RingAt K C H d S ds ∧ ds.length = S ∧ 0 < S ∧ S ≤ 1000 ∧ ∀ H', Same H H' → Q (.int (lastI ds)) H'
theorem ok_last {f fN fS fL : Addr} {fd fdN fdS fdL : FuncData} {tl : Tok} (F : Fun K "last_seen" "last_seen" sLast f fd) (W : WTxt P w K mg base C fN fS fL fdN fdS fdL tl) (mm : mg "max" = none) : FnOk P w K mg base CX0 4 f fd ["disk", "slots"] (spLast K C) := by
  refine F.ok scLast (fun vs H Q E h => ?_) (fun cdv A outer s H vs Q E hr h => ?_)
  · obtain ⟨d, S, ds, rfl, _⟩ := h
    rfl
  · obtain ⟨d, S, ds, rfl, R, hdl, hS, hS2, k⟩ := h
    have hr1 : Room 1 _ := hr.mono (by decide)
    refine ⟨_, pss_cons (ps_set (i := 2) scLast.nd rfl (.inl rfl) (pe_un un_neg pe_int))
      (pss_cons (ps_for PassesOwn.never rfl (pi_range1 (by rfl) W.mR (pa_cons (pv 1) pa_nil)) (pg_name (i := 3) scLast.nd rfl (.inl rfl))
        (pss_cons (ps_set (i := 4) scLast.nd rfl (.inl rfl) (pe_meth (pv 0) W.T.cl W.mN W.GN hr W.bN .nil pass0 (pa_cons (pe_call W.GS hr1 rfl W.gS W.kS W.bS .nil pass0 (pa_cons (pv 1) (pa_cons (pv 3) pa_nil))) pa_nil)))
        (pss_one (ps_if (pt_val (pe_call W.GL hr rfl W.gL W.kL W.bL .nil pass0 (pa_cons (pv 4) pa_nil)))
          (pss_one (ps_set (i := 2) scLast.nd rfl (.inl rfl) (pe_callB (call_max2 rfl) (by rfl) mm (by decide +kernel) (pa_cons (pv 2) (pa_cons (pe_ix ix_tup (pv 4) pe_int (fun _ _ => rfl)) pa_nil))))) pss_nil))))
      (pss_one (ps_ret (pv 2)))), ?_⟩
    obtain ⟨n, sv, lv, D, hn, hring⟩ := id R
    obtain ⟨dx, pa, pb, ts, e1, e2, e3, e4, e5, e6⟩ := id D
    have hSi : (0 : Int) < (S : Int) := by omega
    have eS : ((S : Nat) : Int).toNat = S := by omega
    refine ⟨1, rfl, ?_⟩
    refine ⟨_, rfl, S, rfl, by omega, by omega, for_range (lo := 0) (n := ((S : Nat) : Int).toNat) (fun i σ H' => ∃ y3 y4, σ = [some (.ref d), some (.int S), some (.int (lastI (ds.take i))), y3, y4] ∧ Same H H')
      ⟨none, none, rfl, Same.refl _⟩ ?_ ?_⟩
    · rintro i σ H' hi ⟨y3, y4, rfl, s⟩
      rw [eS] at hi
      have h1 : (0 + (i : Int)) % (S : Int) = (i : Int) := by rw [Int.zero_add]; exact Int.emod_eq_of_lt (by omega) (by omega)
      have hp := dp_same s _ _ (hring i hi)
      refine ⟨_, rfl, d, dx, _, rfl, s _ _ e1, fl_no _ _ _ (by decide +kernel) (by decide +kernel) (by decide +kernel), _, rfl, _, rfl, (S : Int), 0 + (i : Int), rfl, hSi, d, n, _, sv, lv, rfl, D.same s, by rw [h1]; omega, by rw [h1]; omega, ?_⟩
      rw [h1]
      generalize hv1 : nowV sv lv (2 + (i : Int)) = v1 at hp
      have hil : i < ds.length := by omega
      have ed : ds.getD i .none = ds[i] := by rw [List.getD_eq_getElem?_getD, List.getElem?_eq_getElem hil]; rfl
      have et : lastI (ds.take (i + 1)) = (match asLog ds[i] with | some l => max (lastI (ds.take i)) l.g | none => lastI (ds.take i)) := by
        unfold lastI
        rw [List.take_add_one, List.getElem?_eq_getElem hil, List.foldl_append]
        rfl
      rw [ed] at hp
      refine ⟨_, rfl, v1, _, rfl, hp, fun H3 s3 => ⟨_, rfl, ?_⟩⟩
      cases e : asLog ds[i] with
      | none =>
        rw [e] at et
        exact iteF ⟨_, _, by rw [et]; rfl, s.trans s3⟩
      | some l =>
        rw [e] at et
        obtain ⟨a1, rfl, hT1⟩ := log_read hp e
        refine iteT ⟨_, rfl, _, rfl, a1, _, 0, .int l.g, rfl, rfl, same_seqT s3 hT1, atI_nat (j := 0) rfl, _, _, rfl, ?_⟩
        refine ⟨some (.int (0 + (i : Int))), some (.ref a1), ?_, s.trans s3⟩
        have em : max (lastI (ds.take i)) l.g = if l.g > lastI (ds.take i) then l.g else lastI (ds.take i) := by
          rw [Int.max_def]
          split <;> split <;> omega
        rw [et]
        show _ = [some (V.ref d), some (V.int S), some (V.int (max (lastI (ds.take i)) l.g)), some (V.int (0 + (i : Int))), some (V.ref a1)]
        rw [em]
        rfl
    · rintro σ H' ⟨y3, y4, rfl, s⟩
      refine ⟨_, rfl, ?_⟩
      rw [eS, ← hdl, List.take_length]
      exact k _ s
end
end Pf

set_option Elab.async false
set_option linter.all false
set_option maxRecDepth 100000
set_option maxHeartbeats 4000000
namespace Pf
open PySem PySem.Spec PyProof.Rows L2
open PySem.W (AlikeAll maxD argBest_fold iter_listW moved_old cmpIn_gt)
/-! ### rules: max of a list of data, X() of an own error -/
def rMaxD (K : PySem.W.Frag) : List V → Hp → VK → Prop := fun vs H Q => ∃ (a : Addr) (xs : List V) (d : PyData) (ds : List PyData), vs = [V.ref a] ∧ SqL K H a xs ∧ DpAll K H xs (d :: ds) ∧ AlikeAll (d :: ds) ∧ PyData.depthAll (d :: ds) ≤ 60 ∧
  ∀ (i : Nat) (v : V), xs[i]? = some v → (d :: ds).getD i .none = maxD d ds → Q v H
section
variable {X : Cx}
theorem cr_maxD (hc : X.calm = true) (hu : X.A.units + 64 < cLine) : CallR X (.builtin "max") (rMaxD X.K) := by
  intro pins s σ H vs us Q I r h
  obtain ⟨a, xs, d, ds, rfl, hs, hd, hal, hdep, q⟩ := h
  obtain ⟨its, rv, hl, hz⟩ := I.list hs
  rw [Vals.ref1 r]
  obtain ⟨as, hr⟩ := Dp.readsAll I _ _ _ hd rv
  have hr' : ReadsAll s.heap its.toArray.toList (d :: ds) as := hr
  have hn : its.toArray.size = ds.length + 1 := PySem.W.readsAll_len hr'
  refine call_max_walkH (iter_listW (A := X.A.in1) (I.ok.hd hc) hl.isList fun s₂ e W st hfp hw hk => ?_)
  refine ⟨_, _, _, _, _, _, _, s.heap, _, rfl, W, st, hfp, by omega, hw, hk, cmpIn_gt (A := X.A.in1) hr' hal (by show X.A.units + 1 + _ < _; omega), fun v s' hP m => ?_⟩
  obtain ⟨h', tk, rfl, hk'⟩ := moved_old e rfl m
  have e1 : its.toArray.size - 1 = ds.length := by omega
  have e2 := (argBest_fold (fun a b => PySem.W.dataLt b a) PyData.none d ds ds.length (Nat.le_refl _)).2
  rw [List.take_length] at e2
  rw [e1] at hP
  generalize argBest _ ds.length = j at hP e2
  have hj : its[j]? = some v := by simpa using hP
  have hl2 := rv.length
  have hjl : j < xs.length := by
    rw [hl2]
    exact (List.getElem?_eq_some_iff.mp hj).1
  obtain ⟨u, h1, h2⟩ := rv.get (List.getElem?_eq_getElem hjl)
  have eu : u = v := Option.some.inj (h1.symm.trans hj)
  subst eu
  exact ⟨_, H, I.kept hk', h2, q j _ (List.getElem?_eq_getElem hjl) e2⟩
/-- X() -/
theorem pmk_own0 {C : Addr} {bmB : List Value} {B newId initId : String} {x : Str} {p pos : Pos} (F : ExcBaseFacts B newId initId bmB) (q : PySem.W.excIn X.K C bmB newId = true) (gC : X.mg x = some (.ref C)) (kC : PySem.W.keepIn X.K (.ref C) = true) (r : Raises X (.ref C)) (hg : Gl X x)
    (hdb : (x == ("__debug__" : Str)) = false := by decide) : PMk X (.Call (.Name x p) [] [] pos) (fun _ H Q => Q (.ref C) none H) := by
  intro pins s σ H Q I h
  refine wpAny_Call_Name_kw (ld_glob I hg gC ?_ hdb)
  refine PySem.W.callWith_K0 I.kIn kC ?_
  show wpAny _ _ (call (.ref C) []) _ _ _
  obtain ⟨bm, N, nm, qn, bs, hdct, sn, sub, ab, col, dd, k0, k1, k2, k3, k5, mN, hC, hN, hni, T⟩ := exc_obj I.kIn q
  refine wpAny_call_exc_subT F T hC hN hni (fun h' e hm => ?_) (by show 0 ≤ sizeLine; omega)
  exact mk_of I hm r h (I.hok.gone hm.new)
end
end Pf

set_option Elab.async false
set_option linter.all false
set_option maxRecDepth 100000
set_option maxHeartbeats 4000000
namespace Pf
open PySem PySem.Spec PyProof.Rows L2
open PySem.W (AlikeAll maxD)
theorem scHp : FnScope ["number"] ["number"] (defScope sHp) := ⟨rfl, rfl, rfl, by decide +kernel, rfl, by decide +kernel, by decide +kernel⟩
theorem scIsHead : FnScope ["plate", "value", "number"] ["plate", "value"] (defScope sIsHead) := ⟨rfl, rfl, rfl, by decide +kernel, rfl, by decide +kernel, by decide +kernel⟩
theorem scRh : FnScope ["disk", "heads", "plate", "value"] ["disk"] (defScope sRh) := ⟨rfl, rfl, rfl, by decide +kernel, rfl, by decide +kernel, by decide +kernel⟩
def nonneg (d : PyData) : Bool := wholeB d (some 0) none
def headB (p : Int) : PyData → Bool
  | .tuple ds => decide (ds.length = 3) && ds.all nonneg && (match ds.getD 0 .none with | .int i => decide (i % 2 = p) | _ => false)
  | _ => false
theorem head_some {p : Int} {d : PyData} (h : headB p d = true) : ∃ a b c, d = rowD [a, b, c] ∧ 0 ≤ a ∧ 0 ≤ b ∧ 0 ≤ c ∧ a % 2 = p := by
  cases d with
  | tuple ds =>
    have h' : (decide (ds.length = 3) && ds.all nonneg && (match ds.getD 0 .none with | .int i => decide (i % 2 = p) | _ => false)) = true := h
    rw [Bool.and_eq_true, Bool.and_eq_true] at h'
    obtain ⟨⟨h1, h2⟩, h3⟩ := h'
    have h1 := of_decide_eq_true h1
    match ds, h1, h2, h3 with
    | [x, y, z], _, h2, h3 =>
      have h2' : (nonneg x && (nonneg y && (nonneg z && true))) = true := h2
      rw [Bool.and_eq_true, Bool.and_eq_true, Bool.and_eq_true] at h2'
      obtain ⟨i, rfl, hi⟩ := whole_lo h2'.1
      obtain ⟨j, rfl, hj⟩ := whole_lo h2'.2.1
      obtain ⟨k, rfl, hk⟩ := whole_lo h2'.2.2.1
      exact ⟨i, j, k, rfl, hi, hj, hk, of_decide_eq_true h3⟩
  | _ => cases h
theorem head_mk {p a b c : Int} (h : 0 ≤ a ∧ 0 ≤ b ∧ 0 ≤ c ∧ a % 2 = p) : headB p (rowD [a, b, c]) = true := by
  show (decide (3 = 3) && (nonneg (.int a) && (nonneg (.int b) && (nonneg (.int c) && true))) && decide (a % 2 = p)) = true
  have e : ∀ x : Int, 0 ≤ x → nonneg (.int x) = true := fun x hx => by
    show (decide (0 ≤ x) && true) = true
    rw [decide_eq_true hx]
    rfl
  rw [e a h.1, e b h.2.1, e c h.2.2.1, decide_eq_true h.2.2.2]
  rfl
def hdN (d : PyData) : List Int := match d with
  | .tuple ds => (intsOf ds).getD []
  | _ => []
theorem hdN_row (ns : List Int) : hdN (rowD ns) = ns := by
  show (intsOf (ns.map PyData.int)).getD [] = ns
  rw [intsOf_map]
  rfl
/-- the head that is read -/
def readH (e0 e1 : PyData) : Option (List Int) := match headB 0 e0, headB 1 e1 with
  | false, false => none
  | true, false => some (hdN e0)
  | false, true => some (hdN e1)
  | true, true => some (if (hdN e0).headD 0 < (hdN e1).headD 0 then hdN e1 else hdN e0)
theorem data_lt3 {a b c x y z : Int} (h : a ≠ x) : PySem.W.dataLt (rowD [a, b, c]) (rowD [x, y, z]) = decide (a < x) := by
  unfold PySem.W.dataLt
  simp only [rowD, List.map_cons, List.map_nil, PySem.W.keyToks, PySem.W.keyToksAll]
  refine (PySem.W.lex_pre [Sum.inl 1] (Sum.inl a :: _) (Sum.inl x :: _)).trans ((PySem.W.lex_atom (fun e => h (by injection e)) _ _).trans ?_)
  simp [PyProof.Rows.lexLt, itemOrd, itemLt]
section
variable {P : Program} {w : World} {K : PySem.W.Frag} {mg : Str → Option Value} {base : Heap} {C : Addr}
def spHp : Sp := fun vs H Q _ => ∃ n : Int, vs = [.int n] ∧ Q (.int (n % 2)) H
theorem ok_hp {f : Addr} {fd : FuncData} (F : Fun K "head_plate" "head_plate" sHp f fd) {th : Tok} (mH : mg "HEAD_PLATES" = some (.int 2 th)) : FnOk P w K mg base CX0 1 f fd ["number"] spHp := by
  refine F.ok scHp (fun vs H Q E h => ?_) (fun cdv A outer s H vs Q E hr h => ?_)
  · obtain ⟨n, rfl, _⟩ := h
    rfl
  · obtain ⟨n, rfl, q⟩ := h
    exact ⟨_, pss_one (ps_ret (pe_op op_mod (pv 0) (pe_glob (v := .int 2) rfl mH ⟨_, rfl⟩))), _, rfl, _, _, rfl, rfl, (by show (0 : Int) < 2; decide), q⟩
def spIsHead (K : PySem.W.Frag) : Sp := fun vs H Q _ => ∃ p v d, vs = [.int p, v] ∧ Dp K H v d ∧ ∀ H', Same H H' → Q (.bl (headB p d)) H'
theorem ok_isHead {f fW fP : Addr} {fd fdW fdP : FuncData} {dsW : List Value} (F : Fun K "is_head" "is_head" sIsHead f fd) (GW : FnOk P w K mg base CX0 1 fW fdW ["thing", "low", "high"] (spWhole K)) (kW : PySem.W.keepIn K (.ref fW) = true) (gW : mg "is_whole" = some (.ref fW))
    (bW : Binds K fdW ["thing", "low", "high"] dsW) (vW : Vals [.non] dsW) (GP : FnOk P w K mg base CX0 1 fP fdP ["number"] spHp) (kP : PySem.W.keepIn K (.ref fP) = true) (gP : mg "head_plate" = some (.ref fP)) (bP : Binds K fdP ["number"] [])
    (mi : mg "isinstance" = none) (mt : mg "tuple" = none) (ml : mg "len" = none) (ma : mg "all" = none) {tw : Tok} (mW : mg "HEAD_NUMBERS" = some (.int 3 tw)) :
    FnOk P w K mg base CX0 2 f fd ["plate", "value"] (spIsHead K) := by
  refine F.ok scIsHead (fun vs H Q E h => ?_) (fun cdv A outer s H vs Q E hr h => ?_)
  · obtain ⟨p, v, d, rfl, _⟩ := h
    rfl
  · obtain ⟨pl, v, d, rfl, hd, q⟩ := h
    refine ⟨_, pss_cons (ps_if (PW.pt (pw_or (pt_not (pt_val (pe_callB call_isi (by rfl) mi (by decide +kernel) (pa_cons (pv 1) (pa_cons (pe_bltn (v := .ty "tuple") (by rfl) mt boot_tuple rfl) pa_nil)))))
        (pw_or1 (pt_cmpR op_ne (pe_callB call_len_seq (by rfl) ml boot_len (pa_cons (pv 1) pa_nil)) (pe_glob (v := .int 3) rfl mW ⟨_, rfl⟩) (nomark _))))) (pss_one (ps_ret pe_bl)) pss_nil)
      (pss_cons (ps_if (pt_not (pt_val (pe_callB (cr_all rfl) (by rfl) ma (by decide +kernel) (pa_cons
        (pe_lc (own := [("number", 2)]) (g := gName 2) (tt := tYes) rfl scIsHead.nd (pi_tup (pv 1)) (blkOk_by (N := ["plate", "value", "number"]) (sc := defScope sIsHead) (by decide +kernel)) (fun _ _ _ _ _ => pg_name (i := 2) scIsHead.nd rfl (Or.inl rfl)) (fun _ _ _ _ _ => pts_nil)
          (fun _ _ _ _ _ => pe_call GW hr rfl gW kW bW vW pass0 (pa_cons (pv 2) (pa_cons pe_int pa_nil)))) pa_nil)))) (pss_one (ps_ret pe_bl)) pss_nil)
      (pss_one (ps_ret (pe_cmp (pc_eqI (pe_call GP hr rfl gP kP bP .nil pass0 (pa_cons (pe_ix ix_tup (pv 1) pe_int (fun _ _ => rfl)) pa_nil)) (pv 0)))))), ?_⟩
    obtain ⟨t, ty, kt⟩ := isi_tup hd
    refine ⟨_, rfl, _, _, t, _, _, rfl, .ty _, ty, kt, _, rfl, ?_⟩
    cases hd with
    | non => exact iteT (iteT (q _ (Same.refl _)))
    | str x => exact iteT (iteT (q _ (Same.refl _)))
    | lst _ _ => exact iteT (iteT (q _ (Same.refl _)))
    | int x => exact iteT (iteT (q _ (Same.refl _)))
    | bl b => exact iteT (iteT (q _ (Same.refl _)))
    | @tup a xs ds hs ha =>
      have hl := dps_len ha
      refine iteF ⟨_, rfl, a, xs, rfl, .inr hs, rfl, _, rfl, ite2 (fun hc => ?_) (fun hc => ?_)⟩
      · have hne : ds.length ≠ 3 := fun z => by
          rw [hl, z] at hc
          exact absurd hc (by decide)
        have e : headB pl (.tuple ds) = false := by
          show (decide (ds.length = 3) && _ && _) = false
          rw [decide_eq_false hne]
          rfl
        have q' := q _ (Same.refl _)
        rw [e] at q'
        exact q'
      · have h3 : ds.length = 3 := by
          by_cases z : ds.length = 3
          · exact z
          · refine absurd ?_ hc
            rw [hl]
            have z2 : ¬ (V.int (ds.length : Nat) = V.int 3) := fun y => z (by injection y with y; omega)
            rw [decide_eq_false z2]
            rfl
        refine ⟨_, rfl, a, rfl, ⟨_, hs⟩, fun D hD => lc_tup (K := K) (a := a) (xs := xs) (fun i H' => Same H H' ∧ H' D = some (.lst ((ds.take i).map fun d => V.bl (nonneg d)))) ⟨same_upd hD, upd_same⟩ (fun i H' _ p => same_seqT p.1 hs) ?_ ?_⟩
        · rintro i x H' hi ⟨s1, e1⟩
          obtain ⟨d', hd', hp⟩ := dps_get ha hi
          have hil : i < ds.length := (List.getElem?_eq_some_iff.mp hd').1
          refine ⟨rfl, tyes_go ?_⟩
          refine ⟨x, rfl, x, d', some 0, none, rfl, dp_same s1 _ _ hp, _, e1, ?_, ?_, ?_⟩
          · rw [List.length_map, List.length_take]
            exact small1000 (by omega)
          · exact fun b o e => by
              rw [upd_ne (ne_of_none e hD)]
              exact s1 _ _ e
          · rw [upd_same, List.take_add_one, hd', List.map_append]
            rfl
        · rintro H' ⟨s1, e1⟩
          rw [hl, List.take_length] at e1
          refine ⟨D, ds.map nonneg, rfl, SqL.of (by rw [e1, List.map_map]; rfl), _, rfl, ?_⟩
          have e2 : (ds.map nonneg).all id = ds.all nonneg := by rw [List.all_map]; rfl
          rw [e2]
          have e : headB pl (.tuple ds) = (ds.all nonneg && (match ds.getD 0 .none with | .int i => decide (i % 2 = pl) | _ => false)) := by
            show (decide (ds.length = 3) && ds.all nonneg && _) = _
            rw [decide_eq_true h3, Bool.true_and]
          have q' := q _ s1
          rw [e] at q'
          cases hall : ds.all nonneg with
          | false =>
            rw [hall] at q'
            exact iteT q'
          | true =>
            rw [hall] at q'
            match ds, h3, ha, hall, q' with
            | [x, y, z], _, ha, hall, q' =>
              have h2' : (nonneg x && (nonneg y && (nonneg z && true))) = true := hall
              rw [Bool.and_eq_true] at h2'
              obtain ⟨i, rfl, hi⟩ := whole_lo h2'.1
              cases ha with
              | cons hx _ =>
                cases hx
                exact iteF ⟨_, rfl, a, _, 0, _, rfl, rfl, same_seqT s1 hs, atI_nat (j := 0) rfl, i, rfl, _, rfl, _, _, rfl, rfl, q'⟩
/-! ### read_head -/
theorem alike3 (a b c x y z : Int) : PySem.W.alike (rowD [a, b, c]) (rowD [x, y, z]) = true := by
  simp [rowD, PySem.W.alike, PySem.W.alikeAll]
theorem dep3 (a b c : Int) : PyData.depth (rowD [a, b, c]) = 1 := by
  simp [rowD, PyData.depth, PyData.depthAll]
def hvs (sv : List V) (lv : List (Int × V)) (e0 e1 : PyData) : Nat → List V
  | 0 => []
  | 1 => if headB 0 e0 = true then [nowV sv lv 0] else []
  | _ => (if headB 0 e0 = true then [nowV sv lv 0] else []) ++ (if headB 1 e1 = true then [nowV sv lv 1] else [])
theorem hvs1_len (sv : List V) (lv : List (Int × V)) (e0 e1 : PyData) : (hvs sv lv e0 e1 1).length ≤ 1 := by
  show (if headB 0 e0 = true then [nowV sv lv 0] else []).length ≤ 1
  split <;> simp
def spRh (K : PySem.W.Frag) (C CN : Addr) : Sp := fun vs H Q E => ∃ (d : Addr) (n : Int) (sv : List V) (lv : List (Int × V)) (e0 e1 : PyData), vs = [.ref d] ∧ DiskAt C H d n sv lv ∧ 2 ≤ n ∧ Dp K H (nowV sv lv 0) e0 ∧ Dp K H (nowV sv lv 1) e1 ∧
  (readH e0 e1 = none → ∀ H', Same H H' → E (.ref CN) none H') ∧ (∀ ns v H', readH e0 e1 = some ns → Same H H' → Dp K H v (rowD ns) → Q v H')
structure NHTxt (K : PySem.W.Frag) (mg : Str → Option Value) (CN : Addr) : Prop where
  gN : mg "NoHead" = some (.ref CN)
  xN : PySem.W.excIn K CN [.type "Exception", .type "BaseException", .type "object"] "Exception.__new__" = true
  kN : PySem.W.keepIn K (.ref CN) = true
  bN : PySem.W.subIn K (.ref CN) (.type "BaseException") = some true
  tN : PySem.W.typeIn K (.ref CN) = some (.type "type")
  eN : PySem.W.exmOne K (.ref CN) (.ref CN) = some true
theorem ok_rh {f fN fI CN : Addr} {fd fdN fdI : FuncData} (F : Fun K "read_head" "read_head" sRh f fd) (T : DTxt K C) (GN : FnOk P w K mg base CX0 3 fN fdN ["self", "plate"] (spNow C)) (mN : Meth K C "now" fN) (bN : Binds K fdN ["self", "plate"] [])
    (GI : FnOk P w K mg base CX0 2 fI fdI ["plate", "value"] (spIsHead K)) (kI : PySem.W.keepIn K (.ref fI) = true) (gI : mg "is_head" = some (.ref fI)) (bI : Binds K fdI ["plate", "value"] [])
    (N : NHTxt K mg CN) (ml : mg "len" = none) (mm : mg "max" = none) (mr : mg "range" = none) {th : Tok} (mH : mg "HEAD_PLATES" = some (.int 2 th)) :
    FnOk P w K mg base (L2.CX P w) 4 f fd ["disk"] (spRh K C CN) := by
  refine F.okX scRh (fun vs H Q E h => ?_) (fun cdv A outer s H vs Q E hr h => ?_)
  · obtain ⟨d, n, sv, lv, e0, e1, rfl, _⟩ := h
    rfl
  · obtain ⟨d, n, sv, lv, e0, e1, rfl, D, hn, hd0, hd1, kE, kQ⟩ := h
    obtain ⟨dx, pa, pb, ts, x1, x2, x3, x4, x5, x6⟩ := id D
    refine ⟨_, pss_cons (ps_set (i := 1) scRh.nd rfl (.inl rfl) (pe_lst pa_nil))
      (pss_cons (ps_for (passes_of rfl) rfl (pi_range1 (by rfl) mr (pa_cons (pe_glob (v := .int 2) rfl mH ⟨_, rfl⟩) pa_nil)) (pg_name (i := 2) scRh.nd rfl (.inl rfl))
        (pss_cons (ps_set (i := 3) scRh.nd rfl (.inl rfl) (pe_meth (pv 0) T.cl mN GN hr bN .nil pass0 (pa_cons (pv 2) pa_nil)))
        (pss_one (ps_if (pt_val (pe_call GI (hr.mono (by decide)) rfl gI kI bI .nil pass0 (pa_cons (pv 2) (pa_cons (pv 3) pa_nil))))
          (pss_one (ps_expr (pe_bm PySem.F.plainAttrs_list PySem.F.slot_list_append PySem.F.type_list_append mt_append (pv 1) (pa_cons (pv 3) pa_nil)))) pss_nil))))
      (pss_cons (ps_if (pt_cmpR op_eq (pe_callB call_len_seq (by rfl) ml boot_len (pa_cons (pv 1) pa_nil)) pe_int (nomark _)) (pss_one (ps_raise rfl (takes_of rfl rfl rfl rfl) (pmk_own0 PySem.F.excBase_Exception N.xN N.gN N.kN (raises_own N.bN N.tN) rfl))) pss_nil)
      (pss_one (ps_ret (pe_callB (cr_maxD rfl hr.units) (by rfl) mm (by decide +kernel) (pa_cons (pv 1) pa_nil)))))), ?_⟩
    refine ⟨Nat.zero_le _, fun c hc => ?_⟩
    have s1 := same_upd (o := .lst []) hc
    refine ⟨2, rfl, by decide, by decide, for_range (lo := 0) (n := (2 : Int).toNat) (fun i σ H' => ∃ y2 y3, σ = [some (.ref d), some (.ref c), y2, y3] ∧ Same H H' ∧ H' c = some (.lst (hvs sv lv e0 e1 i)))
      ⟨none, none, rfl, s1, upd_same⟩ ?_ ?_⟩
    · rintro i σ H' hi ⟨y2, y3, rfl, s, ec⟩
      have hi2 : i < 2 := hi
      refine ⟨_, rfl, d, dx, _, rfl, s _ _ x1, fl_no _ _ _ (by decide +kernel) (by decide +kernel) (by decide +kernel), _, rfl, d, n, 0 + (i : Int), sv, lv, rfl, D.same s, by omega, by omega, ?_⟩
      match i, hi2 with
      | 0, _ =>
        refine ⟨_, rfl, _, rfl, (0 : Int), nowV sv lv 0, e0, rfl, dp_same s _ _ hd0, fun H1 s1 => ⟨_, rfl, ?_⟩⟩
        have ec1 := s1 _ _ ec
        cases hb : headB 0 e0 with
        | false => exact iteF ⟨_, _, rfl, s.trans s1, by rw [ec1]; simp [hvs, hb]⟩
        | true =>
          refine iteT ⟨_, rfl, .inl ⟨rfl, _, SqL.of ec1⟩, _, rfl, c, _, _, rfl, rfl, ec1, (by show 0 < sizeLine; rw [sizeLine_eq]; omega), _, _, rfl, fun b o e => ?_, ?_⟩
          · rw [upd_ne (ne_of_none e hc)]
            exact s1 _ _ (s _ _ e)
          · rw [upd_same]
            simp [hvs, hb]
      | 1, _ =>
        refine ⟨_, rfl, _, rfl, (1 : Int), nowV sv lv 1, e1, rfl, dp_same s _ _ hd1, fun H1 s1 => ⟨_, rfl, ?_⟩⟩
        have ec1 := s1 _ _ ec
        cases hb : headB 1 e1 with
        | false => exact iteF ⟨_, _, rfl, s.trans s1, by rw [ec1]; simp [hvs, hb]⟩
        | true =>
          refine iteT ⟨_, rfl, .inl ⟨rfl, _, SqL.of ec1⟩, _, rfl, c, _, _, rfl, rfl, ec1, (by rw [sizeLine_eq]; exact Nat.lt_of_le_of_lt (hvs1_len sv lv e0 e1) (by decide)), _, _, rfl, fun b o e => ?_, ?_⟩
          · rw [upd_ne (ne_of_none e hc)]
            exact s1 _ _ (s _ _ e)
          · rw [upd_same]
            simp [hvs, hb]
    · rintro σ H' ⟨y2, y3, rfl, s, ec⟩
      have ec : H' c = some (.lst (hvs sv lv e0 e1 2)) := ec
      have hd0' := dp_same s _ _ hd0
      have hd1' := dp_same s _ _ hd1
      cases h0 : headB 0 e0 with
      | false =>
        cases h1 : headB 1 e1 with
        | false =>
          have er : readH e0 e1 = none := by unfold readH; rw [h0, h1]
          have e2 : hvs sv lv e0 e1 2 = [] := by simp [hvs, h0, h1]
          rw [e2] at ec
          exact ⟨_, rfl, c, _, rfl, .inl (SqL.of ec), rfl, _, rfl, iteT (kE er _ s)⟩
        | true =>
          obtain ⟨a, b, c', rfl, g1, g2, g3, g4⟩ := head_some h1
          have er : readH e0 (rowD [a, b, c']) = some [a, b, c'] := by unfold readH; rw [h0, h1]; show some (hdN _) = _; rw [hdN_row]
          have e2 : hvs sv lv e0 (rowD [a, b, c']) 2 = [nowV sv lv 1] := by simp [hvs, h0, h1]
          rw [e2] at ec
          refine ⟨_, rfl, c, _, rfl, .inl (SqL.of ec), rfl, _, rfl, iteF ⟨_, rfl, c, _, rowD [a, b, c'], [], rfl, SqL.of ec, .cons hd1' .nil, ⟨?_, ?_⟩, ?_, fun i v hv _ => ?_⟩⟩
          · intro x hx y hy
            simp at hx hy
            subst hx
            subst hy
            exact alike3 ..
          · intro x hx
            simp at hx
            subst hx
            exact fun z => by cases z
          · simp [PyData.depthAll, dep3]
          · have hi : i = 0 := by
              have := (List.getElem?_eq_some_iff.mp hv).1
              simp at this
              omega
            subst hi
            cases (Option.some.inj hv)
            exact kQ _ _ _ er s hd1
      | true =>
        obtain ⟨a, b, c', rfl, g1, g2, g3, g4⟩ := head_some h0
        cases h1 : headB 1 e1 with
        | false =>
          have er : readH (rowD [a, b, c']) e1 = some [a, b, c'] := by unfold readH; rw [h0, h1]; show some (hdN _) = _; rw [hdN_row]
          have e2 : hvs sv lv (rowD [a, b, c']) e1 2 = [nowV sv lv 0] := by simp [hvs, h0, h1]
          rw [e2] at ec
          refine ⟨_, rfl, c, _, rfl, .inl (SqL.of ec), rfl, _, rfl, iteF ⟨_, rfl, c, _, rowD [a, b, c'], [], rfl, SqL.of ec, .cons hd0' .nil, ⟨?_, ?_⟩, ?_, fun i v hv _ => ?_⟩⟩
          · intro x hx y hy
            simp at hx hy
            subst hx
            subst hy
            exact alike3 ..
          · intro x hx
            simp at hx
            subst hx
            exact fun z => by cases z
          · simp [PyData.depthAll, dep3]
          · have hi : i = 0 := by
              have := (List.getElem?_eq_some_iff.mp hv).1
              simp at this
              omega
            subst hi
            cases (Option.some.inj hv)
            exact kQ _ _ _ er s hd0
        | true =>
          obtain ⟨x, y, z, rfl, k1, k2, k3, k4⟩ := head_some h1
          have hne : a ≠ x := fun e => by omega
          have er : readH (rowD [a, b, c']) (rowD [x, y, z]) = some (if a < x then [x, y, z] else [a, b, c']) := by
            unfold readH
            rw [h0, h1]
            show some (if (hdN _).headD 0 < (hdN _).headD 0 then hdN _ else hdN _) = _
            rw [hdN_row, hdN_row]
            rfl
          have e2 : hvs sv lv (rowD [a, b, c']) (rowD [x, y, z]) 2 = [nowV sv lv 0, nowV sv lv 1] := by simp [hvs, h0, h1]
          rw [e2] at ec
          refine ⟨_, rfl, c, _, rfl, .inl (SqL.of ec), rfl, _, rfl, iteF ⟨_, rfl, c, _, rowD [a, b, c'], [rowD [x, y, z]], rfl, SqL.of ec, .cons hd0' (.cons hd1' .nil), ⟨?_, ?_⟩, ?_, fun i v hv hm => ?_⟩⟩
          · intro u hu t ht
            simp at hu ht
            rcases hu with rfl | rfl <;> rcases ht with rfl | rfl <;> exact alike3 ..
          · intro u hu
            simp at hu
            rcases hu with rfl | rfl <;> exact fun z => by cases z
          · simp [PyData.depthAll, dep3]
          · have em : maxD (rowD [a, b, c']) [rowD [x, y, z]] = rowD (if a < x then [x, y, z] else [a, b, c']) := by
              show (if PySem.W.dataLt (rowD [a, b, c']) (rowD [x, y, z]) then rowD [x, y, z] else rowD [a, b, c']) = _
              rw [data_lt3 hne]
              by_cases hlt : a < x
              · rw [decide_eq_true hlt, if_pos hlt]; rfl
              · rw [decide_eq_false hlt, if_neg hlt]; rfl
            rw [em] at hm
            have hi : i < 2 := (List.getElem?_eq_some_iff.mp hv).1
            match i, hi with
            | 0, _ =>
              cases (Option.some.inj hv)
              exact kQ _ _ _ er s (by rw [← hm]; exact hd0)
            | 1, _ =>
              cases (Option.some.inj hv)
              exact kQ _ _ _ er s (by rw [← hm]; exact hd1)
end
end Pf

set_option Elab.async false
set_option linter.all false
set_option maxRecDepth 100000
set_option maxHeartbeats 4000000
namespace Pf
open PySem PySem.Spec PyProof.Rows L2
/-! ### frames: tuples stay, all else stays but what stands at cs -/
def isT : HO → Bool
  | .tup _ => true
  | .frz _ (.tup _) => true
  | .frz _ (.lst _) => true
  | _ => false
def Fr (cs : List Addr) (H H' : Hp) : Prop := ∀ b o, H b = some o → (b ∉ cs ∨ isT o = true) → H' b = some o
theorem Fr.of {cs : List Addr} {H H' : Hp} (s : Same H H') : Fr cs H H' := fun b o e _ => s b o e
theorem Fr.trans {cs : List Addr} {H H1 H2 : Hp} (h : Fr cs H H1) (g : Fr cs H1 H2) : Fr cs H H2 := fun b o e c => g b o (h b o e c) c
theorem Fr.mono {cs ds : List Addr} {H H' : Hp} (h : Fr cs H H') (s : ∀ c ∈ cs, c ∈ ds) : Fr ds H H' := fun b o e c => h b o e (c.imp (fun z y => z (s b y)) id)
theorem Fr.drop {cs ds : List Addr} {H H' : Hp} (h : Fr ds H H') (s : ∀ c ∈ ds, c ∈ cs ∨ H c = none) : Fr cs H H' := fun b o e c => by
  refine h b o e ?_
  rcases c with c | c
  · by_cases hb : b ∈ ds
    · rcases s b hb with z | z
      · exact absurd z c
      · rw [z] at e; cases e
    · exact .inl hb
  · exact .inr c
theorem Fr.at {cs : List Addr} {H H' : Hp} (h : Fr cs H H') {b : Addr} {o : HO} (e : H b = some o) (n : b ∉ cs) : H' b = some o := h b o e (.inl n)
theorem Fr.tup {cs : List Addr} {H H' : Hp} (h : Fr cs H H') {b : Addr} {xs : List V} (e : H b = some (.tup xs)) : H' b = some (.tup xs) := h b _ e (.inr rfl)
theorem Fr.same {H H' : Hp} (h : Fr [] H H') : Same H H' := fun b o e => h b o e (.inl (by simp))
theorem Fr.put {cs : List Addr} {H : Hp} {c : Addr} {o : HO} (hc : c ∈ cs) (ht : ∀ u, H c = some u → isT u = false) : Fr cs H (upd H c o) := fun b u e z => by
  by_cases hb : b = c
  · subst hb
    rcases z with z | z
    · exact absurd hc z
    · rw [ht _ e] at z; cases z
  · rw [upd_ne hb]
    exact e
theorem Fr.new {cs : List Addr} {H : Hp} {c : Addr} {o : HO} (hc : H c = none) : Fr cs H (upd H c o) := .of (same_upd hc)
theorem Fr.but {cs : List Addr} {H H' : Hp} (s : But cs H H') (ht : ∀ c ∈ cs, ∀ u, H c = some u → isT u = false) : Fr cs H H' := fun b o e z => by
  by_cases hb : b ∈ cs
  · rcases z with z | z
    · exact absurd hb z
    · rw [ht b hb _ e] at z; cases z
  · exact s.at e hb
/-- the tuples of a heap -/
def Tp (H : Hp) : Hp := fun b => match H b with
  | some o => if isT o = true then some o else none
  | none => none
theorem tp_some {H : Hp} {b : Addr} {o : HO} (h : Tp H b = some o) : H b = some o ∧ isT o = true := by
  unfold Tp at h
  split at h
  · split at h
    · rename_i e c
      cases h
      exact ⟨e, c⟩
    · cases h
  · cases h
theorem tp_le {H : Hp} : Same (Tp H) H := fun b o e => (tp_some e).1
theorem tp_at {H : Hp} {b : Addr} {o : HO} (h : H b = some o) (t : isT o = true) : Tp H b = some o := by
  unfold Tp
  rw [h]
  exact if_pos t
theorem Fr.tp {cs : List Addr} {H H' : Hp} (h : Fr cs H H') : Same (Tp H) (Tp H') := fun b o e => by
  obtain ⟨e1, e2⟩ := tp_some e
  exact tp_at (h b o e1 (.inr e2)) e2
theorem sqt_tp {K : PySem.W.Frag} {H : Hp} {a : Addr} {xs : List V} (h : SqT K H a xs) : SqT K (Tp H) a xs := by
  rcases h with (h | ⟨o, h⟩) | h
  · exact .inl (.inl (tp_at h rfl))
  · exact .inl (.inr ⟨o, tp_at h rfl⟩)
  · exact .inr h
theorem row_tp {K : PySem.W.Frag} {H : Hp} {v : V} {ns : List Int} (h : Dp K H v (rowD ns)) : Dp K (Tp H) v (rowD ns) := by
  cases h with
  | tup hs ha => exact .tup (sqt_tp hs) (by rw [dps_inv ha]; exact dps_ints _)
theorem DiskAt.fr {C : Addr} {H H' : Hp} {cs : List Addr} {d : Addr} {n : Int} {sv : List V} {lv : List (Int × V)} (h : DiskAt C H d n sv lv) (s : Fr cs H H') (nd : d ∉ cs) : DiskAt C H' d n sv lv := by
  obtain ⟨dx, a, b, ts, h1, h2, h3, h4, h5, h6⟩ := h
  exact ⟨dx, a, b, ts, s.at h1 nd, s.tup h2, h3, h4, s.tup h5, h6.1, fun i q e => let ⟨c, e1, e2⟩ := h6.2 i q e; ⟨c, e1, s.tup e2⟩⟩
theorem DiskAt.obj {C : Addr} {H : Hp} {d : Addr} {n : Int} {sv : List V} {lv : List (Int × V)} (h : DiskAt C H d n sv lv) : ∀ u, H d = some u → isT u = false := by
  obtain ⟨dx, a, b, ts, h1, _⟩ := h
  intro u e
  rw [h1] at e
  cases e
  rfl
theorem ixN_nn {n j : Nat} (hj : j < n) : ixN n (j : Int) = some j := by
  unfold ixN
  rw [if_pos (Int.natCast_nonneg j), if_pos (by omega), Int.toNat_natCast]
/-! ### barrier, copy_of -/
theorem scBar : FnScope ["self", "settled", "plate", "value"] ["self"] (defScope sBar) := ⟨rfl, rfl, rfl, by decide +kernel, rfl, by decide +kernel, by decide +kernel⟩
theorem scCopy : FnScope ["disk", "copy"] ["disk"] (defScope sCopy) := ⟨rfl, rfl, rfl, by decide +kernel, rfl, by decide +kernel, by decide +kernel⟩
def settleV (sv : List V) (lv : List (Int × V)) : List V := lv.foldl (fun sv q => sv.set q.1.toNat q.2) sv
theorem settle_len (sv : List V) (lv : List (Int × V)) : (settleV sv lv).length = sv.length := by
  unfold settleV
  induction lv generalizing sv with
  | nil => rfl
  | cons q lv ih =>
    rw [List.foldl_cons, ih, List.length_set]
theorem settle_more {sv : List V} {lv : List (Int × V)} {i : Nat} {q : Int × V} (h : lv[i]? = some q) : settleV sv (lv.take (i + 1)) = (settleV sv (lv.take i)).set q.1.toNat q.2 := by
  unfold settleV
  rw [List.take_add_one, h, List.foldl_append]
  rfl
theorem fl_put_settled (n : Int) (s l s' : Addr) : putF "settled" (.ref s') (fl n s l) = fl n s' l := by
  rw [fl_eq, fl_eq]
  simp only [putF, if_neg n_ms, if_neg n_sm, if_neg n_ml, if_neg n_lm, if_neg n_sl, if_neg n_ls, if_pos]
section
variable {P : Program} {w : World} {K : PySem.W.Frag} {mg : Str → Option Value} {base : Heap} {C : Addr}
def InB (n : Int) (lv : List (Int × V)) : Prop := ∀ q ∈ lv, 0 ≤ q.1 ∧ q.1 < n
def spBar (C : Addr) : Sp := fun vs H Q _ => ∃ (d : Addr) (n : Int) (sv : List V) (lv : List (Int × V)), vs = [.ref d] ∧ DiskAt C H d n sv lv ∧ InB n lv ∧ n ≤ 1000 ∧
  ∀ H', Fr [d] H H' → DiskAt C H' d n (settleV sv lv) [] → Q .non H'
theorem ok_bar {f : Addr} {fd : FuncData} (F : Fun K "barrier" "Disk.barrier" sBar f fd) (T : DTxt K C) (mL : mg "list" = none) (mT : mg "tuple" = none) : FnOk P w K mg base CX0 1 f fd ["self"] (spBar C) := by
  refine F.ok scBar (fun vs H Q E h => ?_) (fun cdv A outer s H vs Q E hr h => ?_)
  · obtain ⟨d, n, sv, lv, rfl, _⟩ := h
    rfl
  · obtain ⟨d, n, sv, lv, rfl, D, hB, hn, k⟩ := h
    obtain ⟨dx, a, b, ts, e1, e2, e3, e4, e5, e6⟩ := id D
    refine ⟨_, pss_cons (ps_set (i := 1) scBar.nd rfl (.inl rfl) (pe_callTy call_list_of (by rfl) mL (by decide +kernel) (pa_cons (pe_fld (pv 0) rfl) pa_nil)))
      (pss_cons (ps_for PassesOwn.never rfl (pi_tup (pe_fld (pv 0) rfl)) (pg_tup rfl (pgs_cons (pg_name (i := 2) scBar.nd rfl (.inl rfl)) (pgs_cons (pg_name (i := 3) scBar.nd rfl (.inl rfl)) pgs_nil)))
        (pss_one (ps_asg (pv 3) (pg_sub (pv 1) (pv 2) set_list))))
      (pss_cons (ps_fld (pv 0) (pe_callTy call_tuple_of (by rfl) mT boot_tuple (pa_cons (pv 1) pa_nil)) rfl)
      (pss_one (ps_fld (pv 0) (pe_tup pa_nil) rfl)))), ?_⟩
    refine ⟨_, rfl, d, C, dx, _, _, rfl, e1, T.cl, T.nS, fl_settled _ _ _, a, sv, rfl, .inr (SqT.of e2), fun l hl => ?_⟩
    have f1 : Fr [d] H (upd H l (.lst sv)) := .new hl
    refine ⟨_, rfl, d, C, dx, _, _, rfl, same_upd hl _ _ e1, T.cl, T.nL, fl_loose _ _ _, b, rfl, ⟨_, SqT.of (f1.tup e5)⟩, for_tup (K := K) (a := b) (xs := ts)
      (fun i σ H' => ∃ y2 y3, σ = [some (.ref d), some (.ref l), y2, y3] ∧ Same H H' ∧ H' l = some (.lst (settleV sv (lv.take i)))) ⟨none, none, rfl, same_upd hl, upd_same⟩ (fun i σ H' _ z => by obtain ⟨_, _, _, z, _⟩ := z; exact SqT.of (z _ _ e5)) ?_ ?_⟩
    · rintro i x σ H' hi ⟨y2, y3, rfl, s, el⟩
      have hil : i < lv.length := by
        rw [← e6.1]
        exact (List.getElem?_eq_some_iff.mp hi).1
      obtain ⟨c, z1, z2⟩ := e6.2 i _ (List.getElem?_eq_getElem hil)
      have ex : x = .ref c := Option.some.inj (hi.symm.trans z1)
      subst ex
      obtain ⟨b1, b2⟩ := hB _ (List.getElem_mem hil)
      have hj : lv[i].1.toNat < (settleV sv (lv.take i)).length := by rw [settle_len, e3]; omega
      have ei : ixN (settleV sv (lv.take i)).length lv[i].1 = some lv[i].1.toNat := by
        have := ixN_nn hj
        rw [Int.toNat_of_nonneg b1] at this
        exact this
      refine ⟨c, _, rfl, SqT.of (s _ _ z2), rfl, _, _, rfl, _, _, rfl, rfl, _, rfl, _, rfl, _, rfl, l, _, _, _, rfl, rfl, el, ei, _, _, rfl, fun q o e => ?_, ?_⟩
      · rw [upd_ne (ne_of_none e hl)]
        exact s _ _ e
      · rw [upd_same, settle_more (List.getElem?_eq_getElem hil)]
    · rintro σ H' ⟨y2, y3, rfl, s, el⟩
      rw [e6.1, List.take_length] at el
      refine ⟨_, rfl, l, _, rfl, .inl ⟨SqL.of el, fun t ht => ?_⟩⟩
      have s1 := s.trans (same_upd (o := .tup (settleV sv lv)) ht)
      refine ⟨_, rfl, d, C, dx, _, rfl, s1 _ _ e1, T.cl, T.nS, fl_len _ _ _, ?_⟩
      rw [fl_put_settled]
      refine ⟨Nat.zero_le _, fun u hu => ?_⟩
      have ntd : t ≠ d := fun z => by rw [z, s _ _ e1] at ht; cases ht
      have nud : u ≠ d := fun z => by rw [z, upd_same] at hu; cases hu
      have nut : u ≠ t := fun z => by rw [z, upd_ne ntd, upd_same] at hu; cases hu
      refine ⟨_, rfl, d, C, dx, _, rfl, by rw [upd_ne nud.symm, upd_same], T.cl, T.nL, fl_len _ _ _, ?_⟩
      rw [fl_put_loose]
      refine k _ (fun q o e z => ?_) ⟨dx, t, u, [], upd_same, ?_, by rw [settle_len]; exact e3, e4, ?_, rfl, fun i q z => by simp at z⟩
      · have nqd : q ≠ d := fun y => by
          subst y
          rw [e1] at e
          cases e
          rcases z with z | z
          · exact z (by simp)
          · cases z
        have hu0 : H' u = none := by rw [upd_ne nud, upd_ne nut] at hu; exact hu
        rw [upd_ne nqd, upd_ne (ne_of_none (s _ _ e) hu0), upd_ne nqd]
        exact s1 _ _ e
      · rw [upd_ne ntd, upd_ne nut.symm, upd_ne ntd, upd_same]
      · rw [upd_ne nud, upd_same]
def spCopy (C : Addr) : Sp := fun vs H Q _ => ∃ (d : Addr) (n : Int) (sv : List V) (lv : List (Int × V)), vs = [.ref d] ∧ DiskAt C H d n sv lv ∧ 2 ≤ n ∧ n ≤ 1000 ∧
  ∀ x H', Same H H' → H x = none → DiskAt C H' x n sv lv → Q (.ref x) H'
theorem ok_copy {f fI : Addr} {fd fdI : FuncData} (F : Fun K "copy_of" "copy_of" sCopy f fd) (T : DTxt K C) (MI : Mk K C fI) (GI : FnOk P w K mg base CX0 1 fI fdI ["self", "many"] (spInit C)) (mgC : mg "Disk" = some (.ref C)) (bI : Binds K fdI ["self", "many"] []) :
    FnOk P w K mg base CX0 3 f fd ["disk"] (spCopy C) := by
  refine F.ok scCopy (fun vs H Q E h => ?_) (fun cdv A outer s H vs Q E hr h => ?_)
  · obtain ⟨d, n, sv, lv, rfl, _⟩ := h
    rfl
  · obtain ⟨d, n, sv, lv, rfl, D, h2, hn, k⟩ := h
    obtain ⟨dx, a, b, ts, e1, e2, e3, e4, e5, e6⟩ := id D
    refine ⟨_, pss_cons (ps_set (i := 1) scCopy.nd rfl (.inl rfl) (pe_make MI GI hr rfl mgC bI .nil pass0 (pa_cons (pe_fld (pv 0) rfl) pa_nil)))
      (pss_cons (ps_fld (pv 1) (pe_fld (pv 0) rfl) rfl)
      (pss_cons (ps_fld (pv 1) (pe_fld (pv 0) rfl) rfl)
      (pss_one (ps_ret (pv 1))))), ?_⟩
    refine ⟨_, rfl, d, C, dx, _, _, rfl, e1, T.cl, T.nM, fl_many _ _ _, fun x xx hx hxx hne => ?_⟩
    have sd : Same H (upd (upd H xx (.own x)) x (.ins C xx [])) := fun b o z => by
      rw [upd_ne (ne_of_none z hx), upd_ne (ne_of_none z hxx)]
      exact z
    refine ⟨x, xx, n, rfl, upd_same, h2, hn, fun H1 e s1 he0 he1 D1 => ⟨rfl, ?_⟩⟩
    have b1 : Same H H1 := fun b o z => s1.at (sd _ _ z) (by simp only [List.mem_cons, List.not_mem_nil, or_false]; exact ne_of_none z hx)
    obtain ⟨dx', a', b', ts', x1, x2, x3, x4, x5, x6⟩ := D1
    have nxd : d ≠ x := ne_of_none e1 hx
    refine ⟨_, rfl, d, C, dx, _, _, rfl, b1 _ _ e1, T.cl, T.nS, fl_settled _ _ _, _, rfl, x, C, dx', _, rfl, x1, T.cl, T.nS, fl_len _ _ _, ?_⟩
    rw [fl_put_settled]
    refine ⟨_, rfl, d, C, dx, _, _, rfl, by rw [upd_ne nxd]; exact b1 _ _ e1, T.cl, T.nL, fl_loose _ _ _, _, rfl, x, C, dx', _, rfl, upd_same, T.cl, T.nL, fl_len _ _ _, ?_⟩
    rw [fl_put_loose]
    have s2 : Same H (upd (upd H1 x (.ins C dx' (fl n a b'))) x (.ins C dx' (fl n a b))) := fun q o z => by
      rw [upd_ne (ne_of_none z hx), upd_ne (ne_of_none z hx)]
      exact b1 _ _ z
    exact ⟨_, rfl, k x _ s2 hx ⟨dx', a, b, ts, upd_same, s2 _ _ e2, e3, e4, s2 _ _ e5, e6.same s2⟩⟩
end
end Pf

set_option Elab.async false
set_option linter.all false
set_option maxRecDepth 100000
set_option maxHeartbeats 4000000
namespace Pf
open PySem PySem.Spec PyProof.Rows L2
def lateV (lv : List (Int × V)) (p : Int) : List V := (lv.filter fun q => decide (q.1 = p)).map (·.2)
def versV (sv : List V) (lv : List (Int × V)) (p : Int) : List V := if (lateV lv p).length = 0 then [sv.getD p.toNat .non] else sv.getD p.toNat .non :: (lateV lv p ++ [.non])
theorem late_more {lv : List (Int × V)} {p : Int} {i : Nat} {q : Int × V} (h : lv[i]? = some q) : lateV (lv.take (i + 1)) p = lateV (lv.take i) p ++ (if q.1 = p then [q.2] else []) := by
  unfold lateV
  rw [List.take_add_one, h, List.filter_append, List.map_append]
  by_cases c : q.1 = p <;> simp [c]
theorem late_len (lv : List (Int × V)) (p : Int) (i : Nat) : (lateV (lv.take i) p).length ≤ lv.length := by
  unfold lateV
  rw [List.length_map]
  refine Nat.le_trans (List.length_filter_le _ _) ?_
  rw [List.length_take]
  omega
theorem late_len' (lv : List (Int × V)) (p : Int) : (lateV lv p).length ≤ lv.length := by
  unfold lateV
  rw [List.length_map]
  exact List.length_filter_le _ _
section
variable {P : Program} {w : World} {K : PySem.W.Frag} {mg : Str → Option Value} {base : Heap} {C : Addr}
def spVers (C : Addr) : Sp := fun vs H Q _ => ∃ (d : Addr) (n p : Int) (sv : List V) (lv : List (Int × V)), vs = [.ref d, .int p] ∧ DiskAt C H d n sv lv ∧ 0 ≤ p ∧ p < n ∧ lv.length ≤ 900 ∧
  ∀ t H', Same H H' → H t = none → H' t = some (.tup (versV sv lv p)) → Q (.ref t) H'
end
end Pf

set_option Elab.async false
set_option linter.all false
set_option maxRecDepth 100000
set_option maxHeartbeats 4000000
namespace Pf
open PySem PySem.Spec PyProof.Rows L2
def loI (L : Nat) : Int := if 0 < L then -1 else 0
def chooseB (lv : List (Int × V)) (p m : Int) : Bool := decide (loI (lateV lv p).length ≤ m) && decide (m ≤ ((lateV lv p).length : Nat))
def chV (cs : List (Int × Int)) : List (Key × V) := cs.map fun c => (Sum.inl c.1, V.int c.2)
def pickV (xs : List V) (m : Int) : V := (atI xs m).getD .non
def fallV (sv : List V) (lv : List (Int × V)) (cs : List (Int × Int)) : List V := cs.foldl (fun s c => s.set c.1.toNat (pickV (versV sv lv c.1) c.2)) sv
theorem fall_len (sv : List V) (lv : List (Int × V)) (cs : List (Int × Int)) : (fallV sv lv cs).length = sv.length := by
  unfold fallV
  suffices h : ∀ s : List V, (cs.foldl (fun s c => s.set c.1.toNat (pickV (versV sv lv c.1) c.2)) s).length = s.length from h sv
  induction cs with
  | nil => intro s; rfl
  | cons q cs ih =>
    intro s
    rw [List.foldl_cons, ih, List.length_set]
theorem fall_more {sv : List V} {lv : List (Int × V)} {cs : List (Int × Int)} {i : Nat} {c : Int × Int} (h : cs[i]? = some c) : fallV sv lv (cs.take (i + 1)) = (fallV sv lv (cs.take i)).set c.1.toNat (pickV (versV sv lv c.1) c.2) := by
  unfold fallV
  rw [List.take_add_one, h, List.foldl_append]
  rfl
theorem ch_get : ∀ {cs : List (Int × Int)} {i : Nat} {c : Int × Int}, (cs.map (·.1)).Nodup → cs[i]? = some c → valV (chV cs) (Sum.inl c.1) = some (.int c.2)
  | [], i, c, _, h => by simp at h
  | x :: cs, 0, c, _, h => by
    cases (Option.some.inj h)
    simp [chV, valV]
  | x :: cs, i + 1, c, hn, h => by
    have hn' : x.1 ∉ cs.map (·.1) ∧ (cs.map (·.1)).Nodup := List.nodup_cons.mp hn
    have h' : cs[i]? = some c := h
    have ih := ch_get hn'.2 h'
    have hne : ¬ x.1 = c.1 := fun e => hn'.1 (by rw [e]; exact List.mem_map.mpr ⟨c, List.mem_of_getElem? h', rfl⟩)
    unfold valV chV
    rw [List.map_cons, List.find?_cons_of_neg]
    · exact ih
    · intro z
      exact hne (by have := of_decide_eq_true z; injection this)
theorem lock_back {H H1 : Hp} {c : Addr} {u f : HO} (h : H c = some u) (s : Same (upd H c f) H1) : Same H (upd H1 c u) := fun b o e => by
  by_cases hb : b = c
  · subst hb
    rw [upd_same]
    rw [h] at e
    exact e
  · rw [upd_ne hb]
    exact s b o (by rw [upd_ne hb]; exact e)
theorem vers_len (sv : List V) (lv : List (Int × V)) (p : Int) : (versV sv lv p).length = if (lateV lv p).length = 0 then 1 else (lateV lv p).length + 2 := by
  unfold versV
  split
  · rfl
  · simp
theorem choose_at {sv : List V} {lv : List (Int × V)} {p m : Int} (h : chooseB lv p m = true) : atI (versV sv lv p) m = some (pickV (versV sv lv p) m) := by
  have h' : (decide (loI (lateV lv p).length ≤ m) && decide (m ≤ ((lateV lv p).length : Nat))) = true := h
  rw [Bool.and_eq_true] at h'
  have h1 := of_decide_eq_true h'.1
  have h2 := of_decide_eq_true h'.2
  have hl := vers_len sv lv p
  have hx : ∃ v, atI (versV sv lv p) m = some v := by
    unfold atI ixN
    by_cases h0 : (lateV lv p).length = 0
    · rw [if_pos h0] at hl
      have : loI (lateV lv p).length = 0 := by unfold loI; rw [h0]; rfl
      have hm : m = 0 := by omega
      subst hm
      rw [if_pos (Int.le_refl _), if_pos (by rw [hl]; omega)]
      exact ⟨(versV sv lv p)[0]'(by omega), by show (versV sv lv p)[(0 : Int).toNat]? = _; exact List.getElem?_eq_getElem (by show 0 < _; omega)⟩
    · rw [if_neg h0] at hl
      have : loI (lateV lv p).length = -1 := by unfold loI; rw [if_pos (by omega)]
      by_cases hm : 0 ≤ m
      · rw [if_pos hm, if_pos (by rw [hl]; omega)]
        exact ⟨(versV sv lv p)[m.toNat]'(by omega), by show (versV sv lv p)[m.toNat]? = _; exact List.getElem?_eq_getElem (by omega)⟩
      · have hm1 : m = -1 := by omega
        subst hm1
        rw [if_neg hm, if_pos (by rw [hl]; omega)]
        exact ⟨(versV sv lv p)[((-1 : Int) + ((versV sv lv p).length : Nat)).toNat]'(by omega), by show (versV sv lv p)[((-1 : Int) + ((versV sv lv p).length : Nat)).toNat]? = _; exact List.getElem?_eq_getElem (by omega)⟩
  obtain ⟨v, hv⟩ := hx
  unfold pickV
  rw [hv]
  rfl
section
variable {P : Program} {w : World} {K : PySem.W.Frag} {mg : Str → Option Value} {base : Heap} {C : Addr}
def spCan (C : Addr) : Sp := fun vs H Q _ => ∃ (d : Addr) (n p m : Int) (sv : List V) (lv : List (Int × V)), vs = [.ref d, .int p, .int m] ∧ DiskAt C H d n sv lv ∧ 0 ≤ p ∧ p < n ∧ lv.length ≤ 900 ∧
  ∀ H', Same H H' → Q (.bl (chooseB lv p m)) H'
def spFallen (C : Addr) : Sp := fun vs H Q _ => ∃ (d ch : Addr) (n : Int) (sv : List V) (lv : List (Int × V)) (cs : List (Int × Int)), vs = [.ref d, .ref ch] ∧ DiskAt C H d n sv lv ∧ H ch = some (.dK (chV cs)) ∧ (cs.map (·.1)).Nodup ∧
  (∀ c ∈ cs, 0 ≤ c.1 ∧ c.1 < n ∧ chooseB lv c.1 c.2 = true) ∧ lv.length ≤ 900 ∧ 2 ≤ n ∧ n ≤ 1000 ∧ ∀ x H', Same H H' → H x = none → DiskAt C H' x n (fallV sv lv cs) [] → Q (.ref x) H'
end
end Pf

set_option Elab.async false
set_option linter.all false
set_option maxRecDepth 100000
set_option maxHeartbeats 4000000
namespace Pf
open PySem PySem.Spec PyProof.Rows L2
/-! ### dicts from whole numbers to cells -/
abbrev Tr := Int × V × List Int
def tk (ts : List Tr) : List (Key × V) := ts.map fun t => (Sum.inl t.1, t.2.1)
def tc (ts : List Tr) : List Ch := ts.map fun t => (t.1, t.2.2)
def putT (ts : List Tr) (k : Int) (v : V) (l : List Int) : List Tr := if (ts.any fun t => decide (t.1 = k)) = true then ts.map (fun t => if t.1 = k then (t.1, v, l) else t) else ts ++ [(k, v, l)]
def putC (cs : List Ch) (k : Int) (l : List Int) : List Ch := if (cs.any fun t => decide (t.1 = k)) = true then cs.map (fun t => if t.1 = k then (t.1, l) else t) else cs ++ [(k, l)]
theorem putT_tk (ts : List Tr) (k : Int) (v : V) (l : List Int) : tk (putT ts k v l) = putK (tk ts) (Sum.inl k) v := by
  have e : ((tk ts).any fun kv => decide (kv.1 = Sum.inl k)) = (ts.any fun t => decide (t.1 = k)) := by
    unfold tk
    rw [List.any_map]
    congr 1
    funext t
    simp
  unfold putT putK
  rw [e]
  split
  · unfold tk
    rw [List.map_map, List.map_map]
    apply List.map_congr_left
    intro t _
    by_cases c : t.1 = k <;> simp [c]
  · simp [tk]
theorem putT_tc (ts : List Tr) (k : Int) (v : V) (l : List Int) : tc (putT ts k v l) = putC (tc ts) k l := by
  have e : ((tc ts).any fun kv => decide (kv.1 = k)) = (ts.any fun t => decide (t.1 = k)) := by
    unfold tc
    rw [List.any_map]
    rfl
  unfold putT putC
  rw [e]
  split
  · unfold tc
    rw [List.map_map, List.map_map]
    apply List.map_congr_left
    intro t _
    by_cases c : t.1 = k <;> simp [c]
  · simp [tc]
theorem putT_all {Pr : Tr → Prop} {ts : List Tr} {k : Int} {v : V} {l : List Int} (h : ∀ t ∈ ts, Pr t) (q : Pr (k, v, l)) : ∀ t ∈ putT ts k v l, Pr t := by
  intro t ht
  unfold putT at ht
  split at ht
  · obtain ⟨t', h1, h2⟩ := List.mem_map.mp ht
    by_cases c : t'.1 = k
    · rw [if_pos c, c] at h2
      rw [← h2]
      exact q
    · rw [if_neg c] at h2
      rw [← h2]
      exact h _ h1
  · rcases List.mem_append.mp ht with z | z
    · exact h _ z
    · rw [List.mem_singleton.mp z]
      exact q
theorem putC_keys (cs : List Ch) (k : Int) (l : List Int) : (putC cs k l).map (·.1) = if (cs.any fun t => decide (t.1 = k)) = true then cs.map (·.1) else cs.map (·.1) ++ [k] := by
  unfold putC
  split
  · rw [List.map_map]
    apply List.map_congr_left
    intro t _
    by_cases c : t.1 = k <;> simp [c]
  · simp
theorem putC_nodup {cs : List Ch} {k : Int} {l : List Int} (h : (cs.map (·.1)).Nodup) : ((putC cs k l).map (·.1)).Nodup := by
  rw [putC_keys]
  split
  · exact h
  · rename_i c
    rw [List.nodup_append]
    refine ⟨h, by simp, ?_⟩
    intro a ha b hb e
    rw [List.mem_singleton] at hb
    subst hb
    subst e
    apply c
    obtain ⟨t, h1, h2⟩ := List.mem_map.mp ha
    exact List.any_eq_true.mpr ⟨t, h1, decide_eq_true h2⟩
theorem putC_len (cs : List Ch) (k : Int) (l : List Int) : (putC cs k l).length ≤ cs.length + 1 := by
  unfold putC
  split <;> simp
theorem putC_all {Pr : Ch → Prop} {cs : List Ch} {k : Int} {l : List Int} (h : ∀ t ∈ cs, Pr t) (q : Pr (k, l)) : ∀ t ∈ putC cs k l, Pr t := by
  intro t ht
  unfold putC at ht
  split at ht
  · obtain ⟨t', h1, h2⟩ := List.mem_map.mp ht
    by_cases c : t'.1 = k
    · rw [if_pos c, c] at h2
      rw [← h2]
      exact q
    · rw [if_neg c] at h2
      rw [← h2]
      exact h _ h1
  · rcases List.mem_append.mp ht with z | z
    · exact h _ z
    · rw [List.mem_singleton.mp z]
      exact q
/-- a key's value -/
theorem tk_get : ∀ {ts : List Tr} {t : Tr}, (ts.map (·.1)).Nodup → t ∈ ts → valV (tk ts) (Sum.inl t.1) = some t.2.1
  | x :: ts, t, hn, h => by
    have hn' : x.1 ∉ ts.map (·.1) ∧ (ts.map (·.1)).Nodup := List.nodup_cons.mp hn
    rcases List.mem_cons.mp h with z | z
    · subst z
      exact valV_pos rfl
    · have hne : ¬ x.1 = t.1 := fun e => hn'.1 (by rw [e]; exact List.mem_map.mpr ⟨t, z, rfl⟩)
      show valV ((Sum.inl x.1, x.2.1) :: tk ts) (Sum.inl t.1) = _
      rw [valV_neg (fun e => hne (by injection e))]
      exact tk_get hn'.2 z
theorem tc_keys (ts : List Tr) : (tc ts).map (·.1) = ts.map (·.1) := by
  unfold tc
  rw [List.map_map]
  rfl
theorem tk_keys (ts : List Tr) : (tk ts).map (·.1) = (ts.map (·.1)).map Sum.inl := by
  unfold tk
  rw [List.map_map, List.map_map]
  rfl
/-- the pairs in the order of their keys -/
def insC (c : Ch) : List Ch → List Ch
  | [] => [c]
  | x :: r => if c.1 ≤ x.1 then c :: x :: r else x :: insC c r
def sortC : List Ch → List Ch
  | [] => []
  | c :: r => insC c (sortC r)
theorem insC_perm (c : Ch) : ∀ r, (insC c r).Perm (c :: r)
  | [] => .refl _
  | x :: r => by
    unfold insC
    split
    · exact .refl _
    · exact ((insC_perm c r).cons x).trans (.swap c x r)
theorem sortC_perm : ∀ r, (sortC r).Perm r
  | [] => .refl _
  | c :: r => (insC_perm c (sortC r)).trans ((sortC_perm r).cons c)
theorem insC_sorted (c : Ch) : ∀ r : List Ch, r.Pairwise (fun a b => a.1 ≤ b.1) → (insC c r).Pairwise (fun a b => a.1 ≤ b.1)
  | [], _ => by simp [insC]
  | x :: r, h => by
    unfold insC
    have h' := List.pairwise_cons.mp h
    split
    · rename_i hle
      refine List.pairwise_cons.mpr ⟨?_, h⟩
      intro y hy
      rcases List.mem_cons.mp hy with z | z
      · rw [z]; exact hle
      · exact Int.le_trans hle (h'.1 _ z)
    · rename_i hle
      refine List.pairwise_cons.mpr ⟨?_, insC_sorted c r h'.2⟩
      intro y hy
      rcases List.mem_cons.mp ((insC_perm c r).subset hy) with z | z
      · rw [z]; omega
      · exact h'.1 _ z
theorem sortC_sorted : ∀ r : List Ch, (sortC r).Pairwise (fun a b => a.1 ≤ b.1)
  | [] => .nil
  | c :: r => insC_sorted c _ (sortC_sorted r)
theorem sorted_keys {ys : List Int} {cs : List Ch} (h1 : ys.Perm (cs.map (·.1))) (h2 : ys.Pairwise (· ≤ ·)) : ys = (sortC cs).map (·.1) := by
  refine List.Perm.eq_of_pairwise (le := (· ≤ ·)) (fun a b _ _ x y => Int.le_antisymm x y) h2 ?_ (h1.trans ((sortC_perm cs).map _).symm)
  exact List.pairwise_map.mpr (sortC_sorted cs)
/-- of a sorted key: its entry -/
theorem sort_mem {ts : List Tr} {c : Ch} (h : c ∈ sortC (tc ts)) : ∃ t ∈ ts, t.1 = c.1 ∧ t.2.2 = c.2 := by
  obtain ⟨t, h1, h2⟩ := List.mem_map.mp ((sortC_perm _).subset h)
  exact ⟨t, h1, by rw [← h2], by rw [← h2]⟩
theorem scHomeP : FnScope ["slots", "plate"] ["slots", "plate"] (defScope sHomeP) := ⟨rfl, rfl, rfl, by decide +kernel, rfl, by decide +kernel, by decide +kernel⟩
theorem scPod : FnScope ["plates", "slots"] ["plates", "slots"] (defScope sPod) := ⟨rfl, rfl, rfl, by decide +kernel, rfl, by decide +kernel, by decide +kernel⟩
theorem scChk : FnScope ["plates", "changes", "plate"] ["plates", "changes"] (defScope sChk) := ⟨rfl, rfl, rfl, by decide +kernel, rfl, by decide +kernel, by decide +kernel⟩
section
variable {P : Program} {w : World} {K : PySem.W.Frag} {mg : Str → Option Value} {base : Heap} {C : Addr}
def spHomeP : Sp := fun vs H Q _ => ∃ S p : Int, vs = [.int S, .int p] ∧ Q (.int (2 + S + p)) H
theorem ok_homeP {f : Addr} {fd : FuncData} (F : Fun K "home_plate" "home_plate" sHomeP f fd) {th : Tok} (mH : mg "HEAD_PLATES" = some (.int 2 th)) : FnOk P w K mg base CX0 1 f fd ["slots", "plate"] spHomeP := by
  refine F.ok scHomeP (fun vs H Q E h => ?_) (fun cdv A outer s H vs Q E hr h => ?_)
  · obtain ⟨S, p, rfl, _⟩ := h
    rfl
  · obtain ⟨S, p, rfl, q⟩ := h
    exact ⟨_, pss_one (ps_ret (pe_op op_add (pe_op op_add (pe_glob (v := .int 2) rfl mH ⟨_, rfl⟩) (pv 0)) (pv 1))), _, rfl, _, _, rfl, rfl, _, rfl, _, _, rfl, rfl, q⟩
def spPod : Sp := fun vs H Q _ => ∃ n S : Int, vs = [.int n, .int S] ∧ Q (.int (2 + S + n)) H
theorem ok_pod {f fH : Addr} {fd fdH : FuncData} (F : Fun K "plates_of_disk" "plates_of_disk" sPod f fd) (GH : FnOk P w K mg base CX0 1 fH fdH ["slots", "plate"] spHomeP) (kH : PySem.W.keepIn K (.ref fH) = true) (gH : mg "home_plate" = some (.ref fH)) (bH : Binds K fdH ["slots", "plate"] []) : FnOk P w K mg base CX0 2 f fd ["plates", "slots"] spPod := by
  refine F.ok scPod (fun vs H Q E h => ?_) (fun cdv A outer s H vs Q E hr h => ?_)
  · obtain ⟨S, p, rfl, _⟩ := h
    rfl
  · obtain ⟨n, S, rfl, q⟩ := h
    exact ⟨_, pss_one (ps_ret (pe_call GH hr rfl gH kH bH .nil pass0 (pa_cons (pv 1) (pa_cons (pv 0) pa_nil)))), _, rfl, _, rfl, S, n, rfl, q⟩
/-! ### checked_changes -/
def spChk (K : PySem.W.Frag) : Sp := fun vs H Q _ => ∃ (n : Int) (c : Addr) (ts : List Tr), vs = [.int n, .ref c] ∧ H c = some (.dK (tk ts)) ∧ (∀ t ∈ ts, Dp K (Tp H) t.2.1 (rowD t.2.2) ∧ t.2.2.length = 8 ∧ 0 ≤ t.1 ∧ t.1 < n) ∧ (ts.map (·.1)).Nodup ∧ ts.length < 64 ∧
  ∀ v H', Same H H' → Dp K (Tp H') v (chD (sortC (tc ts))) → Q v H'
theorem tp_same {H H' : Hp} (s : Same H H') : Same (Tp H) (Tp H') := (Fr.of (cs := []) s).tp
theorem tp_put {H : Hp} {c : Addr} {o : HO} (ht : ∀ u, H c = some u → isT u = false) : Same (Tp H) (Tp (upd H c o)) := (Fr.put (cs := [c]) (by simp) ht).tp
theorem tk_at {ts : List Tr} {i : Nat} {k0 : Key} {v0 : V} (h : (tk ts)[i]? = some (k0, v0)) : ∃ t ∈ ts, k0 = Sum.inl t.1 ∧ v0 = t.2.1 := by
  unfold tk at h
  rw [List.getElem?_map] at h
  cases e : ts[i]? with
  | none => rw [e] at h; cases h
  | some t =>
    rw [e] at h
    have h' : (Sum.inl t.1, t.2.1) = (k0, v0) := Option.some.inj h
    cases h'
    exact ⟨t, List.mem_of_getElem? e, rfl, rfl⟩
theorem row_cells {ns : List Int} (h : ns.length = 8) : cellsB (rowD ns) = true := by
  show (decide ((ns.map PyData.int).length = 8) && (ns.map PyData.int).all isI) = true
  rw [allI_map, List.length_map, h]
  rfl
theorem ok_chk {f fW fC : Addr} {fd fdW fdC : FuncData} (F : Fun K "checked_changes" "checked_changes" sChk f fd) (GW : FnOk P w K mg base CX0 1 fW fdW ["thing", "low", "high"] (spWhole K)) (kW : PySem.W.keepIn K (.ref fW) = true) (gW : mg "is_whole" = some (.ref fW)) (b3 : Binds K fdW ["thing", "low", "high"] [])
    (GC : FnOk P w K mg base CX0 2 fC fdC ["value"] (spCells K)) (kC : PySem.W.keepIn K (.ref fC) = true) (gC : mg "is_cells" = some (.ref fC)) (bC : Binds K fdC ["value"] []) (mS : mg "sorted" = none) (mT : mg "tuple" = none) :
    FnOk P w K mg base CX0 3 f fd ["plates", "changes"] (spChk K) := by
  refine F.ok scChk (fun vs H Q E h => ?_) (fun cdv A outer s H vs Q E hr h => ?_)
  · obtain ⟨n, c, ts, rfl, _⟩ := h
    rfl
  · obtain ⟨n, c, ts, rfl, hc, hts, hnd, h64, k⟩ := h
    refine ⟨_, pss_cons (ps_lock (ps_for PassesOwn.never rfl (pi_keys (pv 1)) (pg_name (i := 2) scChk.nd rfl (.inl rfl))
        (pss_one (ps_if (pt_not (pt_val (pe_call GW (hr.mono (by decide)) rfl gW kW b3 .nil pass0 (pa_cons (pv 2) (pa_cons pe_int (pa_cons (pe_op op_sub (pv 0) pe_int) pa_nil)))))) (pss_one ps_never) pss_nil))))
      (pss_cons (ps_for PassesOwn.never rfl (pi_list (pe_callB (call_sortedDI rfl) (by rfl) mS (by decide +kernel) (pa_cons (pv 1) pa_nil))) (pg_name (i := 2) scChk.nd rfl (.inl rfl))
        (pss_one (ps_if (pt_not (pt_val (pe_call GC hr rfl gC kC bC .nil pass0 (pa_cons (pe_dget (hu_of hr) (pv 1) (pv 2) (fun _ _ => rfl)) pa_nil)))) (pss_one ps_never) pss_nil)))
      (pss_one (ps_ret (pe_callTy call_tuple_of (by rfl) mT boot_tuple (pa_cons
        (pe_lc (own := [("plate", 2)]) (g := gName 2) (tt := tYes) (te := tTup (tCons (tVar 2) (tCons (tDGet (tVar 1) (tVar 2)) tNil))) rfl scChk.nd (pi_list (pe_callB (call_sortedDI rfl) (by rfl) mS (by decide +kernel) (pa_cons (pv 1) pa_nil))) (blkOk_by (N := ["plates", "changes", "plate"]) (sc := defScope sChk) (by decide +kernel))
          (fun _ _ _ _ _ => pg_name (i := 2) scChk.nd rfl (.inl rfl)) (fun _ _ _ _ _ => pts_nil)
          (fun _ _ _ _ _ => pe_tup (pa_cons (pv 2) (pa_cons (pe_dget (hu_of hr) (pv 1) (pv 2) (fun _ _ => rfl)) pa_nil)))) pa_nil))))), ?_⟩
    refine ⟨c, _, hc, trivial, fun od => ?_⟩
    refine ⟨_, rfl, c, od, rfl, .inl ⟨_, upd_same, for_it (walk_keys (d := c) (o := od) (kvs := tk ts)) (fun i σ H' => ∃ y2, σ = [some (.int n), some (.ref c), y2] ∧ Same (upd H c (.frz od (.dK (tk ts)))) H')
      ⟨none, rfl, Same.refl _⟩ (fun i σ H' _ z => by obtain ⟨_, _, z⟩ := z; exact z _ _ upd_same) ?_ ?_⟩⟩
    · rintro i x σ H1 H2 hi ⟨y2, rfl, s⟩ ⟨rfl, k0, v0, hkv, rfl⟩
      obtain ⟨t, ht, rfl, rfl⟩ := tk_at hkv
      obtain ⟨_, _, t0, t1⟩ := hts t ht
      refine ⟨_, rfl, _, rfl, _, _, rfl, rfl, .int t.1, .int t.1, some 0, some (n - 1), rfl, .int _, _, rfl, ?_⟩
      have e : wholeB (.int t.1) (some 0) (some (n - 1)) = true := by
        show (decide (0 ≤ t.1) && decide (t.1 ≤ n - 1)) = true
        rw [decide_eq_true t0, decide_eq_true (by omega)]
        rfl
      rw [e]
      exact iteF ⟨_, rfl, s⟩
    · rintro σ H1 ⟨y2, rfl, s⟩
      have s1 : Same H (upd H1 c (.dK (tk ts))) := lock_back hc s
      refine ⟨s _ _ upd_same, ?_⟩
      generalize upd H1 c (.dK (tk ts)) = Ha at s1
      have hl : (ts.map (·.1)).length < 64 := by rw [List.length_map]; exact h64
      refine ⟨_, rfl, c, tk ts, ts.map (·.1), rfl, .inl (s1 _ _ hc), tk_keys ts, hl, fun ys p hperm hpw hp => ?_⟩
      have eys : ys = (sortC (tc ts)).map (·.1) := sorted_keys (by rw [tc_keys]; exact hperm) hpw
      subst eys
      have s2 := s1.trans (same_upd (o := .lst (((sortC (tc ts)).map (·.1)).map V.int)) hp)
      refine ⟨p, rfl, ⟨_, SqL.of upd_same⟩, for_list (K := K) (a := p) (xs := ((sortC (tc ts)).map (·.1)).map V.int) (fun i σ H' => ∃ y2, σ = [some (.int n), some (.ref c), y2] ∧ Same (upd Ha p (.lst (((sortC (tc ts)).map (·.1)).map V.int))) H')
        ⟨_, rfl, Same.refl _⟩ (fun i σ H' _ z => by obtain ⟨_, _, z⟩ := z; exact SqL.of (z _ _ upd_same)) ?_ ?_⟩
      · rintro i x σ H' hi ⟨y2, rfl, s3⟩
        rw [List.map_map, List.getElem?_map] at hi
        cases ei : (sortC (tc ts))[i]? with
        | none => rw [ei] at hi; cases hi
        | some q =>
          rw [ei] at hi
          have hx : V.int q.1 = x := Option.some.inj hi
          subst hx
          obtain ⟨t, ht, t1, t2⟩ := sort_mem (List.mem_of_getElem? ei)
          obtain ⟨g1, g2, _, _⟩ := hts t ht
          have s4 := s2.trans s3
          have hv := tk_get hnd ht
          rw [t1] at hv
          refine ⟨_, rfl, _, rfl, c, t.2.1, rfl, .inl ⟨tk ts, Sum.inl q.1, .inl (s4 _ _ hc), rfl, hv.symm⟩, t.2.1, _, rfl, dp_same (tp_le.trans s4) _ _ g1, fun H5 s5 => ⟨_, rfl, ?_⟩⟩
          rw [row_cells g2]
          exact iteF ⟨_, rfl, s3.trans s5⟩
      · rintro σ H3 ⟨y2, rfl, s3⟩
        have s4 := s2.trans s3
        refine ⟨_, rfl, c, tk ts, ts.map (·.1), rfl, .inl (s4 _ _ hc), tk_keys ts, hl, fun ys p2 hperm hpw hp2 => ?_⟩
        have eys : ys = (sortC (tc ts)).map (·.1) := sorted_keys (by rw [tc_keys]; exact hperm) hpw
        subst eys
        have s5 := s4.trans (same_upd (o := .lst (((sortC (tc ts)).map (·.1)).map V.int)) hp2)
        refine ⟨p2, rfl, ⟨_, SqL.of upd_same⟩, fun D hD => lc_list (K := K) (a := p2) (xs := ((sortC (tc ts)).map (·.1)).map V.int)
          (fun i H' => Same (upd H3 p2 (.lst (((sortC (tc ts)).map (·.1)).map V.int))) H' ∧ ∃ us, H' D = some (.lst us) ∧ us.length = i ∧ DpAll K (Tp H') us (((sortC (tc ts)).take i).map pD)) ⟨same_upd hD, [], upd_same, rfl, .nil⟩ (fun i H' _ z => SqL.of (z.1 _ _ upd_same)) ?_ ?_⟩
        · rintro i x H' hi ⟨s6, us, eD, hul, hus⟩
          rw [List.map_map, List.getElem?_map] at hi
          cases ei : (sortC (tc ts))[i]? with
          | none => rw [ei] at hi; cases hi
          | some q =>
            rw [ei] at hi
            have hx : V.int q.1 = x := Option.some.inj hi
            subst hx
            obtain ⟨t, ht, t1, t2⟩ := sort_mem (List.mem_of_getElem? ei)
            obtain ⟨g1, g2, _, _⟩ := hts t ht
            have s7 := s5.trans s6
            have hv := tk_get hnd ht
            rw [t1] at hv
            refine ⟨rfl, tyes_go ?_⟩
            refine ⟨_, rfl, _, rfl, _, rfl, c, t.2.1, rfl, .inl ⟨tk ts, Sum.inl q.1, .inl (s7 _ _ hc), rfl, hv.symm⟩, (by show 2 ≤ sizeLine; decide), fun u hu => ?_⟩
            have nDu : D ≠ u := ne_of_none eD hu
            have hil : i < 64 := by
              have h1 := (List.getElem?_eq_some_iff.mp ei).1
              rw [(sortC_perm _).length_eq] at h1
              unfold tc at h1
              rw [List.length_map] at h1
              omega
            refine ⟨us, by rw [upd_ne nDu]; exact eD, (by rw [hul]; exact small1000 (by omega)), fun b o e => ?_, us ++ [.ref u], upd_same, by rw [List.length_append, hul]; rfl, ?_⟩
            · rw [upd_ne (ne_of_none e hD)]
              exact (s6.trans (same_upd hu)) _ _ e
            · have k1 : Same (Tp H') (Tp (upd (upd H' u (.tup [.int q.1, t.2.1])) D (.lst (us ++ [.ref u])))) := (tp_same (same_upd hu)).trans (tp_put (fun o e => by rw [upd_ne nDu, eD] at e; cases e; rfl))
              rw [List.take_add_one, ei, List.map_append]
              refine dps_app (dps_same k1 _ _ hus) (.cons (.tup (SqT.of (xs := [.int q.1, t.2.1]) (tp_at (by rw [upd_ne nDu.symm, upd_same]) rfl)) (.cons (.int _) (.cons ?_ .nil))) .nil)
              have := dp_same ((tp_same s7).trans k1) _ _ g1
              rw [t2] at this
              exact this
        · rintro H7 ⟨s6, us, eD, hul, hus⟩
          have hL : (((sortC (tc ts)).map (·.1)).map V.int).length = (sortC (tc ts)).length := by rw [List.length_map, List.length_map]
          rw [hL, List.take_length] at hus
          refine ⟨D, us, rfl, .inl ⟨SqL.of eD, fun t ht => k _ _ ((s5.trans s6).trans (same_upd ht)) ?_⟩⟩
          exact .tup (SqT.of (tp_at upd_same rfl)) (dps_same (tp_same (same_upd ht)) _ _ hus)
end
end Pf

set_option Elab.async false
set_option linter.all false
set_option maxRecDepth 100000
set_option maxHeartbeats 4000000
namespace Pf
open PySem PySem.Spec PyProof.Rows L2
/-! ### slots_of, over a tuple -/
section
variable {P : Program} {w : World} {K : PySem.W.Frag} {mg : Str → Option Value} {base : Heap} {C : Addr}
theorem sum_slots : ∀ zs : List Gr, (zs.map fun z => ((z.2.2.length : Nat) : Int)).sum = ((slotsN zs : Nat) : Int)
  | [] => rfl
  | z :: zs => by
    have ih := sum_slots zs
    unfold slotsN at ih ⊢
    rw [List.map_cons, List.sum_cons, ih, List.map_cons, List.sum_cons]
    omega
def gsD (zs : List Gr) : PyData := .tuple (zs.map gD)
def spSlotsT (K : PySem.W.Frag) : Sp := fun vs H Q _ => ∃ (v : V) (zs : List Gr), vs = [v] ∧ Dp K (Tp H) v (gsD zs) ∧ zs.length ≤ 1000 ∧ ∀ H', Same H H' → Q (.int (slotsN zs : Nat)) H'
theorem ok_slotsT {f : Addr} {fd : FuncData} (F : Fun K "slots_of" "slots_of" sSlotsOf f fd) (ml : mg "len" = none) (ms : mg "sum" = none) : FnOk P w K mg base CX0 1 f fd ["groups"] (spSlotsT K) := by
  refine F.ok scSlotsOf (fun vs H Q E h => ?_) (fun cdv A outer s H vs Q E hr h => ?_)
  · obtain ⟨v, zs, rfl, _⟩ := h
    rfl
  · obtain ⟨v, zs, rfl, hd, hz, k⟩ := h
    have hd' : Dp K (Tp H) v (.tuple (zs.map gD)) := hd
    cases hd' with
    | @tup a xs _ hs ha =>
    have hs := same_seqT tp_le hs
    have ha := dps_same tp_le _ _ ha
    have hl : xs.length = zs.length := by rw [dps_len ha, List.length_map]
    refine ⟨_, pss_one (ps_ret (pe_callB (cr_sum rfl) (by rfl) ms (by decide +kernel) (pa_cons
        (pe_lc (own := [("number", 1), ("slot", 2), ("changes", 3)]) (g := gTup K 3 (gCons (gName 1) (gCons (gName 2) (gCons (gName 3) gNil)))) (tt := tYes) (te := tCB (rLenS K) (tCons (tVar 3) tNil)) rfl scSlotsOf.nd (pi_tup (pv 0))
          (blkOk_by (N := ["groups", "number", "slot", "changes"]) (sc := defScope sSlotsOf) (by decide +kernel))
          (fun _ _ _ _ _ => pg_tup rfl (pgs_cons (pg_name (i := 1) scSlotsOf.nd rfl (.inl rfl)) (pgs_cons (pg_name (i := 2) scSlotsOf.nd rfl (.inl rfl)) (pgs_cons (pg_name (i := 3) scSlotsOf.nd rfl (.inl rfl)) pgs_nil)))) (fun _ _ _ _ _ => pts_nil)
          (fun _ _ _ _ _ => pe_callB call_len_seq (by rfl) ml boot_len (pa_cons (pv 3) pa_nil))) pa_nil))), ?_⟩
    refine ⟨_, rfl, a, rfl, ⟨_, hs⟩, fun D hD => lc_tup (K := K) (a := a) (xs := xs) (fun i H' => Same H H' ∧ H' D = some (.lst ((zs.take i).map fun z => V.int (z.2.2.length : Nat)))) ⟨same_upd hD, upd_same⟩ (fun i H' _ p => same_seqT p.1 hs) ?_ ?_⟩
    · rintro i x H' hi ⟨s1, e1⟩
      obtain ⟨d', hd', hp⟩ := dps_get ha hi
      rw [List.getElem?_map] at hd'
      have hil : i < zs.length := by
        have := (List.getElem?_eq_some_iff.mp hi).1
        omega
      rw [List.getElem?_eq_getElem hil] at hd'
      cases (Option.some.inj hd')
      obtain ⟨a1, x3, rfl, q1, q2⟩ := gD_read hp
      obtain ⟨a2, ys, rfl, q3, q4, _⟩ := ch_read q2
      refine ⟨a1, _, rfl, same_seqT s1 q1, rfl, _, _, rfl, _, _, rfl, _, _, rfl, rfl, rfl, tyes_go ?_⟩
      refine ⟨_, rfl, a2, ys, rfl, .inr (same_seqT s1 q3), _, e1, ?_, ?_, ?_⟩
      · rw [List.length_map, List.length_take]
        exact small1000 (by omega)
      · exact fun b o e => by
          rw [upd_ne (ne_of_none e hD)]
          exact s1 _ _ e
      · rw [upd_same, List.take_add_one, List.getElem?_eq_getElem hil, List.map_append, q4]
        rfl
    · rintro H' ⟨s1, e1⟩
      rw [hl, List.take_length] at e1
      refine ⟨D, zs.map fun z => ((z.2.2.length : Nat) : Int), rfl, SqL.of (by rw [e1, List.map_map]; rfl), ?_⟩
      have e := sum_slots zs
      rw [e]
      exact k _ s1
/-! ### last_changes -/
theorem scLc : FnScope ["groups", "plates", "last", "number", "slot", "changes", "plate", "cells"] ["groups", "plates"] (defScope sLc) := ⟨rfl, rfl, rfl, by decide +kernel, rfl, by decide +kernel, by decide +kernel⟩
def inC (n : Int) (cs : List Ch) (xs : List Ch) : List Ch := xs.foldl (fun cs c => if c.1 < n then putC cs c.1 c.2 else cs) cs
def lastC (n : Int) (zs : List Gr) : List Ch := zs.foldl (fun cs z => inC n cs z.2.2) []
theorem inC_more {n : Int} {cs xs : List Ch} {i : Nat} {c : Ch} (h : xs[i]? = some c) : inC n cs (xs.take (i + 1)) = if c.1 < n then putC (inC n cs (xs.take i)) c.1 c.2 else inC n cs (xs.take i) := by
  unfold inC
  rw [List.take_add_one, h, List.foldl_append]
  rfl
theorem lastC_more {n : Int} {zs : List Gr} {i : Nat} {z : Gr} (h : zs[i]? = some z) : lastC n (zs.take (i + 1)) = inC n (lastC n (zs.take i)) z.2.2 := by
  unfold lastC
  rw [List.take_add_one, h, List.foldl_append]
  rfl
theorem inC_nodup (n : Int) : ∀ (xs cs : List Ch), (cs.map (·.1)).Nodup → ((inC n cs xs).map (·.1)).Nodup
  | [], cs, h => h
  | c :: xs, cs, h => by
    show ((inC n (if c.1 < n then putC cs c.1 c.2 else cs) xs).map (·.1)).Nodup
    split
    · exact inC_nodup n xs _ (putC_nodup h)
    · exact inC_nodup n xs _ h
theorem inC_len (n : Int) : ∀ (xs cs : List Ch), (inC n cs xs).length ≤ cs.length + xs.length
  | [], cs => Nat.le_refl _
  | c :: xs, cs => by
    show (inC n (if c.1 < n then putC cs c.1 c.2 else cs) xs).length ≤ cs.length + (xs.length + 1)
    have h1 := putC_len cs c.1 c.2
    split
    · have := inC_len n xs (putC cs c.1 c.2)
      omega
    · have := inC_len n xs cs
      omega
theorem slots_take (zs : List Gr) (i : Nat) : slotsN (zs.take i) ≤ slotsN zs := by
  have h := slotsN_app (zs.take i) (zs.drop i)
  rw [List.take_append_drop] at h
  omega
theorem lastC_ok (n : Int) (zs : List Gr) : ∀ i, ((lastC n (zs.take i)).map (·.1)).Nodup ∧ (lastC n (zs.take i)).length ≤ slotsN (zs.take i)
  | 0 => ⟨by simp [lastC], by simp [lastC]⟩
  | i + 1 => by
    obtain ⟨h1, h2⟩ := lastC_ok n zs i
    cases e : zs[i]? with
    | none =>
      have : zs.take (i + 1) = zs.take i := by rw [List.take_add_one, e]; simp
      rw [this]
      exact ⟨h1, h2⟩
    | some z =>
      rw [lastC_more e]
      refine ⟨inC_nodup n _ _ h1, ?_⟩
      have h3 := inC_len n z.2.2 (lastC n (zs.take i))
      have h4 : slotsN (zs.take (i + 1)) = slotsN (zs.take i) + z.2.2.length := by
        rw [List.take_add_one, e, slotsN_app]
        show _ = _
        simp [slotsN]
      omega
theorem slots_mem {zs : List Gr} {i : Nat} {z : Gr} (h : zs[i]? = some z) : z.2.2.length ≤ slotsN zs := by
  have h4 : slotsN (zs.take (i + 1)) = slotsN (zs.take i) + z.2.2.length := by
    rw [List.take_add_one, h, slotsN_app]
    simp [slotsN]
  have := slots_take zs (i + 1)
  omega
def spLc (K : PySem.W.Frag) : Sp := fun vs H Q _ => ∃ (v : V) (zs : List Gr) (n : Int), vs = [v, .int n] ∧ Dp K (Tp H) v (gsD zs) ∧ slotsN zs < 64 ∧
  ∀ p us H', Same H H' → H p = none → H' p = some (.lst us) → DpAll K (Tp H') us ((sortC (lastC n zs)).map pD) → Q (.ref p) H'
theorem ok_lc {f : Addr} {fd : FuncData} (F : Fun K "last_changes" "last_changes" sLc f fd) (mS : mg "sorted" = none) : FnOk P w K mg base CX0 1 f fd ["groups", "plates"] (spLc K) := by
  refine F.ok scLc (fun vs H Q E h => ?_) (fun cdv A outer s H vs Q E hr h => ?_)
  · obtain ⟨v, zs, n, rfl, _⟩ := h
    rfl
  · obtain ⟨v, zs, n, rfl, hd, hz, k⟩ := h
    have nd := scLc.nd
    refine ⟨_, pss_cons (ps_set (i := 2) nd rfl (.inr rfl) pe_dnewK)
      (pss_cons (ps_for PassesOwn.never rfl (pi_tup (pv 0)) (pg_tup rfl (pgs_cons (pg_name (i := 3) nd rfl (.inl rfl)) (pgs_cons (pg_name (i := 4) nd rfl (.inl rfl)) (pgs_cons (pg_name (i := 5) nd rfl (.inl rfl)) pgs_nil))))
        (pss_one (ps_for PassesOwn.never rfl (pi_tup (pv 5)) (pg_tup rfl (pgs_cons (pg_name (i := 6) nd rfl (.inl rfl)) (pgs_cons (pg_name (i := 7) nd rfl (.inl rfl)) pgs_nil)))
          (pss_one (ps_if (pt_cmpR op_lt (pv 6) (pv 1) (nomark _)) (pss_one (ps_dput (hu_of hr) (pv 2) (pv 6) (pv 7) rfl)) pss_nil)))))
      (pss_one (ps_ret (pe_lc (own := [("plate", 6)]) (g := gName 6) (tt := tYes) (te := tTup (tCons (tVar 6) (tCons (tDGet (tVar 2) (tVar 6)) tNil))) rfl nd (pi_list (pe_callB (call_sortedDI rfl) (by rfl) mS (by decide +kernel) (pa_cons (pv 2) pa_nil)))
          (blkOk_by (N := ["groups", "plates", "last", "number", "slot", "changes", "plate", "cells"]) (sc := defScope sLc) (by decide +kernel))
          (fun _ _ _ _ _ => pg_name (i := 6) nd rfl (.inl rfl)) (fun _ _ _ _ _ => pts_nil)
          (fun _ _ _ _ _ => pe_tup (pa_cons (pv 6) (pa_cons (pe_dget (hu_of hr) (pv 2) (pv 6) (fun _ _ => rfl)) pa_nil))))))), ?_⟩
    have hd' : Dp K (Tp H) v (.tuple (zs.map gD)) := hd
    cases hd' with
    | @tup a xs _ hs ha =>
    have hs' := same_seqT tp_le hs
    have hl : xs.length = zs.length := by rw [dps_len ha, List.length_map]
    intro c hc
    have sc := same_upd (o := .dK []) hc
    refine ⟨_, rfl, a, rfl, ⟨_, same_seqT sc hs'⟩, for_tup (K := K) (a := a) (xs := xs) (fun i σ H' => ∃ ts y3 y4 y5 y6 y7, σ = [some (.ref a), some (.int n), some (.ref c), y3, y4, y5, y6, y7] ∧ Same H H' ∧ H' c = some (.dK (tk ts)) ∧ tc ts = lastC n (zs.take i) ∧ ∀ t ∈ ts, Dp K (Tp H) t.2.1 (rowD t.2.2))
      ⟨[], none, none, none, none, none, rfl, sc, upd_same, rfl, fun _ h => by simp at h⟩ (fun i σ H' _ z => by obtain ⟨_, _, _, _, _, _, _, z, _⟩ := z; exact same_seqT z hs') ?_ ?_⟩
    · rintro i x σ H' hi ⟨ts, y3, y4, y5, y6, y7, rfl, s1, ec, et, ht⟩
      obtain ⟨d', hd', hp⟩ := dps_get ha hi
      rw [List.getElem?_map] at hd'
      have hil : i < zs.length := by
        have := (List.getElem?_eq_some_iff.mp hi).1
        omega
      have ez := List.getElem?_eq_getElem hil
      rw [ez] at hd'
      cases (Option.some.inj hd')
      obtain ⟨a1, x3, rfl, q1, q2⟩ := gD_read hp
      obtain ⟨a2, ys, rfl, q3, q4, q5⟩ := ch_read q2
      have hzl := slots_mem ez
      have hlz := lastC_ok n zs i
      have hst := slots_take zs i
      refine ⟨a1, _, rfl, same_seqT (tp_le.trans s1) q1, rfl, _, _, rfl, _, _, rfl, _, _, rfl, rfl, _, rfl, a2, rfl, ⟨_, same_seqT (tp_le.trans s1) q3⟩, for_tup (K := K) (a := a2) (xs := ys)
        (fun j σ H' => ∃ ts y3 y4 y5 y6 y7, σ = [some (.ref a), some (.int n), some (.ref c), y3, y4, y5, y6, y7] ∧ Same H H' ∧ H' c = some (.dK (tk ts)) ∧ tc ts = inC n (lastC n (zs.take i)) (zs[i].2.2.take j) ∧ ∀ t ∈ ts, Dp K (Tp H) t.2.1 (rowD t.2.2))
        ⟨ts, _, _, _, _, _, rfl, s1, ec, et, ht⟩ (fun i σ H' _ z => by obtain ⟨_, _, _, _, _, _, _, z, _⟩ := z; exact same_seqT (tp_le.trans z) q3) ?_ ?_⟩
      · rintro j x σ H2 hj ⟨ts, y3, y4, y5, y6, y7, rfl, s2, ec, et, ht⟩
        obtain ⟨d2, hd2, hp2⟩ := dps_get q5 hj
        rw [List.getElem?_map] at hd2
        have hjl : j < zs[i].2.2.length := by
          have := (List.getElem?_eq_some_iff.mp hj).1
          omega
        have ej := List.getElem?_eq_getElem hjl
        rw [ej] at hd2
        cases (Option.some.inj hd2)
        obtain ⟨b1, b2, rfl, r1, r2⟩ := pD_read hp2
        refine ⟨b1, _, rfl, same_seqT (tp_le.trans s2) r1, rfl, _, _, rfl, _, _, rfl, rfl, _, rfl, _, rfl, _, _, rfl, rfl, _, rfl, ite2 (fun hcnd => ?_) (fun hcnd => ?_)⟩
        · have hlt := of_decide_eq_true hcnd
          have hil2 := inC_len n (zs[i].2.2.take j) (lastC n (zs.take i))
          have htk : (tk ts).length < 200 := by
            have e1 : (tk ts).length = (tc ts).length := by unfold tk tc; rw [List.length_map, List.length_map]
            rw [e1, et]
            rw [List.length_take] at hil2
            omega
          refine ⟨_, rfl, _, rfl, _, rfl, c, _, rfl, DPut.k (k := Sum.inl zs[i].2.2[j].1) ec (small1000 (by omega)), putT ts zs[i].2.2[j].1 (.ref b2) zs[i].2.2[j].2, _, _, _, _, _, rfl, fun b o e => ?_, ?_, ?_, ?_⟩
          · rw [upd_ne (ne_of_none e hc)]
            exact s2 _ _ e
          · rw [upd_same, putT_tk]
          · rw [putT_tc, et, inC_more ej, if_pos hlt]
          · exact putT_all ht (.tup r2 (dps_ints _))
        · have hlt : ¬ zs[i].2.2[j].1 < n := fun z => hcnd (decide_eq_true z)
          exact ⟨ts, _, _, _, _, _, rfl, s2, ec, by rw [et, inC_more ej, if_neg hlt], ht⟩
      · rintro σ H2 ⟨ts, y3, y4, y5, y6, y7, rfl, s2, ec, et, ht⟩
        refine ⟨ts, _, _, _, _, _, rfl, s2, ec, ?_, ht⟩
        rw [et, lastC_more ez, q4, List.take_length]
    · rintro σ H2 ⟨ts, y3, y4, y5, y6, y7, rfl, s2, ec, et, ht⟩
      rw [hl, List.take_length] at et
      have hok := lastC_ok n zs zs.length
      rw [List.take_length, ← et] at hok
      have hnd : (ts.map (·.1)).Nodup := by rw [← tc_keys]; exact hok.1
      have htl : ts.length < 64 := by
        have e1 : ts.length = (tc ts).length := by unfold tc; rw [List.length_map]
        omega
      refine ⟨_, rfl, c, tk ts, ts.map (·.1), rfl, .inl ec, tk_keys ts, (by rw [List.length_map]; exact htl), fun zs' p2 hperm hpw hp2 => ?_⟩
      have eys : zs' = (sortC (tc ts)).map (·.1) := sorted_keys (by rw [tc_keys]; exact hperm) hpw
      subst eys
      have s5 := s2.trans (same_upd (o := .lst (((sortC (tc ts)).map (·.1)).map V.int)) hp2)
      refine ⟨p2, rfl, ⟨_, SqL.of upd_same⟩, fun D hD => lc_list (K := K) (a := p2) (xs := ((sortC (tc ts)).map (·.1)).map V.int)
          (fun i H' => Same (upd H2 p2 (.lst (((sortC (tc ts)).map (·.1)).map V.int))) H' ∧ ∃ us, H' D = some (.lst us) ∧ us.length = i ∧ DpAll K (Tp H') us (((sortC (tc ts)).take i).map pD)) ⟨same_upd hD, [], upd_same, rfl, .nil⟩ (fun i H' _ z => SqL.of (z.1 _ _ upd_same)) ?_ ?_⟩
      · rintro i x H' hi ⟨s6, us, eD, hul, hus⟩
        rw [List.map_map, List.getElem?_map] at hi
        cases ei : (sortC (tc ts))[i]? with
        | none => rw [ei] at hi; cases hi
        | some q =>
          rw [ei] at hi
          have hx : V.int q.1 = x := Option.some.inj hi
          subst hx
          obtain ⟨t, ht2, t1, t2⟩ := sort_mem (List.mem_of_getElem? ei)
          have g1 := ht t ht2
          have s7 := s5.trans s6
          have hv := tk_get hnd ht2
          rw [t1] at hv
          refine ⟨rfl, tyes_go ?_⟩
          refine ⟨_, rfl, _, rfl, _, rfl, c, t.2.1, rfl, .inl ⟨tk ts, Sum.inl q.1, .inl (s6 _ _ (same_upd hp2 _ _ ec)), rfl, hv.symm⟩, (by show 2 ≤ sizeLine; decide), fun u hu => ?_⟩
          have nDu : D ≠ u := ne_of_none eD hu
          have hil : i < 64 := by
            have h1 := (List.getElem?_eq_some_iff.mp ei).1
            rw [(sortC_perm _).length_eq] at h1
            unfold tc at h1
            rw [List.length_map] at h1
            omega
          refine ⟨us, by rw [upd_ne nDu]; exact eD, (by rw [hul]; exact small1000 (by omega)), fun b o e => ?_, us ++ [.ref u], upd_same, by rw [List.length_append, hul]; rfl, ?_⟩
          · rw [upd_ne (ne_of_none e hD)]
            exact (s6.trans (same_upd hu)) _ _ e
          · have k1 : Same (Tp H') (Tp (upd (upd H' u (.tup [.int q.1, t.2.1])) D (.lst (us ++ [.ref u])))) := (tp_same (same_upd hu)).trans (tp_put (fun o e => by rw [upd_ne nDu, eD] at e; cases e; rfl))
            rw [List.take_add_one, ei, List.map_append]
            refine dps_app (dps_same k1 _ _ hus) (.cons (.tup (SqT.of (xs := [.int q.1, t.2.1]) (tp_at (by rw [upd_ne nDu.symm, upd_same]) rfl)) (.cons (.int _) (.cons ?_ .nil))) .nil)
            have := dp_same ((tp_same s7).trans k1) _ _ g1
            rw [t2] at this
            exact this
      · rintro H7 ⟨s6, us, eD, hul, hus⟩
        have hL : (((sortC (tc ts)).map (·.1)).map V.int).length = (sortC (tc ts)).length := by rw [List.length_map, List.length_map]
        rw [hL, List.take_length, et] at hus
        refine k D us _ (s5.trans s6) ((s5).free hD) eD hus
end
end Pf

set_option Elab.async false
set_option linter.all false
set_option maxRecDepth 100000
set_option maxHeartbeats 4000000
namespace Pf
open PySem PySem.Spec PyProof.Rows L2
theorem scRhome : FnScope ["disk", "plates", "slots", "groups", "home", "plate", "cells"] ["disk", "plates", "slots", "groups"] (defScope sRhome) := ⟨rfl, rfl, rfl, by decide +kernel, rfl, by decide +kernel, by decide +kernel⟩
def noughts : List Int := [0, 0, 0, 0, 0, 0, 0, 0]
def cellsOf (d : PyData) : List Int := if cellsB d = true then hdN d else noughts
theorem cells_row {d : PyData} (h : cellsB d = true) : d = rowD (hdN d) ∧ (hdN d).length = 8 := by
  cases d with
  | tuple ds =>
    have h' : (decide (ds.length = 8) && ds.all isI) = true := h
    rw [Bool.and_eq_true] at h'
    obtain ⟨ns, rfl⟩ := allI_of h'.2
    have e : hdN (.tuple (ns.map PyData.int)) = ns := hdN_row ns
    rw [e]
    refine ⟨rfl, ?_⟩
    have := of_decide_eq_true h'.1
    rw [List.length_map] at this
    exact this
  | _ => cases h
theorem cells_len (d : PyData) : (cellsOf d).length = 8 := by
  unfold cellsOf
  split
  · rename_i h
    exact (cells_row h).2
  · rfl
def baseC (e : Nat → PyData) (n : Nat) : List Ch := (List.range n).foldl (fun cs (i : Nat) => putC cs (i : Int) (cellsOf (e i))) []
def overC (cs xs : List Ch) : List Ch := xs.foldl (fun cs c => putC cs c.1 c.2) cs
def homeC (e : Nat → PyData) (n : Nat) (zs : List Gr) : List Ch := overC (baseC e n) (sortC (lastC n zs))
theorem baseC_more (e : Nat → PyData) (n : Nat) : baseC e (n + 1) = putC (baseC e n) (n : Int) (cellsOf (e n)) := by
  unfold baseC
  rw [List.range_succ, List.foldl_append]
  rfl
theorem baseC_len (e : Nat → PyData) : ∀ n, (baseC e n).length ≤ n
  | 0 => Nat.le_refl _
  | n + 1 => by
    rw [baseC_more]
    have h1 := putC_len (baseC e n) (n : Int) (cellsOf (e n))
    have := baseC_len e n
    omega
theorem overC_more {cs xs : List Ch} {i : Nat} {c : Ch} (h : xs[i]? = some c) : overC cs (xs.take (i + 1)) = putC (overC cs (xs.take i)) c.1 c.2 := by
  unfold overC
  rw [List.take_add_one, h, List.foldl_append]
  rfl
theorem overC_len : ∀ (xs cs : List Ch), (overC cs xs).length ≤ cs.length + xs.length
  | [], cs => Nat.le_refl _
  | c :: xs, cs => by
    show (overC (putC cs c.1 c.2) xs).length ≤ cs.length + (xs.length + 1)
    have h1 := putC_len cs c.1 c.2
    have := overC_len xs (putC cs c.1 c.2)
    omega
section
variable {P : Program} {w : World} {K : PySem.W.Frag} {mg : Str → Option Value} {base : Heap} {C : Addr}
def spRhome (K : PySem.W.Frag) (C : Addr) : Sp := fun vs H Q _ => ∃ (d : Addr) (n S : Nat) (N : Int) (sv : List V) (lv : List (Int × V)) (e : Nat → PyData) (v : V) (zs : List Gr), vs = [.ref d, .int (n : Nat), .int (S : Nat), v] ∧ DiskAt C H d N sv lv ∧
  (∀ i < n, Dp K (Tp H) (nowV sv lv (2 + (S : Int) + (i : Nat))) (e i)) ∧ 2 + (S : Int) + (n : Nat) ≤ N ∧ n ≤ 60 ∧ Dp K (Tp H) v (gsD zs) ∧ slotsN zs < 64 ∧
  ∀ p ts H', Same H H' → H p = none → H' p = some (.dK (tk ts)) → tc ts = homeC e n zs → (∀ t ∈ ts, Dp K (Tp H') t.2.1 (rowD t.2.2)) → Q (.ref p) H'
theorem ok_rhome {f fN fH fC fL aN : Addr} {fd fdN fdH fdC fdL : FuncData} (F : Fun K "read_home" "read_home" sRhome f fd) (T : DTxt K C) (GN : FnOk P w K mg base CX0 3 fN fdN ["self", "plate"] (spNow C)) (mN : Meth K C "now" fN) (bN : Binds K fdN ["self", "plate"] [])
    (GH : FnOk P w K mg base CX0 1 fH fdH ["slots", "plate"] spHomeP) (kH : PySem.W.keepIn K (.ref fH) = true) (gH : mg "home_plate" = some (.ref fH)) (bH : Binds K fdH ["slots", "plate"] [])
    (GC : FnOk P w K mg base CX0 2 fC fdC ["value"] (spCells K)) (kC : PySem.W.keepIn K (.ref fC) = true) (gC : mg "is_cells" = some (.ref fC)) (bC : Binds K fdC ["value"] [])
    (GL : FnOk P w K mg base CX0 1 fL fdL ["groups", "plates"] (spLc K)) (kL : PySem.W.keepIn K (.ref fL) = true) (gL : mg "last_changes" = some (.ref fL)) (bL : Binds K fdL ["groups", "plates"] [])
    (mr : mg "range" = none) (gN : mg "NOUGHTS" = some (.ref aN)) (hN : ∀ H, SqT K H aN (noughts.map V.int)) : FnOk P w K mg base CX0 4 f fd ["disk", "plates", "slots", "groups"] (spRhome K C) := by
  refine F.ok scRhome (fun vs H Q E h => ?_) (fun cdv A outer s H vs Q E hr h => ?_)
  · obtain ⟨d, n, S, N, sv, lv, e, v, zs, rfl, _⟩ := h
    rfl
  · obtain ⟨d, n, S, N, sv, lv, e, v, zs, rfl, D, he, hN2, hn, hd, hz, k⟩ := h
    obtain ⟨dx, pa, pb, ts0, x1, x2, x3, x4, x5, x6⟩ := id D
    have nd := scRhome.nd
    have hr1 : Room 1 _ := hr.mono (by decide)
    have hr2 : Room 2 _ := hr.mono (by decide)
    refine ⟨_, pss_cons (ps_set (i := 4) nd rfl (.inl rfl) pe_dnewK)
      (pss_cons (ps_for PassesOwn.never rfl (pi_range1 (by rfl) mr (pa_cons (pv 1) pa_nil)) (pg_name (i := 5) nd rfl (.inl rfl))
        (pss_cons (ps_set (i := 6) nd rfl (.inl rfl) (pe_meth (pv 0) T.cl mN GN hr bN .nil pass0 (pa_cons (pe_call GH hr1 rfl gH kH bH .nil pass0 (pa_cons (pv 2) (pa_cons (pv 5) pa_nil))) pa_nil)))
        (pss_one (ps_dput (hu_of hr) (pv 4) (pv 5) (pe_ifExp (pt_val (pe_call GC hr2 rfl gC kC bC .nil pass0 (pa_cons (pv 6) pa_nil))) (pv 6) (pe_glob (v := .ref aN) rfl gN rfl)) rfl))))
      (pss_cons (ps_for PassesOwn.never rfl (pi_list (pe_call GL hr1 rfl gL kL bL .nil pass0 (pa_cons (pv 3) (pa_cons (pv 1) pa_nil)))) (pg_tup rfl (pgs_cons (pg_name (i := 5) nd rfl (.inl rfl)) (pgs_cons (pg_name (i := 6) nd rfl (.inl rfl)) pgs_nil)))
        (pss_one (ps_dput (hu_of hr) (pv 4) (pv 5) (pv 6) rfl)))
      (pss_one (ps_ret (pv 4))))), ?_⟩
    intro c hc
    have sc := same_upd (o := .dK []) hc
    have tlen : ∀ ts : List Tr, (tk ts).length = (tc ts).length := fun ts => by unfold tk tc; rw [List.length_map, List.length_map]
    refine ⟨_, rfl, (n : Nat), rfl, by omega, by omega, for_range (lo := 0) (n := ((n : Nat) : Int).toNat) (fun i σ H' => ∃ ts y5 y6, σ = [some (.ref d), some (.int (n : Nat)), some (.int (S : Nat)), some v, some (.ref c), y5, y6] ∧ Same H H' ∧ H' c = some (.dK (tk ts)) ∧ tc ts = baseC e i ∧ ∀ t ∈ ts, Dp K (Tp H) t.2.1 (rowD t.2.2))
      ⟨[], none, none, rfl, sc, upd_same, rfl, fun _ h => by simp at h⟩ ?_ ?_⟩
    · rintro i σ H' hi ⟨ts, y5, y6, rfl, s1, ec, et, ht⟩
      have hin : i < n := by omega
      have hdi := he i hin
      refine ⟨_, rfl, d, dx, _, rfl, s1 _ _ x1, fl_no _ _ _ (by decide +kernel) (by decide +kernel) (by decide +kernel), _, rfl, _, rfl, (S : Nat), 0 + (i : Int), rfl, d, N, _, sv, lv, rfl, D.same s1, by omega, by omega, ?_⟩
      have ep : (2 + (S : Int) + (0 + (i : Int))) = 2 + (S : Int) + (i : Nat) := by omega
      rw [ep]
      generalize nowV sv lv (2 + (S : Int) + (i : Nat)) = v1 at hdi
      refine ⟨_, rfl, v1, e i, rfl, dp_same (tp_le.trans s1) _ _ hdi, fun H2 s2 => ⟨_, rfl, ?_⟩⟩
      have s12 := s1.trans s2
      have hlen := baseC_len e i
      have step : ∀ u : V, Dp K (Tp H) u (rowD (cellsOf (e i))) → ∃ v_1, ([some (V.ref d), some (V.int (n : Nat)), some (V.int (S : Nat)), some v, some (V.ref c), some (V.int (0 + (i : Int))), some v1] : L2.St)[4]? = some (some v_1) ∧
          ∃ v_2, ([some (V.ref d), some (V.int (n : Nat)), some (V.int (S : Nat)), some v, some (V.ref c), some (V.int (0 + (i : Int))), some v1] : L2.St)[5]? = some (some v_2) ∧ ∃ a H4, v_1 = .ref a ∧ DPut H2 a v_2 u H4 ∧
            ∃ ts y5 y6, ([some (V.ref d), some (V.int (n : Nat)), some (V.int (S : Nat)), some v, some (V.ref c), some (V.int (0 + (i : Int))), some v1] : L2.St) = [some (.ref d), some (.int (n : Nat)), some (.int (S : Nat)), some v, some (.ref c), y5, y6] ∧ Same H H4 ∧ H4 c = some (.dK (tk ts)) ∧ tc ts = baseC e (i + 1) ∧ ∀ t ∈ ts, Dp K (Tp H) t.2.1 (rowD t.2.2) := fun u hu => by
        refine ⟨_, rfl, _, rfl, c, _, rfl, DPut.k (k := Sum.inl (0 + (i : Int))) (s2 _ _ ec) (small1000 (by rw [tlen, et]; omega)), putT ts (0 + (i : Int)) u (cellsOf (e i)), _, _, rfl, fun b o z => ?_, ?_, ?_, ?_⟩
        · rw [upd_ne (ne_of_none z hc)]
          exact s12 _ _ z
        · rw [upd_same, putT_tk]
        · rw [putT_tc, et, baseC_more, Int.zero_add]
        · exact putT_all ht hu
      cases hb : cellsB (e i) with
      | true =>
        obtain ⟨g1, g2⟩ := cells_row hb
        have ec8 : cellsOf (e i) = hdN (e i) := if_pos hb
        exact iteT ⟨_, rfl, step v1 (by rw [ec8, ← g1]; exact hdi)⟩
      | false =>
        have ec8 : cellsOf (e i) = noughts := if_neg (by rw [hb]; decide)
        exact iteF (step (.ref aN) (by rw [ec8]; exact .tup (hN _) (dps_ints _)))
    · rintro σ H1 ⟨ts, y5, y6, rfl, s1, ec, et, ht⟩
      have et : tc ts = baseC e n := et
      refine ⟨_, rfl, _, rfl, v, zs, (n : Nat), rfl, dp_same (tp_same s1) _ _ hd, hz, fun p us H2 s2 hp ep dU => ?_⟩
      have hbl := baseC_len e n
      have hok := lastC_ok n zs zs.length
      rw [List.take_length] at hok
      have hsl : (sortC (lastC n zs)).length ≤ 64 := by rw [(sortC_perm _).length_eq]; omega
      have npc : p ≠ c := fun z => by rw [z, ec] at hp; cases hp
      refine ⟨p, rfl, ⟨_, SqL.of ep⟩, for_list (K := K) (a := p) (xs := us) (fun i σ H' => ∃ ts y5 y6, σ = [some (.ref d), some (.int (n : Nat)), some (.int (S : Nat)), some v, some (.ref c), y5, y6] ∧ Fr [c] H2 H' ∧ H' c = some (.dK (tk ts)) ∧ tc ts = overC (baseC e n) ((sortC (lastC n zs)).take i) ∧ ∀ t ∈ ts, Dp K (Tp H2) t.2.1 (rowD t.2.2))
        ⟨ts, _, _, rfl, .of (Same.refl _), s2 _ _ ec, et, fun t h => dp_same (tp_same (s1.trans s2)) _ _ (ht t h)⟩ (fun i σ H' _ z => by obtain ⟨_, _, _, _, z, _⟩ := z; exact SqL.of (z.at ep (by simp [npc]))) ?_ ?_⟩
      · rintro i x σ H' hi ⟨ts, y5, y6, rfl, fr, ec, et, ht⟩
        obtain ⟨d2, hd2, hp2⟩ := dps_get dU hi
        rw [List.getElem?_map] at hd2
        cases ei : (sortC (lastC n zs))[i]? with
        | none => rw [ei] at hd2; cases hd2
        | some q =>
          rw [ei] at hd2
          have ed : pD q = d2 := Option.some.inj hd2
          subst ed
          obtain ⟨b1, b2, rfl, r1, r2⟩ := pD_read hp2
          have hol := overC_len ((sortC (lastC n zs)).take i) (baseC e n)
          rw [List.length_take] at hol
          refine ⟨b1, _, rfl, same_seqT (fr.tp.trans tp_le) r1, rfl, _, _, rfl, _, _, rfl, rfl, _, rfl, _, rfl, _, rfl, c, _, rfl, DPut.k (k := Sum.inl q.1) ec (small1000 (by rw [tlen, et]; omega)), putT ts q.1 (.ref b2) q.2, _, _, rfl, ?_, ?_, ?_, ?_⟩
          · exact fr.trans (.put (by simp) (fun u z => by rw [ec] at z; cases z; rfl))
          · rw [upd_same, putT_tk]
          · rw [putT_tc, et, overC_more ei]
          · exact putT_all ht (.tup r2 (dps_ints _))
      · rintro σ H' ⟨ts, y5, y6, rfl, fr, ec, et, ht⟩
        have hul : us.length = (sortC (lastC n zs)).length := by rw [dps_len dU, List.length_map]
        rw [hul, List.take_length] at et
        have hcH2 : H c = none := hc
        refine ⟨_, rfl, k c ts H' (fun b o z => fr.at ((s1.trans s2) _ _ z) (by simp [ne_of_none z hc])) hc ec et (fun t h => dp_same fr.tp _ _ (ht t h))⟩
end
end Pf

set_option Elab.async false
set_option linter.all false
set_option maxRecDepth 100000
set_option maxHeartbeats 4000000
namespace Pf
open PySem PySem.Spec PyProof.Rows L2
/-! ### an instance's attributes, by their places -/
theorem zip_get : ∀ {ns : List Str} {vs : List V} {i : Nat} {x : Str} {v : V}, ns.Nodup → ns[i]? = some x → vs[i]? = some v → (ns.zip vs).lookup x = some v
  | [], _, _, _, _, _, h, _ => by simp at h
  | n :: ns, [], _, _, _, _, _, h => by simp at h
  | n :: ns, u :: vs, 0, x, v, _, h1, h2 => by
    have e1 : n = x := Option.some.inj h1
    have e2 : u = v := Option.some.inj h2
    subst e1
    subst e2
    show List.lookup n ((n, u) :: ns.zip vs) = some u
    have e : (n == n) = true := beq_self_eq_true n
    simp only [List.lookup, e]
  | n :: ns, u :: vs, i + 1, x, v, hn, h1, h2 => by
    have hn' := List.nodup_cons.mp hn
    have h1' : ns[i]? = some x := h1
    have hne : (x == n) = false := by
      have : x ≠ n := fun e => hn'.1 (e ▸ List.mem_of_getElem? h1')
      simpa using this
    show List.lookup x ((n, u) :: ns.zip vs) = some v
    simp only [List.lookup, hne]
    exact zip_get hn'.2 h1' h2
theorem zip_put : ∀ {ns : List Str} {vs : List V} {i : Nat} {x : Str} {v : V}, ns.Nodup → ns[i]? = some x → i < vs.length → putF x v (ns.zip vs) = ns.zip (vs.set i v)
  | [], _, _, _, _, _, h, _ => by simp at h
  | n :: ns, [], _, _, _, _, _, h => by simp at h
  | n :: ns, u :: vs, 0, x, v, _, h1, _ => by
    cases (Option.some.inj h1)
    exact if_pos rfl
  | n :: ns, u :: vs, i + 1, x, v, hn, h1, h2 => by
    have hn' := List.nodup_cons.mp hn
    have h1' : ns[i]? = some x := h1
    have hne : ¬ n = x := fun e => hn'.1 (e ▸ List.mem_of_getElem? h1')
    show putF x v ((n, u) :: ns.zip vs) = (n, u) :: ns.zip (vs.set i v)
    rw [← zip_put hn'.2 h1' (Nat.lt_of_succ_lt_succ h2)]
    exact if_neg hne
theorem zip_no : ∀ {ns : List Str} {vs : List V} {x : Str}, x ∉ ns → (ns.zip vs).lookup x = none
  | [], _, _, _ => rfl
  | n :: ns, [], _, _ => rfl
  | n :: ns, u :: vs, x, h => by
    have hne : (x == n) = false := by
      have : x ≠ n := fun e => h (e ▸ List.mem_cons_self)
      simpa using this
    show List.lookup x ((n, u) :: ns.zip vs) = none
    simp only [List.lookup, hne]
    exact zip_no (fun z => h (List.mem_cons_of_mem _ z))
def SN : List Str := ["plates", "slots", "begin", "trace", "deeds", "settled_deeds", "groups", "pushed", "_disk", "_home", "_running", "_head_number", "_next_group", "_next_slot"]
theorem sn_nodup : SN.Nodup := by decide +kernel
/-! ### the model of a store -/
structure MD where
  bg : V
  n : Nat
  S : Nat
  evs : List PyData
  de : Int
  se : Int
  zs : List Gr
  ps : List (Int × Int)
  ds : List PyData
  ls : List (Int × PyData)
  hm : List Ch
  rn : List Ch
  hn : Int
  ng : Int
  ns : Nat
def psD (q : Int × Int) : PyData := .tuple [.int q.1, .int q.2]
def wrD (p : Int) (e : PyData) : PyData := .tuple [.str "write", .int p, e]
def barD : PyData := .tuple [.str "barrier"]
def mvals (m : MD) (beg tr gv qv : V) (d h r : Addr) : List V := [.int (m.n : Nat), .int (m.S : Nat), m.bg, tr, .int m.de, .int m.se, gv, qv, .ref d, .ref h, .ref r, .int m.hn, .int m.ng, .int (m.ns : Nat)]
def LvD (K : PySem.W.Frag) (G : Hp) (lv : List (Int × V)) (ls : List (Int × PyData)) : Prop := lv.map (·.1) = ls.map (·.1) ∧ DpAll K G (lv.map (·.2)) (ls.map (·.2))
def DcAt (K : PySem.W.Frag) (H : Hp) (h : Addr) (cs : List Ch) : Prop := ∃ ts : List Tr, H h = some (.dK (tk ts)) ∧ tc ts = cs ∧ ∀ t ∈ ts, Dp K (Tp H) t.2.1 (rowD t.2.2)
def DkAt (K : PySem.W.Frag) (CD : Addr) (H : Hp) (d : Addr) (ds : List PyData) (ls : List (Int × PyData)) : Prop := ∃ sv lv, DiskAt CD H d (ds.length : Nat) sv lv ∧ DpAll K (Tp H) sv ds ∧ LvD K (Tp H) lv ls
structure StAt (K : PySem.W.Frag) (CS CD : Addr) (H : Hp) (st d h r : Addr) (m : MD) : Prop where
  ex : ∃ dx beg tr gv qv, H st = some (.ins CS dx (SN.zip (mvals m beg tr gv qv d h r))) ∧ Dp K (Tp H) tr (.tuple m.evs) ∧ Dp K (Tp H) gv (gsD m.zs) ∧ Dp K (Tp H) qv (.tuple (m.ps.map psD))
  dk : DkAt K CD H d m.ds m.ls
  hd : DcAt K H h m.hm
  rd : DcAt K H r m.rn
  hr : h ≠ r
theorem DcAt.fr {K : PySem.W.Frag} {H H' : Hp} {h : Addr} {cs : List Ch} {xs : List Addr} (A : DcAt K H h cs) (f : Fr xs H H') (n : h ∉ xs) : DcAt K H' h cs := by
  obtain ⟨ts, e, et, ht⟩ := A
  exact ⟨ts, f.at e n, et, fun t z => dp_same f.tp _ _ (ht t z)⟩
theorem LvD.same {K : PySem.W.Frag} {H H' : Hp} {lv : List (Int × V)} {ls : List (Int × PyData)} (A : LvD K H lv ls) (s : Same H H') : LvD K H' lv ls := ⟨A.1, dps_same s _ _ A.2⟩
theorem DkAt.fr {K : PySem.W.Frag} {CD : Addr} {H H' : Hp} {d : Addr} {ds : List PyData} {ls : List (Int × PyData)} {xs : List Addr} (A : DkAt K CD H d ds ls) (f : Fr xs H H') (n : d ∉ xs) : DkAt K CD H' d ds ls := by
  obtain ⟨sv, lv, D, h1, h2⟩ := A
  exact ⟨sv, lv, D.fr f n, dps_same f.tp _ _ h1, h2.same f.tp⟩
theorem StAt.ne {K : PySem.W.Frag} {CS CD : Addr} {H : Hp} {st d h r : Addr} {m : MD} (A : StAt K CS CD H st d h r m) (hC : CS ≠ CD) : st ≠ d ∧ h ≠ st ∧ r ≠ st ∧ h ≠ d ∧ r ≠ d := by
  obtain ⟨dx, beg, tr, gv, qv, e1, _⟩ := A.ex
  obtain ⟨sv, lv, ⟨dx2, a, b, ts, e2, _⟩, _⟩ := A.dk
  obtain ⟨ts3, e3, _⟩ := A.hd
  obtain ⟨ts4, e4, _⟩ := A.rd
  refine ⟨fun z => ?_, fun z => ?_, fun z => ?_, fun z => ?_, fun z => ?_⟩
  · rw [z, e2] at e1
    injection e1 with e1
    injection e1 with e1
    exact hC e1.symm
  · rw [z, e1] at e3; cases e3
  · rw [z, e1] at e4; cases e4
  · rw [z, e2] at e3; cases e3
  · rw [z, e2] at e4; cases e4
theorem StAt.fr {K : PySem.W.Frag} {CS CD : Addr} {H H' : Hp} {st d h r : Addr} {m : MD} {xs : List Addr} (A : StAt K CS CD H st d h r m) (f : Fr xs H H') (n1 : st ∉ xs) (n2 : d ∉ xs) (n3 : h ∉ xs) (n4 : r ∉ xs) : StAt K CS CD H' st d h r m := by
  obtain ⟨dx, beg, tr, gv, qv, e1, e2, e3, e4⟩ := A.ex
  exact ⟨⟨dx, beg, tr, gv, qv, f.at e1 n1, dp_same f.tp _ _ e2, dp_same f.tp _ _ e3, dp_same f.tp _ _ e4⟩, A.dk.fr f n2, A.hd.fr f n3, A.rd.fr f n4, A.hr⟩
/-- the disk's change -/
theorem StAt.disk {K : PySem.W.Frag} {CS CD : Addr} {H H' : Hp} {st d h r : Addr} {m : MD} {ds : List PyData} {ls : List (Int × PyData)} (A : StAt K CS CD H st d h r m) (hC : CS ≠ CD) (f : Fr [d] H H') (D : DkAt K CD H' d ds ls) : StAt K CS CD H' st d h r { m with ds := ds, ls := ls } := by
  obtain ⟨n1, n2, n3, n4, n5⟩ := A.ne hC
  obtain ⟨dx, beg, tr, gv, qv, e1, e2, e3, e4⟩ := A.ex
  exact ⟨⟨dx, beg, tr, gv, qv, f.at e1 (by simp [n1]), dp_same f.tp _ _ e2, dp_same f.tp _ _ e3, dp_same f.tp _ _ e4⟩, D, A.hd.fr f (by simp [n4]), A.rd.fr f (by simp [n5]), A.hr⟩
/-- the instance's change -/
theorem StAt.inst {K : PySem.W.Frag} {CS CD : Addr} {H : Hp} {st d h r : Addr} {m : MD} {dx : Addr} {fs : List (Str × V)} (A : StAt K CS CD H st d h r m) (hC : CS ≠ CD) (m' : MD) (beg tr gv qv : V) (e : fs = SN.zip (mvals m' beg tr gv qv d h r)) (h1 : Dp K (Tp H) tr (.tuple m'.evs)) (h2 : Dp K (Tp H) gv (gsD m'.zs)) (h3 : Dp K (Tp H) qv (.tuple (m'.ps.map psD)))
    (q1 : m'.ds = m.ds) (q2 : m'.ls = m.ls) (q3 : m'.hm = m.hm) (q4 : m'.rn = m.rn) : StAt K CS CD (upd H st (.ins CS dx fs)) st d h r m' := by
  obtain ⟨n1, n2, n3, n4, n5⟩ := A.ne hC
  obtain ⟨dx0, beg0, tr0, gv0, pv0, e1, _⟩ := A.ex
  have f : Fr [st] H (upd H st (.ins CS dx fs)) := .put (by simp) (fun u z => by rw [e1] at z; cases z; rfl)
  refine ⟨⟨dx, beg, tr, gv, qv, by rw [upd_same, e], dp_same f.tp _ _ h1, dp_same f.tp _ _ h2, dp_same f.tp _ _ h3⟩, ?_, ?_, ?_, A.hr⟩
  · rw [q1, q2]; exact A.dk.fr f (by simp [n1.symm])
  · rw [q3]; exact A.hd.fr f (by simp [n2])
  · rw [q4]; exact A.rd.fr f (by simp [n3])
theorem StAt.frI {K : PySem.W.Frag} {CS CD : Addr} {H : Hp} {st d h r : Addr} {m : MD} {o : HO} (A : StAt K CS CD H st d h r m) : Fr [st] H (upd H st o) := by
  obtain ⟨dx0, beg0, tr0, gv0, pv0, e1, _⟩ := A.ex
  exact .put (by simp) (fun u z => by rw [e1] at z; cases z; rfl)
structure STxt (K : PySem.W.Frag) (CS CD : Addr) : Prop where
  cl : Cls K CS
  no : ∀ x ∈ SN, NoAttr K CS x
  ne : CS ≠ CD
theorem sc_write : FnScope ["self", "plate", "value"] ["self", "plate", "value"] (defScope s_write) := ⟨rfl, rfl, rfl, by decide +kernel, rfl, by decide +kernel, by decide +kernel⟩
theorem sc_bar : FnScope ["self"] ["self"] (defScope s_bar) := ⟨rfl, rfl, rfl, by decide +kernel, rfl, by decide +kernel, by decide +kernel⟩
def settleD (ds : List PyData) (ls : List (Int × PyData)) : List PyData := ls.foldl (fun s q => s.set q.1.toNat q.2) ds
theorem settleD_len : ∀ (ls : List (Int × PyData)) (ds : List PyData), (settleD ds ls).length = ds.length
  | [], _ => rfl
  | q :: ls, ds => by
    show (settleD (ds.set q.1.toNat q.2) ls).length = _
    rw [settleD_len ls, List.length_set]
theorem settle_dp {K : PySem.W.Frag} {G : Hp} : ∀ {lv : List (Int × V)} {ls : List (Int × PyData)} {sv : List V} {ds : List PyData}, LvD K G lv ls → DpAll K G sv ds → DpAll K G (settleV sv lv) (settleD ds ls)
  | [], [], _, _, _, h => h
  | [], q :: ls, _, _, h, _ => by have := h.1; simp at this
  | q :: lv, [], _, _, h, _ => by have := h.1; simp at this
  | (p, v) :: lv, (p', e) :: ls, sv, ds, h, g => by
    obtain ⟨h1, h2⟩ := h
    rw [List.map_cons, List.map_cons] at h1 h2
    have e1 : p = p' := (List.cons.inj h1).1
    subst e1
    cases h2 with
    | cons g1 g2 => exact settle_dp (lv := lv) (ls := ls) ⟨(List.cons.inj h1).2, g2⟩ (dps_set p.toNat g g1)
def MD.write (m : MD) (p : Int) (e : PyData) : MD := { m with ls := m.ls ++ [(p, e)], evs := m.evs ++ [wrD p e] }
def MD.barrier (m : MD) : MD := { m with ds := settleD m.ds m.ls, ls := [], evs := m.evs ++ [barD], se := match m.ps.getLast? with | none => m.se | some q => q.2 }
section
variable {P : Program} {w : World} {K : PySem.W.Frag} {mg : Str → Option Value} {base : Heap} {CS CD : Addr}
def sp_write (K : PySem.W.Frag) (CS CD : Addr) : Sp := fun vs H Q _ => ∃ (st d h r : Addr) (m : MD) (p : Int) (v : V) (e : PyData), vs = [.ref st, .int p, v] ∧ StAt K CS CD H st d h r m ∧ 0 ≤ p ∧ p < (m.ds.length : Nat) ∧ Dp K (Tp H) v e ∧ m.ls.length ≤ 900 ∧ m.evs.length ≤ 900 ∧
  ∀ H', Fr [st, d] H H' → StAt K CS CD H' st d h r (m.write p e) → Q .non H'
/-- the trace with one event more -/
theorem ok_write_ {f fW : Addr} {fd fdW : FuncData} (F : Fun K "_write" "Store._write" s_write f fd) (T : STxt K CS CD) (DT : DTxt K CD) (GW : FnOk P w K mg base CX0 3 fW fdW ["self", "plate", "value"] (spWrite CD)) (mW : Meth K CD "write" fW) (bW : Binds K fdW ["self", "plate", "value"] []) :
    FnOk P w K mg base CX0 4 f fd ["self", "plate", "value"] (sp_write K CS CD) := by
  refine F.ok sc_write (fun vs H Q E h => ?_) (fun cdv A outer s H vs Q E hr h => ?_)
  · obtain ⟨st, d, h, r, m, p, v, e, rfl, _⟩ := h
    rfl
  · obtain ⟨st, d, hh, r, m, p, v, e, rfl, A, h0, h1, hd, hl, he, k⟩ := h
    obtain ⟨dx, beg, tr, gv, qv, e1, e2, e3, e4⟩ := A.ex
    obtain ⟨sv, lv, D, D2, D3⟩ := A.dk
    obtain ⟨dx2, a, b, ts, x1, x2, x3, x4, x5, x6⟩ := id D
    refine ⟨_, pss_cons (ps_expr (pe_meth (pe_fld (pv 0) rfl) DT.cl mW GW hr bW .nil pass0 (pa_cons (pv 1) (pa_cons (pv 2) pa_nil))))
      (pss_one (ps_fld (pv 0) (pe_op op_catA (pe_fld (pv 0) rfl) (pe_tup (pa_cons (pe_tup (pa_cons pe_str (pa_cons (pv 1) (pa_cons (pv 2) pa_nil)))) pa_nil))) rfl)), ?_⟩
    have lvl : lv.length = m.ls.length := by
      have := congrArg List.length D3.1
      rw [List.length_map, List.length_map] at this
      exact this
    refine ⟨_, rfl, st, CS, dx, _, _, rfl, e1, T.cl, T.no _ (by decide +kernel), zip_get (i := 8) sn_nodup rfl rfl, d, dx2, _, rfl, x1, fl_no _ _ _ (by decide +kernel) (by decide +kernel) (by decide +kernel), _, rfl, _, rfl, d, _, p, v, sv, lv, rfl, D, h0, h1, by omega, fun H1 b1 D1 => ?_⟩
    have f1 : Fr [d] H H1 := .but b1 (fun c hc u z => by rw [List.mem_singleton.mp hc] at z; exact D.obj u z)
    have A1 := A.disk T.ne f1 (ds := m.ds) (ls := m.ls ++ [(p, e)]) ⟨sv, lv ++ [(p, v)], D1, dps_same f1.tp _ _ D2, by rw [List.map_append, List.map_append, D3.1]; rfl, by rw [List.map_append, List.map_append]; exact dps_app (dps_same f1.tp _ _ D3.2) (.cons (dp_same f1.tp _ _ hd) .nil)⟩
    obtain ⟨n1, n2, n3, n4, n5⟩ := A.ne T.ne
    have e1' := f1.at e1 (by simp [n1])
    have hd1 := dp_same f1.tp _ _ hd
    have e2' := dp_same f1.tp _ _ e2
    have e3' := dp_same f1.tp _ _ e3
    have e4' := dp_same f1.tp _ _ e4
    cases e2' with
    | @tup ta txs _ hts hta =>
    have htl := dps_len hta
    refine ⟨_, rfl, st, CS, dx, _, _, rfl, e1', T.cl, T.no _ (by decide +kernel), zip_get (i := 3) sn_nodup rfl rfl, _, rfl, _, rfl, (by show 3 ≤ sizeLine; decide), fun u hu => ⟨(by show 1 ≤ sizeLine; decide), fun u2 hu2 => ?_⟩⟩
    have s1 := same_upd (o := .tup [.str "write", .int p, v]) hu
    have s2 := s1.trans (same_upd (o := .tup [.ref u]) hu2)
    have nu2 : u ≠ u2 := fun z => by rw [← z, upd_same] at hu2; cases hu2
    have hts2 := same_seqT (tp_le.trans s2) hts
    have heu : (upd (upd H1 u (.tup [.str "write", .int p, v])) u2 (.tup [.ref u])) u = some (.tup [.str "write", .int p, v]) := by rw [upd_ne nu2, upd_same]
    have du : ∀ H2, Same (upd (upd H1 u (.tup [.str "write", .int p, v])) u2 (.tup [.ref u])) H2 → Dp K (Tp H2) (.ref u) (wrD p e) := fun H2 s => .tup (SqT.of (tp_at (s _ _ heu) rfl)) (.cons (.str _) (.cons (.int _) (.cons (dp_same (tp_same (s2.trans s)) _ _ hd1) .nil)))
    have fin : ∀ (c : V) (H2 : Hp), Same (upd (upd H1 u (.tup [.str "write", .int p, v])) u2 (.tup [.ref u])) H2 → Dp K (Tp H2) c (.tuple (m.evs ++ [wrD p e])) →
        ∃ v1, (L2.start ["self", "plate", "value"] [V.ref st, V.int p, v])[0]? = some (some v1) ∧ ∃ a C' dx' fs, v1 = V.ref a ∧ H2 a = some (.ins C' dx' fs) ∧ Cls K C' ∧ NoAttr K C' "trace" ∧ fs.length < 1000 ∧ Q .non (upd H2 a (.ins C' dx' (putF "trace" c fs))) := by
      intro c H2 s hc
      have s' := s2.trans s
      have A2 := A1.fr (xs := []) (.of s') (by simp) (by simp) (by simp) (by simp)
      refine ⟨_, rfl, st, CS, dx, _, rfl, s' _ _ e1', T.cl, T.no _ (by decide +kernel), (by show 14 < 1000; decide), ?_⟩
      refine k _ ((f1.mono (by simp)).trans ((Fr.of s').trans (A2.frI.mono (by simp)))) (A2.inst T.ne (m.write p e) beg c gv qv ?_ hc (dp_same (tp_same s') _ _ e3') (dp_same (tp_same s') _ _ e4') rfl rfl rfl rfl)
      rw [zip_put (i := 3) sn_nodup rfl (by show 3 < 14; decide)]
      rfl
    refine ⟨ta, u2, txs, [.ref u], rfl, rfl, hts2, SqT.of upd_same, ?_, fun z => ?_, fun _ z => absurd z (by simp), fun _ _ c hc => ?_⟩
    · show txs.length + 1 ≤ sizeLine
      rw [sizeLine_eq]
      omega
    · subst z
      have em : m.evs = [] := List.eq_nil_of_length_eq_zero (by rw [← htl]; rfl)
      refine fin (.ref u2) _ (Same.refl _) ?_
      rw [em]
      exact .tup (SqT.of (tp_at upd_same rfl)) (.cons (du _ (Same.refl _)) .nil)
    · have s3 := same_upd (o := .tup (txs ++ [.ref u])) hc
      exact fin (.ref c) _ s3 (.tup (SqT.of (tp_at upd_same rfl)) (dps_app (dps_same (tp_same (s2.trans s3)) _ _ hta) (.cons (du _ s3) .nil)))
end
end Pf

set_option Elab.async false
set_option linter.all false
set_option maxRecDepth 100000
set_option maxHeartbeats 4000000
namespace Pf
open PySem PySem.Spec PyProof.Rows L2
theorem scBring : FnScope ["self", "plate", "cells", "head"] ["self"] (defScope sBring) := ⟨rfl, rfl, rfl, by decide +kernel, rfl, by decide +kernel, by decide +kernel⟩
theorem scLay : FnScope ["self"] ["self"] (defScope sLay) := ⟨rfl, rfl, rfl, by decide +kernel, rfl, by decide +kernel, by decide +kernel⟩
def MD.homeW (m : MD) (xs : List Ch) : MD := { m with ls := m.ls ++ xs.map fun c => (2 + (m.S : Int) + c.1, rowD c.2), evs := m.evs ++ xs.map fun c => wrD (2 + (m.S : Int) + c.1) (rowD c.2) }
theorem homeW_more {m : MD} {xs : List Ch} {i : Nat} {c : Ch} (h : xs[i]? = some c) : m.homeW (xs.take (i + 1)) = (m.homeW (xs.take i)).write (2 + (m.S : Int) + c.1) (rowD c.2) := by
  unfold MD.homeW MD.write
  rw [List.take_add_one, h]
  simp
def MD.last (m : MD) : List Ch := sortC (lastC (m.n : Nat) m.zs)
def MD.up (m : MD) : MD := { m with hn := m.hn + 1 }
def MD.head (m : MD) : MD := m.write (m.hn % 2) (rowD [m.hn, m.ng, (m.ns : Nat)])
def MD.clear (m : MD) : MD := { m with zs := [] }
def MD.bring (m : MD) : MD := (m.homeW m.last).barrier.up.head.barrier.clear
def MD.lay (m : MD) : MD := if m.zs.length = 0 then m else m.barrier.bring
def OKW (m : MD) : Prop := m.ds.length = 2 + m.S + m.n ∧ 0 < m.S ∧ m.S ≤ 60 ∧ m.n ≤ 60 ∧ (∀ q ∈ m.ls, 0 ≤ q.1 ∧ q.1 < ((m.ds.length : Nat) : Int)) ∧ m.ls.length ≤ 100 ∧ (∀ z ∈ m.zs, ∀ c ∈ z.2.2, 0 ≤ c.1) ∧ slotsN m.zs < 64
instance (m : MD) : Decidable (OKW m) := by unfold OKW; infer_instance
theorem lastC_in {n : Int} : ∀ {zs : List Gr}, (∀ z ∈ zs, ∀ c ∈ z.2.2, 0 ≤ c.1) → ∀ c ∈ lastC n zs, 0 ≤ c.1 ∧ c.1 < n := by
  have inn : ∀ (xs cs : List Ch), (∀ c ∈ xs, 0 ≤ c.1) → (∀ c ∈ cs, 0 ≤ c.1 ∧ c.1 < n) → ∀ c ∈ inC n cs xs, 0 ≤ c.1 ∧ c.1 < n := by
    intro xs
    induction xs with
    | nil => intro cs _ h; exact h
    | cons x xs ih =>
      intro cs hx h
      show ∀ c ∈ inC n (if x.1 < n then putC cs x.1 x.2 else cs) xs, _
      split
      · rename_i hlt
        exact ih _ (fun c hc => hx c (List.mem_cons_of_mem _ hc)) (putC_all h ⟨hx x List.mem_cons_self, hlt⟩)
      · exact ih _ (fun c hc => hx c (List.mem_cons_of_mem _ hc)) h
  have outer : ∀ (zs : List Gr) (cs : List Ch), (∀ z ∈ zs, ∀ c ∈ z.2.2, 0 ≤ c.1) → (∀ c ∈ cs, 0 ≤ c.1 ∧ c.1 < n) → ∀ c ∈ zs.foldl (fun cs z => inC n cs z.2.2) cs, 0 ≤ c.1 ∧ c.1 < n := by
    intro zs
    induction zs with
    | nil => intro cs _ h; exact h
    | cons z zs ih =>
      intro cs hz h
      exact ih _ (fun z' hz' => hz z' (List.mem_cons_of_mem _ hz')) (inn _ _ (hz z List.mem_cons_self) h)
  intro zs hz
  exact outer zs [] hz (fun c hc => by simp at hc)
theorem cat_use {K : PySem.W.Frag} {a b : Addr} {xs ys : List V} {H : Hp} {Q : VK} (h1 : SqT K H a xs) (h2 : SqT K H b ys) (hl : xs.length + ys.length ≤ sizeLine) (k : ∀ p H', Same H H' → SqT K H' p (xs ++ ys) → Q (.ref p) H') : rCatA K (.ref a) (.ref b) H Q := by
  refine ⟨a, b, xs, ys, rfl, rfl, h1, h2, hl, fun z => ?_, fun _ z => ?_, fun _ _ p hp => k p _ (same_upd hp) (.inl (.inl upd_same))⟩
  · subst z
    exact k b H (Same.refl _) h2
  · subst z
    exact k a H (Same.refl _) (by rw [List.append_nil]; exact h1)
section
variable {P : Program} {w : World} {K : PySem.W.Frag} {mg : Str → Option Value} {base : Heap} {CS CD : Addr}
def sp_bar (K : PySem.W.Frag) (CS CD : Addr) : Sp := fun vs H Q _ => ∃ (st d h r : Addr) (m : MD), vs = [.ref st] ∧ StAt K CS CD H st d h r m ∧ (∀ q ∈ m.ls, 0 ≤ q.1 ∧ q.1 < ((m.ds.length : Nat) : Int)) ∧ m.ds.length ≤ 1000 ∧ m.evs.length ≤ 900 ∧ m.ps.length ≤ 900 ∧
  ∀ H', Fr [st, d] H H' → StAt K CS CD H' st d h r m.barrier → Q .non H'
theorem ok_bar_ {f fB : Addr} {fd fdB : FuncData} (F : Fun K "_barrier" "Store._barrier" s_bar f fd) (T : STxt K CS CD) (DT : DTxt K CD) (GB : FnOk P w K mg base CX0 1 fB fdB ["self"] (spBar CD)) (mB : Meth K CD "barrier" fB) (bB : Binds K fdB ["self"] []) (ml : mg "len" = none) :
    FnOk P w K mg base CX0 2 f fd ["self"] (sp_bar K CS CD) := by
  refine F.ok sc_bar (fun vs H Q E h => ?_) (fun cdv A outer s H vs Q E hr h => ?_)
  · obtain ⟨st, d, h, r, m, rfl, _⟩ := h
    rfl
  · obtain ⟨st, d, hh, r, m, rfl, A, hB, hn, he, hps, k⟩ := h
    obtain ⟨dx, beg, tr, gv, qv, e1, e2, e3, e4⟩ := A.ex
    obtain ⟨sv, lv, D, D2, D3⟩ := A.dk
    obtain ⟨dx2, a, b, ts, x1, x2, x3, x4, x5, x6⟩ := id D
    obtain ⟨pa, pxs, rfl, hp1, hp2⟩ : ∃ pa pxs, qv = .ref pa ∧ SqT K (Tp H) pa pxs ∧ DpAll K (Tp H) pxs (m.ps.map psD) := by cases e4 with | tup h1 h2 => exact ⟨_, _, rfl, h1, h2⟩
    refine ⟨_, pss_cons (ps_expr (pe_meth0 (pe_fld (pv 0) rfl) DT.cl mB GB hr bB .nil pass0))
      (pss_cons (ps_fld (pv 0) (pe_op op_catA (pe_fld (pv 0) rfl) (pe_tup (pa_cons (pe_tup (pa_cons pe_str pa_nil)) pa_nil))) rfl)
      (pss_one (ps_if (pt_cmpR op_gt (pe_callB call_len_seq (by rfl) ml boot_len (pa_cons (pe_fld (pv 0) rfl) pa_nil)) pe_int (nomark _))
        (pss_one (ps_fld (pv 0) (pe_ix ix_tup (pe_ix ix_tup (pe_fld (pv 0) rfl) (pe_un un_neg pe_int) (fun _ _ => rfl)) pe_int (fun _ _ => rfl)) rfl)) pss_nil))), ?_⟩
    have hBl : InB (m.ds.length : Nat) lv := by
      intro q hq
      have h1 : q.1 ∈ lv.map (·.1) := List.mem_map.mpr ⟨q, hq, rfl⟩
      rw [D3.1] at h1
      obtain ⟨q', h2, h3⟩ := List.mem_map.mp h1
      rw [← h3]
      exact hB q' h2
    refine ⟨_, rfl, st, CS, dx, _, _, rfl, e1, T.cl, T.no _ (by decide +kernel), zip_get (i := 8) sn_nodup rfl rfl, d, dx2, _, rfl, x1, fl_no _ _ _ (by decide +kernel) (by decide +kernel) (by decide +kernel), d, _, sv, lv, rfl, D, hBl, by omega, fun H1 f1 D1 => ?_⟩
    have A1 := A.disk T.ne f1 (ds := settleD m.ds m.ls) (ls := []) ⟨settleV sv lv, [], by rw [settleD_len]; exact D1, dps_same f1.tp _ _ (settle_dp D3 D2), rfl, .nil⟩
    obtain ⟨n1, n2, n3, n4, n5⟩ := A.ne T.ne
    have e1' := f1.at e1 (by simp [n1])
    have e2' := dp_same f1.tp _ _ e2
    have e3' := dp_same f1.tp _ _ e3
    have e4' := dp_same f1.tp _ _ e4
    cases e2' with
    | @tup ta txs _ hts hta =>
    have htl := dps_len hta
    refine ⟨_, rfl, st, CS, dx, _, _, rfl, e1', T.cl, T.no _ (by decide +kernel), zip_get (i := 3) sn_nodup rfl rfl, (by show 1 ≤ sizeLine; decide), fun u hu => ⟨(by show 1 ≤ sizeLine; decide), fun u2 hu2 => ?_⟩⟩
    have s1 := same_upd (o := .tup [.str "barrier"]) hu
    have s2 := s1.trans (same_upd (o := .tup [.ref u]) hu2)
    have nu2 : u ≠ u2 := fun z => by rw [← z, upd_same] at hu2; cases hu2
    have hts2 := same_seqT (tp_le.trans s2) hts
    have heu : (upd (upd H1 u (.tup [.str "barrier"])) u2 (.tup [.ref u])) u = some (.tup [.str "barrier"]) := by rw [upd_ne nu2, upd_same]
    have du : ∀ H2, Same (upd (upd H1 u (.tup [.str "barrier"])) u2 (.tup [.ref u])) H2 → Dp K (Tp H2) (.ref u) barD := fun H2 s => .tup (SqT.of (tp_at (s _ _ heu) rfl)) (.cons (.str _) .nil)
    refine cat_use hts2 (SqT.of upd_same) (by show txs.length + 1 ≤ sizeLine; rw [sizeLine_eq]; omega) fun c H2 s hc => ?_
    have s' := s2.trans s
    have A2 := A1.fr (xs := []) (.of s') (by simp) (by simp) (by simp) (by simp)
    have hcd : Dp K (Tp H2) (.ref c) (.tuple (m.evs ++ [barD])) := .tup (sqt_tp hc) (dps_app (dps_same (tp_same s') _ _ hta) (.cons (du _ s) .nil))
    refine ⟨_, rfl, st, CS, dx, _, rfl, s' _ _ e1', T.cl, T.no _ (by decide +kernel), (by show 14 < 1000; decide), ?_⟩
    have e5 := dp_same (tp_same s') _ _ e4'
    have ez : putF "trace" (V.ref c) (SN.zip (mvals m beg (.ref ta) gv (.ref pa) d hh r)) = SN.zip (mvals { m with ds := settleD m.ds m.ls, ls := [], evs := m.evs ++ [barD] } beg (.ref c) gv (.ref pa) d hh r) := by
      rw [zip_put (i := 3) sn_nodup rfl (by show 3 < 14; decide)]
      rfl
    rw [ez]
    have A3 := A2.inst (dx := dx) T.ne { m with ds := settleD m.ds m.ls, ls := [], evs := m.evs ++ [barD] } beg (.ref c) gv (.ref pa) rfl hcd (dp_same (tp_same s') _ _ e3') e5 rfl rfl rfl rfl
    have f3 : Fr [st, d] H (upd H2 st (.ins CS dx (SN.zip (mvals { m with ds := settleD m.ds m.ls, ls := [], evs := m.evs ++ [barD] } beg (.ref c) gv (.ref pa) d hh r)))) := (f1.mono (by simp)).trans ((Fr.of s').trans (A2.frI.mono (by simp)))
    have f23 := f3.tp
    have hcd3 := dp_same (A2.frI (o := .ins CS dx (SN.zip (mvals { m with ds := settleD m.ds m.ls, ls := [], evs := m.evs ++ [barD] } beg (.ref c) gv (.ref pa) d hh r)))).tp _ _ hcd
    have e33 := dp_same f23 _ _ e3
    have e43 := dp_same f23 _ _ e4
    have est : (upd H2 st (.ins CS dx (SN.zip (mvals { m with ds := settleD m.ds m.ls, ls := [], evs := m.evs ++ [barD] } beg (.ref c) gv (.ref pa) d hh r)))) st = some (.ins CS dx (SN.zip (mvals { m with ds := settleD m.ds m.ls, ls := [], evs := m.evs ++ [barD] } beg (.ref c) gv (.ref pa) d hh r))) := upd_same
    generalize (upd H2 st (.ins CS dx (SN.zip (mvals { m with ds := settleD m.ds m.ls, ls := [], evs := m.evs ++ [barD] } beg (.ref c) gv (.ref pa) d hh r)))) = H3 at A3 f3 f23 hcd3 e33 e43 est
    have hpl := dps_len hp2
    rw [List.length_map] at hpl
    refine ⟨_, rfl, st, CS, dx, _, _, rfl, est, T.cl, T.no _ (by decide +kernel), zip_get (i := 7) sn_nodup rfl rfl, pa, pxs, rfl, .inr (same_seqT (f23.trans tp_le) hp1), _, _, rfl, rfl, _, rfl, ite2 (fun hc => ?_) (fun hc => ?_)⟩
    · have hpos : 0 < pxs.length := by
        have := of_decide_eq_true hc
        omega
      have hne : pxs ≠ [] := fun z => by rw [z] at hpos; cases hpos
      have hat : atI pxs (-1) = some (pxs.getLast hne) := by
        have := atI_last pxs.dropLast (pxs.getLast hne)
        rw [List.dropLast_concat_getLast] at this
        exact this
      have hgl : pxs[pxs.length - 1]? = some (pxs.getLast hne) := by
        rw [List.getLast_eq_getElem, List.getElem?_eq_getElem (by omega)]
      obtain ⟨dq, hq1, hq2⟩ := dps_get hp2 hgl
      rw [List.getElem?_map] at hq1
      cases eq : m.ps[pxs.length - 1]? with
      | none => rw [eq] at hq1; cases hq1
      | some q =>
        rw [eq] at hq1
        have edq : psD q = dq := Option.some.inj hq1
        subst edq
        obtain ⟨qa, eqa, hqa⟩ : ∃ b, pxs.getLast hne = .ref b ∧ SqT K (Tp H) b [.int q.1, .int q.2] := by
          generalize pxs.getLast hne = v0 at hq2
          cases hq2 with
          | tup h1 h2 =>
            cases h2 with
            | cons g1 h2 =>
              cases h2 with
              | cons g2 h2 =>
                cases h2
                cases g1
                cases g2
                exact ⟨_, rfl, h1⟩
        rw [eqa] at hat
        refine ⟨_, rfl, st, CS, dx, _, _, rfl, est, T.cl, T.no _ (by decide +kernel), zip_get (i := 7) sn_nodup rfl rfl, 1, rfl, pa, pxs, _, _, rfl, rfl, same_seqT (f23.trans tp_le) hp1, hat, qa, _, 1, _, rfl, rfl, same_seqT (f23.trans tp_le) hqa, atI_nat (j := 1) rfl, ?_⟩
        refine ⟨_, rfl, st, CS, dx, _, rfl, est, T.cl, T.no _ (by decide +kernel), (by show 14 < 1000; decide), ?_⟩
        have egl : m.ps.getLast? = some q := by rw [List.getLast?_eq_getElem?, ← hpl]; exact eq
        refine k _ (f3.trans (A3.frI.mono (by simp))) (A3.inst T.ne m.barrier beg (.ref c) gv (.ref pa) ?_ hcd3 e33 e43 rfl rfl rfl rfl)
        rw [zip_put (i := 5) sn_nodup rfl (by show 5 < 14; decide)]
        unfold MD.barrier
        rw [egl]
        rfl
    · have hz : m.ps = [] := by
        have : ¬ 0 < pxs.length := fun z => hc (decide_eq_true (by omega))
        exact List.eq_nil_of_length_eq_zero (by omega)
      have em : m.barrier = { m with ds := settleD m.ds m.ls, ls := [], evs := m.evs ++ [barD] } := by
        unfold MD.barrier
        rw [hz]
        rfl
      exact k _ f3 (by rw [em]; exact A3)
end
end Pf

set_option Elab.async false
set_option linter.all false
set_option maxRecDepth 100000
set_option maxHeartbeats 4000000
namespace Pf
open PySem PySem.Spec PyProof.Rows L2
section
variable {P : Program} {w : World} {K : PySem.W.Frag} {mg : Str → Option Value} {base : Heap} {CS CD : Addr}
def sp_bring (K : PySem.W.Frag) (CS CD : Addr) : Sp := fun vs H Q _ => ∃ (st d h r : Addr) (m : MD), vs = [.ref st] ∧ StAt K CS CD H st d h r m ∧ OKW m ∧ m.evs.length ≤ 700 ∧ m.ps.length ≤ 900 ∧
  ∀ H', Fr [st, d] H H' → StAt K CS CD H' st d h r m.bring → Q .non H'
theorem ok_bring {f fL fH fP fW fB : Addr} {fd fdL fdH fdP fdW fdB : FuncData} (F : Fun K "bring_home" "Store.bring_home" sBring f fd) (T : STxt K CS CD)
    (GL : FnOk P w K mg base CX0 1 fL fdL ["groups", "plates"] (spLc K)) (kL : PySem.W.keepIn K (.ref fL) = true) (gL : mg "last_changes" = some (.ref fL)) (bL : Binds K fdL ["groups", "plates"] [])
    (GH : FnOk P w K mg base CX0 1 fH fdH ["slots", "plate"] spHomeP) (kH : PySem.W.keepIn K (.ref fH) = true) (gH : mg "home_plate" = some (.ref fH)) (bH : Binds K fdH ["slots", "plate"] [])
    (GP : FnOk P w K mg base CX0 1 fP fdP ["number"] spHp) (kP : PySem.W.keepIn K (.ref fP) = true) (gP : mg "head_plate" = some (.ref fP)) (bP : Binds K fdP ["number"] [])
    (GW : FnOk P w K mg base CX0 4 fW fdW ["self", "plate", "value"] (sp_write K CS CD)) (mW : Meth K CS "_write" fW) (bW : Binds K fdW ["self", "plate", "value"] [])
    (GB : FnOk P w K mg base CX0 2 fB fdB ["self"] (sp_bar K CS CD)) (mB : Meth K CS "_barrier" fB) (bB : Binds K fdB ["self"] []) :
    FnOk P w K mg base CX0 5 f fd ["self"] (sp_bring K CS CD) := by
  refine F.ok scBring (fun vs H Q E h => ?_) (fun cdv A outer s H vs Q E hr h => ?_)
  · obtain ⟨st, d, h, r, m, rfl, _⟩ := h
    rfl
  · obtain ⟨st, d, hh, r, m, rfl, A, ok, he, hps, k⟩ := h
    obtain ⟨o1, o2, o3, o4, o5, o6, o7, o8⟩ := id ok
    obtain ⟨dx, beg, tr, gv, qv, e1, e2, e3, e4⟩ := A.ex
    have nd := scBring.nd
    have hr1 : Room 1 _ := hr.mono (by decide)
    have hr2 : Room 2 _ := hr.mono (by decide)
    refine ⟨_, pss_cons (ps_for PassesOwn.never rfl (pi_list (pe_call GL hr1 rfl gL kL bL .nil pass0 (pa_cons (pe_fld (pv 0) rfl) (pa_cons (pe_fld (pv 0) rfl) pa_nil)))) (pg_tup rfl (pgs_cons (pg_name (i := 1) nd rfl (.inl rfl)) (pgs_cons (pg_name (i := 2) nd rfl (.inl rfl)) pgs_nil)))
        (pss_one (ps_expr (pe_meth (pv 0) T.cl mW GW hr bW .nil pass0 (pa_cons (pe_call GH hr1 rfl gH kH bH .nil pass0 (pa_cons (pe_fld (pv 0) rfl) (pa_cons (pv 1) pa_nil))) (pa_cons (pv 2) pa_nil))))))
      (pss_cons (ps_expr (pe_meth0 (pv 0) T.cl mB GB hr2 bB .nil pass0))
      (pss_cons (ps_fld (pv 0) (pe_op op_add (pe_fld (pv 0) rfl) pe_int) rfl)
      (pss_cons (ps_set (i := 3) nd rfl (.inl rfl) (pe_tup (pa_cons (pe_fld (pv 0) rfl) (pa_cons (pe_fld (pv 0) rfl) (pa_cons (pe_fld (pv 0) rfl) pa_nil)))))
      (pss_cons (ps_expr (pe_meth (pv 0) T.cl mW GW hr bW .nil pass0 (pa_cons (pe_call GP hr1 rfl gP kP bP .nil pass0 (pa_cons (pe_fld (pv 0) rfl) pa_nil)) (pa_cons (pv 3) pa_nil))))
      (pss_cons (ps_expr (pe_meth0 (pv 0) T.cl mB GB hr2 bB .nil pass0))
      (pss_one (ps_fld (pv 0) (pe_tup pa_nil) rfl))))))), ?_⟩
    refine ⟨_, rfl, st, CS, dx, _, _, rfl, e1, T.cl, T.no _ (by decide +kernel), zip_get (i := 6) sn_nodup rfl rfl, _, rfl, st, CS, dx, _, _, rfl, e1, T.cl, T.no _ (by decide +kernel), zip_get (i := 0) sn_nodup rfl rfl, gv, m.zs, _, rfl, e3, o8, fun p us H1 s1 hp ep dU => ?_⟩
    have hul : us.length = m.last.length := by rw [dps_len dU, List.length_map]; rfl
    have hll : m.last.length < 64 := by
      have h2 := (lastC_ok (m.n : Nat) m.zs m.zs.length).2
      rw [List.take_length] at h2
      unfold MD.last
      rw [(sortC_perm _).length_eq]
      omega
    have hlin := lastC_in (n := (m.n : Nat)) o7
    have A1 := A.fr (xs := []) (.of s1) (by simp) (by simp) (by simp) (by simp)
    obtain ⟨n1, n2, n3, n4, n5⟩ := A.ne T.ne
    have h00 : m.homeW (m.last.take 0) = m := by
      unfold MD.homeW
      simp
    have nps : p ≠ st := fun z => by rw [z, e1] at hp; cases hp
    have npd : p ≠ d := fun z => by
      obtain ⟨sv, lv, ⟨dx2, a, b, ts, x1, _⟩, _⟩ := A.dk
      rw [z, x1] at hp
      cases hp
    refine ⟨p, rfl, ⟨_, SqL.of ep⟩, for_list (K := K) (a := p) (xs := us) (fun i σ H' => ∃ y1 y2, σ = [some (.ref st), y1, y2, none] ∧ Fr [st, d] H1 H' ∧ StAt K CS CD H' st d hh r (m.homeW (m.last.take i)))
      ⟨none, none, rfl, .of (Same.refl _), by rw [h00]; exact A1⟩ (fun i σ H' _ z => by obtain ⟨_, _, _, z, _⟩ := z; exact SqL.of (z.at ep (by simp [nps, npd]))) ?_ ?_⟩
    · rintro i x σ H' hi ⟨y1, y2, rfl, fr, A2⟩
      obtain ⟨d2, hd2, hp2⟩ := dps_get dU hi
      rw [List.getElem?_map] at hd2
      cases ei : (sortC (lastC (m.n : Nat) m.zs))[i]? with
      | none => rw [ei] at hd2; cases hd2
      | some q =>
        rw [ei] at hd2
        have ed : pD q = d2 := Option.some.inj hd2
        subst ed
        obtain ⟨b1, b2, rfl, r1, r2⟩ := pD_read hp2
        have hq := hlin q ((sortC_perm _).subset (List.mem_of_getElem? ei))
        obtain ⟨dx', beg', tr', gv', qv', w1, w2, w3, w4⟩ := A2.ex
        have hil : i < 64 := by
          have h1 : i < m.last.length := (List.getElem?_eq_some_iff.mp ei).1
          omega
        refine ⟨b1, _, rfl, same_seqT (fr.tp.trans tp_le) r1, rfl, _, _, rfl, _, _, rfl, rfl, _, rfl, st, dx', _, rfl, w1, zip_no (by decide +kernel), _, rfl, st, CS, dx', _, _, rfl, w1, T.cl, T.no _ (by decide +kernel), zip_get (i := 1) sn_nodup rfl rfl, _, rfl, _, q.1, rfl, _, rfl, ?_⟩
        refine ⟨st, d, hh, r, m.homeW (m.last.take i), _, .ref b2, rowD q.2, rfl, A2, ?_, ?_, ?_, ?_, ?_, fun H3 f3 A3 => ?_⟩
        · show 0 ≤ 2 + (m.S : Int) + q.1
          omega
        · show 2 + (m.S : Int) + q.1 < (m.ds.length : Nat)
          omega
        · exact .tup (same_seqT fr.tp r2) (dps_ints _)
        · show (m.ls ++ _).length ≤ 900
          rw [List.length_append, List.length_map, List.length_take]
          omega
        · show (m.evs ++ _).length ≤ 900
          rw [List.length_append, List.length_map, List.length_take]
          omega
        · refine ⟨_, _, rfl, fr.trans f3, ?_⟩
          rw [homeW_more (show m.last[i]? = some q from ei)]
          exact A3
    · rintro σ H2 ⟨y1, y2, rfl, fr, A2⟩
      rw [hul, List.take_length] at A2
      have f2 : Fr [st, d] H H2 := (Fr.of s1).trans fr
      obtain ⟨dx', beg', tr', gv', qv', w1, w2, w3, w4⟩ := A2.ex
      have hev : (m.homeW m.last).evs.length ≤ 800 := by
        show (m.evs ++ _).length ≤ 800
        rw [List.length_append, List.length_map]
        omega
      refine ⟨_, rfl, st, dx', _, rfl, w1, zip_no (by decide +kernel), st, d, hh, r, _, rfl, A2, ?_, (by show m.ds.length ≤ 1000; omega), by omega, hps, fun H3 f3 A3 => ?_⟩
      · intro q hq
        rcases List.mem_append.mp (show q ∈ m.ls ++ _ from hq) with z | z
        · exact o5 q z
        · obtain ⟨c, hc, rfl⟩ := List.mem_map.mp z
          have hq := hlin c ((sortC_perm _).subset hc)
          show 0 ≤ 2 + (m.S : Int) + c.1 ∧ 2 + (m.S : Int) + c.1 < (m.ds.length : Nat)
          omega
      obtain ⟨dx3, beg3, tr3, gv3, qv3, u1, u2, u3, u4⟩ := A3.ex
      refine ⟨_, rfl, st, CS, dx3, _, _, rfl, u1, T.cl, T.no _ (by decide +kernel), zip_get (i := 11) sn_nodup rfl rfl, _, _, rfl, rfl, _, rfl, st, CS, dx3, _, rfl, u1, T.cl, T.no _ (by decide +kernel), (by show 14 < 1000; decide), ?_⟩
      have A4 := A3.inst (dx := dx3) (fs := putF "_head_number" (.int ((m.homeW m.last).barrier.hn + 1)) (SN.zip (mvals (m.homeW m.last).barrier beg3 tr3 gv3 qv3 d hh r))) T.ne (m.homeW m.last).barrier.up beg3 tr3 gv3 qv3 (by rw [zip_put (i := 11) sn_nodup rfl (by show 11 < 14; decide)]; rfl) u2 u3 u4 rfl rfl rfl rfl
      have f4 := (f2.trans f3).trans (A3.frI.mono (by simp) : Fr [st, d] H3 (upd H3 st (.ins CS dx3 (putF "_head_number" (.int ((m.homeW m.last).barrier.hn + 1)) (SN.zip (mvals (m.homeW m.last).barrier beg3 tr3 gv3 qv3 d hh r))))))
      show tSeq _ _ _ _ (upd H3 st (.ins CS dx3 (putF "_head_number" (.int ((m.homeW m.last).barrier.hn + 1)) (SN.zip (mvals (m.homeW m.last).barrier beg3 tr3 gv3 qv3 d hh r)))))
      generalize (upd H3 st (.ins CS dx3 (putF "_head_number" (.int ((m.homeW m.last).barrier.hn + 1)) (SN.zip (mvals (m.homeW m.last).barrier beg3 tr3 gv3 qv3 d hh r))))) = H4 at A4 f4
      obtain ⟨dx4, beg4, tr4, gv4, qv4, v1, v2, v3, v4⟩ := A4.ex
      refine ⟨_, rfl, st, CS, dx4, _, _, rfl, v1, T.cl, T.no _ (by decide +kernel), zip_get (i := 11) sn_nodup rfl rfl, _, rfl, st, CS, dx4, _, _, rfl, v1, T.cl, T.no _ (by decide +kernel), zip_get (i := 12) sn_nodup rfl rfl, _, rfl, st, CS, dx4, _, _, rfl, v1, T.cl, T.no _ (by decide +kernel), zip_get (i := 13) sn_nodup rfl rfl, (by show 3 ≤ sizeLine; decide), fun hd hhd => ?_⟩
      have s5 := same_upd (o := .tup [.int (m.homeW m.last).barrier.up.hn, .int (m.homeW m.last).barrier.up.ng, .int (((m.homeW m.last).barrier.up.ns : Nat) : Int)]) hhd
      have A5 := A4.fr (xs := []) (.of s5) (by simp) (by simp) (by simp) (by simp)
      have f5 := f4.trans (Fr.of s5)
      have hdd : Dp K (Tp (upd H4 hd (.tup [.int (m.homeW m.last).barrier.up.hn, .int (m.homeW m.last).barrier.up.ng, .int (((m.homeW m.last).barrier.up.ns : Nat) : Int)]))) (.ref hd) (rowD [(m.homeW m.last).barrier.up.hn, (m.homeW m.last).barrier.up.ng, (((m.homeW m.last).barrier.up.ns : Nat) : Int)]) := .tup (SqT.of (tp_at upd_same rfl)) (dps_ints [_, _, _])
      obtain ⟨dx5, beg5, tr5, gv5, qv5, v1, v2, v3, v4⟩ := A5.ex
      have hdl : (m.homeW m.last).barrier.up.ds.length = m.ds.length := settleD_len _ _
      have hev5 : (m.homeW m.last).barrier.up.evs.length ≤ 801 := by
        show ((m.homeW m.last).evs ++ [barD]).length ≤ 801
        rw [List.length_append]
        show _ + 1 ≤ 801
        omega
      refine ⟨_, rfl, st, dx5, _, rfl, v1, zip_no (by decide +kernel), _, rfl, st, CS, dx5, _, _, rfl, v1, T.cl, T.no _ (by decide +kernel), zip_get (i := 11) sn_nodup rfl rfl, _, rfl, _, rfl, st, d, hh, r, (m.homeW m.last).barrier.up, _, .ref hd, _, rfl, A5, Int.emod_nonneg _ (by decide), ?_, hdd, (by show 0 ≤ 900; decide), by omega, fun H6 f6 A6 => ?_⟩
      · rw [hdl]
        have := Int.emod_lt_of_pos (m.homeW m.last).barrier.up.hn (show (0 : Int) < 2 by decide)
        omega
      obtain ⟨dx6, beg6, tr6, gv6, qv6, v1, v2, v3, v4⟩ := A6.ex
      have hdl6 : (m.homeW m.last).barrier.up.head.ds.length = m.ds.length := settleD_len _ _
      have hev6 : (m.homeW m.last).barrier.up.head.evs.length ≤ 802 := by
        show ((m.homeW m.last).barrier.up.evs ++ [_]).length ≤ 802
        rw [List.length_append]
        show _ + 1 ≤ 802
        omega
      refine ⟨_, rfl, st, dx6, _, rfl, v1, zip_no (by decide +kernel), st, d, hh, r, (m.homeW m.last).barrier.up.head, rfl, A6, ?_, (by rw [hdl6]; omega), by omega, hps, fun H7 f7 A7 => ?_⟩
      · intro q hq
        have hq' : q = ((m.homeW m.last).barrier.up.hn % 2, rowD [(m.homeW m.last).barrier.up.hn, (m.homeW m.last).barrier.up.ng, (((m.homeW m.last).barrier.up.ns : Nat) : Int)]) := List.mem_singleton.mp (show q ∈ [_] from hq)
        subst hq'
        rw [hdl6]
        have h1 := Int.emod_lt_of_pos (m.homeW m.last).barrier.up.hn (show (0 : Int) < 2 by decide)
        have h2 := Int.emod_nonneg (m.homeW m.last).barrier.up.hn (show (2 : Int) ≠ 0 by decide)
        refine ⟨h2, ?_⟩
        show (m.homeW m.last).barrier.up.hn % 2 < _
        omega
      obtain ⟨dx7, beg7, tr7, gv7, qv7, v1, v2, v3, v4⟩ := A7.ex
      refine ⟨Nat.zero_le _, fun z hz => ?_⟩
      have s8 := same_upd (o := .tup []) hz
      have A8 := A7.fr (xs := []) (.of s8) (by simp) (by simp) (by simp) (by simp)
      refine ⟨_, rfl, st, CS, dx7, _, rfl, s8 _ _ v1, T.cl, T.no _ (by decide +kernel), (by show 14 < 1000; decide), ?_⟩
      refine k _ ((((f5.trans f6).trans f7).trans (.of s8)).trans (A8.frI.mono (by simp))) (A8.inst T.ne m.bring beg7 tr7 (.ref z) qv7 ?_ (dp_same (tp_same s8) _ _ v2) (.tup (SqT.of (tp_at upd_same rfl)) .nil) (dp_same (tp_same s8) _ _ v4) rfl rfl rfl rfl)
      rw [zip_put (i := 6) sn_nodup rfl (by show 6 < 14; decide)]
      rfl
end
end Pf

set_option Elab.async false
set_option linter.all false
set_option maxRecDepth 100000
set_option maxHeartbeats 4000000
namespace Pf
open PySem PySem.Spec PyProof.Rows L2
theorem scPush : FnScope ["self", "changes", "at", "row", "plate"] ["self"] (defScope sPush) := ⟨rfl, rfl, rfl, by decide +kernel, rfl, by decide +kernel, by decide +kernel⟩
theorem okw_bar {m : MD} (h : OKW m) : OKW m.barrier := by
  obtain ⟨o1, o2, o3, o4, o5, o6, o7, o8⟩ := h
  refine ⟨(settleD_len _ _).trans o1, o2, o3, o4, ?_, Nat.zero_le _, o7, o8⟩
  intro q hq
  exact absurd (show q ∈ ([] : List (Int × PyData)) from hq) (by simp)
def lw (m : MD) (cs : List Ch) (i : Nat) : Int × PyData := (2 + (((m.ns : Nat) : Int) + (i : Nat)) % ((m.S : Nat) : Int), rowD (rowN m.ng i cs.length (cs.getD i (0, []))))
def MD.logW (m : MD) (cs : List Ch) (i : Nat) : MD := { m with ls := m.ls ++ (List.range i).map (lw m cs), evs := m.evs ++ (List.range i).map fun j => wrD (lw m cs j).1 (lw m cs j).2 }
theorem logW_more (m : MD) (cs : List Ch) (i : Nat) : m.logW cs (i + 1) = (m.logW cs i).write (lw m cs i).1 (lw m cs i).2 := by
  unfold MD.logW MD.write
  rw [List.range_succ]
  simp
def MD.grp (m : MD) (m0 : MD) (cs : List Ch) : MD := { m with zs := m0.zs ++ [(m0.ng, m0.ns, cs)] }
def MD.psh (m : MD) : MD := { m with ps := m.ps ++ [(((m.evs.length : Nat) : Int), m.de)] }
def MD.run0 (m : MD) : MD := { m with rn := [] }
def MD.nx (m : MD) : MD := { m with ng := m.ng + 1 }
def MD.adv (m : MD) (k : Nat) : MD := { m with ns := m.ns + k }
def MD.pushed (m : MD) : MD := ((((m.logW (sortC m.rn) (sortC m.rn).length).grp m (sortC m.rn)).psh).run0.nx).adv (sortC m.rn).length
def MD.room (m : MD) : MD := if slotsN m.zs + m.rn.length ≤ m.S then m else m.lay
def MD.push (m : MD) : MD := if m.rn.length = 0 then m else m.room.pushed
theorem StAt.instR {K : PySem.W.Frag} {CS CD : Addr} {H : Hp} {st d h r r' : Addr} {m : MD} {dx : Addr} {fs : List (Str × V)} (A : StAt K CS CD H st d h r m) (hC : CS ≠ CD) (er : H r' = some (.dK [])) (nhr : h ≠ r') (m' : MD) (beg tr gv pv : V) (e : fs = SN.zip (mvals m' beg tr gv pv d h r')) (h1 : Dp K (Tp H) tr (.tuple m'.evs)) (h2 : Dp K (Tp H) gv (gsD m'.zs)) (h3 : Dp K (Tp H) pv (.tuple (m'.ps.map psD)))
    (q1 : m'.ds = m.ds) (q2 : m'.ls = m.ls) (q3 : m'.hm = m.hm) (q4 : m'.rn = []) : StAt K CS CD (upd H st (.ins CS dx fs)) st d h r' m' := by
  obtain ⟨n1, n2, n3, n4, n5⟩ := A.ne hC
  obtain ⟨dx0, beg0, tr0, gv0, pv0, e1, _⟩ := A.ex
  have f : Fr [st] H (upd H st (.ins CS dx fs)) := .put (by simp) (fun u z => by rw [e1] at z; cases z; rfl)
  have nrs : r' ≠ st := fun z => by rw [z, e1] at er; cases er
  refine ⟨⟨dx, beg, tr, gv, pv, by rw [upd_same, e], dp_same f.tp _ _ h1, dp_same f.tp _ _ h2, dp_same f.tp _ _ h3⟩, ?_, ?_, ?_, nhr⟩
  · rw [q1, q2]; exact A.dk.fr f (by simp [n1.symm])
  · rw [q3]; exact A.hd.fr f (by simp [n2])
  · rw [q4]; exact ⟨[], by rw [upd_ne nrs]; exact er, rfl, fun t ht => by simp at ht⟩
theorem rows_tp {K : PySem.W.Frag} {H : Hp} : ∀ {us : List V} {rs : List (List Int)}, DpAll K H us (rs.map rowD) → DpAll K (Tp H) us (rs.map rowD)
  | _, [], h => by cases h; exact .nil
  | _, r :: rs, h => by cases h with | cons h1 h2 => exact .cons (row_tp h1) (rows_tp h2)
section
variable {P : Program} {w : World} {K : PySem.W.Frag} {mg : Str → Option Value} {base : Heap} {CS CD : Addr}
def sp_lay (K : PySem.W.Frag) (CS CD : Addr) : Sp := fun vs H Q _ => ∃ (st d h r : Addr) (m : MD), vs = [.ref st] ∧ StAt K CS CD H st d h r m ∧ OKW m ∧ m.evs.length ≤ 699 ∧ m.ps.length ≤ 900 ∧
  ∀ H', Fr [st, d] H H' → StAt K CS CD H' st d h r m.lay → Q .non H'
theorem ok_lay {f fG fB : Addr} {fd fdG fdB : FuncData} (F : Fun K "lay" "Store.lay" sLay f fd) (T : STxt K CS CD)
    (GB : FnOk P w K mg base CX0 2 fB fdB ["self"] (sp_bar K CS CD)) (mB : Meth K CS "_barrier" fB) (bB : Binds K fdB ["self"] [])
    (GG : FnOk P w K mg base CX0 5 fG fdG ["self"] (sp_bring K CS CD)) (mG : Meth K CS "bring_home" fG) (bG : Binds K fdG ["self"] []) (ml : mg "len" = none) :
    FnOk P w K mg base CX0 6 f fd ["self"] (sp_lay K CS CD) := by
  refine F.ok scLay (fun vs H Q E h => ?_) (fun cdv A outer s H vs Q E hr h => ?_)
  · obtain ⟨st, d, h, r, m, rfl, _⟩ := h
    rfl
  · obtain ⟨st, d, hh, r, m, rfl, A, ok, he, hps, k⟩ := h
    obtain ⟨o1, o2, o3, o4, o5, o6, o7, o8⟩ := id ok
    obtain ⟨dx, beg, tr, gv, qv, e1, e2, e3, e4⟩ := A.ex
    refine ⟨_, pss_cons (ps_if (pt_cmpR op_eq (pe_callB call_len_seq (by rfl) ml boot_len (pa_cons (pe_fld (pv 0) rfl) pa_nil)) pe_int (nomark _)) (pss_one ps_retN) pss_nil)
      (pss_cons (ps_expr (pe_meth0 (pv 0) T.cl mB GB (hr.mono (by decide)) bB .nil pass0))
      (pss_one (ps_expr (pe_meth0 (pv 0) T.cl mG GG hr bG .nil pass0)))), ?_⟩
    obtain ⟨ga, gxs, rfl, hg1, hg2⟩ : ∃ pa pxs, gv = .ref pa ∧ SqT K (Tp H) pa pxs ∧ DpAll K (Tp H) pxs (m.zs.map gD) := by
      have e3' : Dp K (Tp H) gv (.tuple (m.zs.map gD)) := e3
      cases e3' with | tup h1 h2 => exact ⟨_, _, rfl, h1, h2⟩
    have hgl := dps_len hg2
    rw [List.length_map] at hgl
    refine ⟨_, rfl, st, CS, dx, _, _, rfl, e1, T.cl, T.no _ (by decide +kernel), zip_get (i := 6) sn_nodup rfl rfl, ga, gxs, rfl, .inr (same_seqT tp_le hg1), rfl, _, rfl, ite2 (fun hc => ?_) (fun hc => ?_)⟩
    · have hz : m.zs.length = 0 := by
        have := of_decide_eq_true hc
        injection this with this
        omega
      have em : m.lay = m := if_pos hz
      exact k H (.of (Same.refl _)) (by rw [em]; exact A)
    · have hz : ¬ m.zs.length = 0 := fun z => hc (decide_eq_true (by rw [hgl, z]; rfl))
      have em : m.lay = m.barrier.bring := if_neg hz
      refine ⟨_, rfl, st, dx, _, rfl, e1, zip_no (by decide +kernel), st, d, hh, r, m, rfl, A, o5, by omega, by omega, hps, fun H1 f1 A1 => ?_⟩
      obtain ⟨dx1, beg1, tr1, gv1, qv1, v1, _⟩ := A1.ex
      refine ⟨_, rfl, st, dx1, _, rfl, v1, zip_no (by decide +kernel), st, d, hh, r, m.barrier, rfl, A1, okw_bar ok, ?_, hps, fun H2 f2 A2 => k H2 (f1.trans f2) (by rw [em]; exact A2)⟩
      show (m.evs ++ [barD]).length ≤ 700
      rw [List.length_append]
      show _ + 1 ≤ 700
      omega
abbrev NPu : List Str := ["self", "changes", "at", "row", "plate"]
abbrev XPu (P : Program) (w : World) (K : PySem.W.Frag) (mg : Str → Option Value) (base : Heap) (f : Addr) (cdv : Value) (A : Around) (outer : List Env) (s : Shared) (H0 : Hp) (E : XK) : Cx := (cxOf CX0 P w K mg base NPu "Store.push" (defScope sPush) f cdv A outer s H0 E).nox
abbrev stP (j : Nat) : Stmt := (defBody sPush).getD j (.Pass ⟨0, 0, 0, 0⟩)
/-- push, behind the making of room -/
theorem push_rest {fA : Addr} {cdv : Value} {Ar : Around} {outer : List Env} {s : Shared} {H0 : Hp} {E : XK} {fR fS fW : Addr} {fdR fdS fdW : FuncData} (T : STxt K CS CD)
    (GR : FnOk P w K mg base CX0 1 fR fdR ["group", "changes"] (spRows K)) (kR : PySem.W.keepIn K (.ref fR) = true) (gR : mg "log_rows" = some (.ref fR)) (bR : Binds K fdR ["group", "changes"] [])
    (GS : FnOk P w K mg base CX0 1 fS fdS ["slots", "slot"] spSlot) (kS : PySem.W.keepIn K (.ref fS) = true) (gS : mg "slot_plate" = some (.ref fS)) (bS : Binds K fdS ["slots", "slot"] [])
    (GW : FnOk P w K mg base CX0 4 fW fdW ["self", "plate", "value"] (sp_write K CS CD)) (mW : Meth K CS "_write" fW) (bW : Binds K fdW ["self", "plate", "value"] [])
    (ml : mg "len" = none) (me : mg "enumerate" = none) (hr6 : Room 6 (Ar.deeper (envOfC "Store.push" (defScope sPush) s.heap.objs.size fA cdv))) :
    ∃ tm, PSs (XPu P w K mg base fA cdv Ar outer s H0 E) [stP 3, stP 4, stP 5, stP 6, stP 7, stP 8] tm ∧ ∀ (D0 : Ends) (H : Hp) (st d hh r t : Addr) (us : List V) (m : MD), StAt K CS CD H st d hh r m → OKW m → m.evs.length ≤ 700 → m.ps.length ≤ 600 → (∀ c ∈ m.rn, c.2.length = 8) → slotsN m.zs + m.rn.length ≤ m.S → m.zs.length ≤ 900 →
      H t = some (.tup us) → us.length = (sortC m.rn).length → Dp K (Tp H) (.ref t) (chD (sortC m.rn)) → (∀ H' r' σ', Fr [st, d] H H' → H r' = none → StAt K CS CD H' st d hh r' m.pushed → D0.nx σ' H') →
      tm D0 [some (.ref st), some (.ref t), none, none, none] H := by
  have nd := scPush.nd
  have hr : Room 4 _ := hr6.mono (by decide)
  have hr1 : Room 1 _ := hr6.mono (by decide)
  refine ⟨_, pss_cons (ps_for PassesOwn.never rfl (pi_enum (by rfl) me (pa_cons (pe_call GR hr1 rfl gR kR bR .nil pass0 (pa_cons (pe_fld (pv 0) rfl) (pa_cons (pv 1) pa_nil))) pa_nil)) (pg_tup rfl (pgs_cons (pg_name (i := 2) nd rfl (.inl rfl)) (pgs_cons (pg_name (i := 3) nd rfl (.inl rfl)) pgs_nil)))
        (pss_one (ps_expr (pe_meth (pv 0) T.cl mW GW hr bW .nil pass0 (pa_cons (pe_call GS hr1 rfl gS kS bS .nil pass0 (pa_cons (pe_fld (pv 0) rfl) (pa_cons (pe_op op_add (pe_fld (pv 0) rfl) (pv 2)) pa_nil))) (pa_cons (pv 3) pa_nil))))))
      (pss_cons (ps_fld (pv 0) (pe_op op_catA (pe_fld (pv 0) rfl) (pe_tup (pa_cons (pe_tup (pa_cons (pe_fld (pv 0) rfl) (pa_cons (pe_fld (pv 0) rfl) (pa_cons (pv 1) pa_nil)))) pa_nil))) rfl)
      (pss_cons (ps_fld (pv 0) (pe_op op_catA (pe_fld (pv 0) rfl) (pe_tup (pa_cons (pe_tup (pa_cons (pe_callB call_len_seq (by rfl) ml boot_len (pa_cons (pe_fld (pv 0) rfl) pa_nil)) (pa_cons (pe_fld (pv 0) rfl) pa_nil))) pa_nil))) rfl)
      (pss_cons (ps_fld (pv 0) pe_dnewK rfl)
      (pss_cons (ps_fld (pv 0) (pe_op op_add (pe_fld (pv 0) rfl) pe_int) rfl)
      (pss_one (ps_fld (pv 0) (pe_op op_add (pe_fld (pv 0) rfl) (pe_callB call_len_seq (by rfl) ml boot_len (pa_cons (pv 1) pa_nil))) rfl)))))), fun D0 H st d hh r t us m A ok he hps h8 hfit hzl etu hul hch k => ?_⟩
  obtain ⟨o1, o2, o3, o4, o5, o6, o7, o8⟩ := id ok
  obtain ⟨dx, beg, tr, gv, qv, e1, e2, e3, e4⟩ := A.ex
  have hcl : (sortC m.rn).length = m.rn.length := (sortC_perm _).length_eq
  have hc8 : ∀ c ∈ sortC m.rn, c.2.length = 8 := fun c hc => h8 c ((sortC_perm _).subset hc)
  have sb : Same H H := Same.refl H
  have sAb : Same H H := Same.refl H
  refine ⟨_, rfl, st, CS, dx, _, _, rfl, sAb _ _ e1, T.cl, T.no _ (by decide +kernel), zip_get (i := 12) sn_nodup rfl rfl, _, rfl, m.ng, .ref t, sortC m.rn, rfl, dp_same (tp_le.trans sb) _ _ hch, hc8, by omega, fun Hc p vs2 sc hp ep dU => ?_⟩
  have sAc := sAb.trans sc
  have dU' := rows_tp (dps_same off_le _ _ dU)
  have hvl : vs2.length = (sortC m.rn).length := by rw [dps_len dU, List.length_map, rowsN_len]
  have nps : p ≠ st := fun z => by rw [z, sAb _ _ e1] at hp; cases hp
  have npd : p ≠ d := fun z => by
    obtain ⟨sv, lv, ⟨dx2, a, b, ts, x1, _⟩, _⟩ := A.dk
    rw [z, sAb _ _ x1] at hp
    cases hp
  have Ac := A.fr (xs := []) (.of sAc) (by simp) (by simp) (by simp) (by simp)
  have h00 : m.logW (sortC m.rn) 0 = m := by
    unfold MD.logW
    simp
  refine ⟨p, vs2, rfl, SqL.of ep, for_it (walk_enum (K := K) (a := p) (xs := vs2)) (fun i σ H' => ∃ y2 y3, σ = [some (.ref st), some (.ref t), y2, y3, none] ∧ Fr [st, d] Hc H' ∧ StAt K CS CD H' st d hh r (m.logW (sortC m.rn) i))
    ⟨none, none, rfl, .of (Same.refl _), by rw [h00]; exact Ac⟩ (fun i σ H' _ z => by obtain ⟨_, _, _, z, _⟩ := z; exact SqL.of (z.at ep (by simp [nps, npd]))) ?_ ?_⟩
  · rintro i x σ Hd He hi ⟨y2, y3, rfl, fr, A2⟩ ⟨T', x0, x1, rfl, nT, rfl, e0, ex⟩
    cases (Option.some.inj e0)
    have hil : i < (sortC m.rn).length := by omega
    obtain ⟨d2, hd2, hp2⟩ := dps_get dU' ex
    rw [List.getElem?_map, rowsN_get, List.getElem?_eq_getElem hil] at hd2
    have ed : rowD (rowN m.ng (0 + i) (sortC m.rn).length (sortC m.rn)[i]) = d2 := Option.some.inj hd2
    subst ed
    have sT := same_upd (o := .tup [.int (i : Nat), x1]) nT
    have A3 := A2.fr (xs := []) (.of sT) (by simp) (by simp) (by simp) (by simp)
    obtain ⟨dx', beg', tr', gv', qv', w1, w2, w3, w4⟩ := A3.ex
    have elw : (lw m (sortC m.rn) i).2 = rowD (rowN m.ng (0 + i) (sortC m.rn).length (sortC m.rn)[i]) := by
      unfold lw
      rw [Nat.zero_add, List.getD_eq_getElem?_getD, List.getElem?_eq_getElem hil]
      rfl
    have hSpos : (0 : Int) < ((m.S : Nat) : Int) := by omega
    have hm1 := Int.emod_nonneg (((m.ns : Nat) : Int) + (i : Nat)) (show ((m.S : Nat) : Int) ≠ 0 by omega)
    have hm2 := Int.emod_lt_of_pos (((m.ns : Nat) : Int) + (i : Nat)) hSpos
    refine ⟨T', _, rfl, SqT.of upd_same, rfl, _, _, rfl, _, _, rfl, rfl, _, rfl, st, dx', _, rfl, w1, zip_no (by decide +kernel), _, rfl, st, CS, dx', _, _, rfl, w1, T.cl, T.no _ (by decide +kernel), zip_get (i := 1) sn_nodup rfl rfl, _, rfl, st, CS, dx', _, _, rfl, w1, T.cl, T.no _ (by decide +kernel), zip_get (i := 13) sn_nodup rfl rfl, _, rfl, _, _, rfl, rfl, _, _, rfl, hSpos, _, rfl, ?_⟩
    refine ⟨st, d, hh, r, m.logW (sortC m.rn) i, (lw m (sortC m.rn) i).1, x1, (lw m (sortC m.rn) i).2, rfl, A3, ?_, ?_, ?_, ?_, ?_, fun Hf ff Af => ⟨_, _, rfl, (fr.trans (.of sT)).trans ff, by rw [logW_more]; exact Af⟩⟩
    · show 0 ≤ 2 + (((m.ns : Nat) : Int) + (i : Nat)) % ((m.S : Nat) : Int)
      omega
    · show 2 + (((m.ns : Nat) : Int) + (i : Nat)) % ((m.S : Nat) : Int) < ((m.ds.length : Nat) : Int)
      omega
    · rw [elw]
      exact dp_same (fr.trans (.of sT)).tp _ _ hp2
    · show (m.ls ++ _).length ≤ 900
      rw [List.length_append, List.length_map, List.length_range]
      omega
    · show (m.evs ++ _).length ≤ 900
      rw [List.length_append, List.length_map, List.length_range]
      omega
  · rintro σ Hd ⟨y2, y3, rfl, fr, A2⟩
    rw [hvl] at A2
    have hch2 := dp_same ((tp_same (sb.trans sc)).trans fr.tp) _ _ hch
    have fd : Fr [st, d] H Hd := (Fr.of sAc).trans fr
    obtain ⟨dxa, bega, tra, gva, qva, w1, w2, w3, w4⟩ := A2.ex
    obtain ⟨ga, gxs, rfl, hg1, hg2⟩ : ∃ pa pxs, gva = .ref pa ∧ SqT K (Tp Hd) pa pxs ∧ DpAll K (Tp Hd) pxs (m.zs.map gD) := by
      have e3' : Dp K (Tp Hd) gva (.tuple (m.zs.map gD)) := w3
      cases e3' with | tup h1 h2 => exact ⟨_, _, rfl, h1, h2⟩
    have hgl := dps_len hg2
    rw [List.length_map] at hgl
    -- groups
    refine ⟨_, rfl, st, CS, dxa, _, _, rfl, w1, T.cl, T.no _ (by decide +kernel), zip_get (i := 6) sn_nodup rfl rfl, _, rfl, st, CS, dxa, _, _, rfl, w1, T.cl, T.no _ (by decide +kernel), zip_get (i := 12) sn_nodup rfl rfl, _, rfl, st, CS, dxa, _, _, rfl, w1, T.cl, T.no _ (by decide +kernel), zip_get (i := 13) sn_nodup rfl rfl, _, rfl, (by show 3 ≤ sizeLine; decide), fun u hu => ⟨(by show 1 ≤ sizeLine; decide), fun u2 hu2 => ?_⟩⟩
    have s1 := same_upd (o := .tup [.int m.ng, .int ((m.ns : Nat) : Int), .ref t]) hu
    have s2 := s1.trans (same_upd (o := .tup [.ref u]) hu2)
    have nu2 : u ≠ u2 := fun z => by rw [← z, upd_same] at hu2; cases hu2
    have heu : (upd (upd Hd u (.tup [.int m.ng, .int ((m.ns : Nat) : Int), .ref t])) u2 (.tup [.ref u])) u = some (.tup [.int m.ng, .int ((m.ns : Nat) : Int), .ref t]) := by rw [upd_ne nu2, upd_same]
    refine cat_use (same_seqT (tp_le.trans s2) hg1) (SqT.of upd_same) (by show gxs.length + 1 ≤ sizeLine; rw [sizeLine_eq]; omega) fun c He se hc => ?_
    have s3 := s2.trans se
    have A3 := A2.fr (xs := []) (.of s3) (by simp) (by simp) (by simp) (by simp)
    have du : Dp K (Tp He) (.ref u) (gD (m.ng, m.ns, sortC m.rn)) := .tup (SqT.of (tp_at (se _ _ heu) rfl)) (.cons (.int _) (.cons (.int _) (.cons (dp_same (tp_same s3) _ _ hch2) .nil)))
    have hcd : Dp K (Tp He) (.ref c) (gsD (m.zs ++ [(m.ng, m.ns, sortC m.rn)])) := by
      refine .tup (sqt_tp hc) ?_
      rw [List.map_append]
      exact dps_app (dps_same (tp_same s3) _ _ hg2) (.cons du .nil)
    refine ⟨_, rfl, st, CS, dxa, _, rfl, s3 _ _ w1, T.cl, T.no _ (by decide +kernel), (by show 14 < 1000; decide), ?_⟩
    have ez : putF "groups" (V.ref c) (SN.zip (mvals (m.logW (sortC m.rn) (sortC m.rn).length) bega tra (.ref ga) qva d hh r)) = SN.zip (mvals ((m.logW (sortC m.rn) (sortC m.rn).length).grp m (sortC m.rn)) bega tra (.ref c) qva d hh r) := by
      rw [zip_put (i := 6) sn_nodup rfl (by show 6 < 14; decide)]
      rfl
    rw [ez]
    have B1 := A3.inst (dx := dxa) T.ne ((m.logW (sortC m.rn) (sortC m.rn).length).grp m (sortC m.rn)) bega tra (.ref c) qva rfl (dp_same (tp_same s3) _ _ w2) hcd (dp_same (tp_same s3) _ _ w4) rfl rfl rfl rfl
    have g1 : Fr [st, d] H (upd He st (.ins CS dxa (SN.zip (mvals ((m.logW (sortC m.rn) (sortC m.rn).length).grp m (sortC m.rn)) bega tra (.ref c) qva d hh r)))) := (fd.trans (.of s3)).trans (A3.frI.mono (by simp))
    have t1 : (upd He st (.ins CS dxa (SN.zip (mvals ((m.logW (sortC m.rn) (sortC m.rn).length).grp m (sortC m.rn)) bega tra (.ref c) qva d hh r)))) t = some (.tup us) := by
      refine A3.frI.tup (s3 _ _ (fr.tup (sc _ _ (sb _ _ etu))))
    generalize (upd He st (.ins CS dxa (SN.zip (mvals ((m.logW (sortC m.rn) (sortC m.rn).length).grp m (sortC m.rn)) bega tra (.ref c) qva d hh r)))) = I1 at B1 g1 t1
    clear hg1 hg2 w1 w2 w3 w4
    obtain ⟨dxb, begb, trb, gvb, qvb, w1, w2, w3, w4⟩ := B1.ex
    obtain ⟨ta, txs, rfl, hta, htb⟩ : ∃ pa pxs, trb = .ref pa ∧ SqT K (Tp I1) pa pxs ∧ DpAll K (Tp I1) pxs (m.logW (sortC m.rn) (sortC m.rn).length).evs := by
      cases w2 with | tup h1 h2 => exact ⟨_, _, rfl, h1, h2⟩
    obtain ⟨pa, pxs, rfl, hpa, hpb⟩ : ∃ pa pxs, qvb = .ref pa ∧ SqT K (Tp I1) pa pxs ∧ DpAll K (Tp I1) pxs (m.ps.map psD) := by
      have w4' : Dp K (Tp I1) qvb (.tuple (m.ps.map psD)) := w4
      cases w4' with | tup h1 h2 => exact ⟨_, _, rfl, h1, h2⟩
    have htl := dps_len htb
    have hpl := dps_len hpb
    rw [List.length_map] at hpl
    -- pushed
    refine ⟨_, rfl, st, CS, dxb, _, _, rfl, w1, T.cl, T.no _ (by decide +kernel), zip_get (i := 7) sn_nodup rfl rfl, _, rfl, st, CS, dxb, _, _, rfl, w1, T.cl, T.no _ (by decide +kernel), zip_get (i := 3) sn_nodup rfl rfl, ta, txs, rfl, .inr (same_seqT tp_le hta), _, rfl, st, CS, dxb, _, _, rfl, w1, T.cl, T.no _ (by decide +kernel), zip_get (i := 4) sn_nodup rfl rfl, (by show 2 ≤ sizeLine; decide), fun v hv => ⟨(by show 1 ≤ sizeLine; decide), fun v2 hv2 => ?_⟩⟩
    have s4 := same_upd (o := .tup [.int (txs.length : Nat), .int ((m.logW (sortC m.rn) (sortC m.rn).length).grp m (sortC m.rn)).de]) hv
    have s5' := s4.trans (same_upd (o := .tup [.ref v]) hv2)
    have nv2 : v ≠ v2 := fun z => by rw [← z, upd_same] at hv2; cases hv2
    have hev : (upd (upd I1 v (.tup [.int (txs.length : Nat), .int ((m.logW (sortC m.rn) (sortC m.rn).length).grp m (sortC m.rn)).de])) v2 (.tup [.ref v])) v = some (.tup [.int (txs.length : Nat), .int ((m.logW (sortC m.rn) (sortC m.rn).length).grp m (sortC m.rn)).de]) := by rw [upd_ne nv2, upd_same]
    refine cat_use (same_seqT (tp_le.trans s5') hpa) (SqT.of upd_same) (by show pxs.length + 1 ≤ sizeLine; rw [sizeLine_eq]; omega) fun c2 Hf sf hc2 => ?_
    have s6' := s5'.trans sf
    have B2 := B1.fr (xs := []) (.of s6') (by simp) (by simp) (by simp) (by simp)
    have dv : Dp K (Tp Hf) (.ref v) (psD (((((m.logW (sortC m.rn) (sortC m.rn).length).evs.length : Nat) : Int), m.de) : Int × Int)) := by
      rw [← htl]
      exact .tup (SqT.of (tp_at (sf _ _ hev) rfl)) (.cons (.int _) (.cons (.int _) .nil))
    have hcd2 : Dp K (Tp Hf) (.ref c2) (.tuple ((m.ps ++ [((((m.logW (sortC m.rn) (sortC m.rn).length).evs.length : Nat) : Int), m.de)]).map psD)) := by
      refine .tup (sqt_tp hc2) ?_
      rw [List.map_append]
      exact dps_app (dps_same (tp_same s6') _ _ hpb) (.cons dv .nil)
    refine ⟨_, rfl, st, CS, dxb, _, rfl, s6' _ _ w1, T.cl, T.no _ (by decide +kernel), (by show 14 < 1000; decide), ?_⟩
    have ez2 : putF "pushed" (V.ref c2) (SN.zip (mvals ((m.logW (sortC m.rn) (sortC m.rn).length).grp m (sortC m.rn)) begb (.ref ta) gvb (.ref pa) d hh r)) = SN.zip (mvals ((m.logW (sortC m.rn) (sortC m.rn).length).grp m (sortC m.rn)).psh begb (.ref ta) gvb (.ref c2) d hh r) := by
      rw [zip_put (i := 7) sn_nodup rfl (by show 7 < 14; decide)]
      rfl
    rw [ez2]
    have B3 := B2.inst (dx := dxb) T.ne ((m.logW (sortC m.rn) (sortC m.rn).length).grp m (sortC m.rn)).psh begb (.ref ta) gvb (.ref c2) rfl (dp_same (tp_same s6') _ _ w2) (dp_same (tp_same s6') _ _ w3) hcd2 rfl rfl rfl rfl
    have g2 : Fr [st, d] H (upd Hf st (.ins CS dxb (SN.zip (mvals ((m.logW (sortC m.rn) (sortC m.rn).length).grp m (sortC m.rn)).psh begb (.ref ta) gvb (.ref c2) d hh r)))) := (g1.trans (.of s6')).trans (B2.frI.mono (by simp))
    have t2 : (upd Hf st (.ins CS dxb (SN.zip (mvals ((m.logW (sortC m.rn) (sortC m.rn).length).grp m (sortC m.rn)).psh begb (.ref ta) gvb (.ref c2) d hh r)))) t = some (.tup us) := B2.frI.tup (s6' _ _ t1)
    generalize (upd Hf st (.ins CS dxb (SN.zip (mvals ((m.logW (sortC m.rn) (sortC m.rn).length).grp m (sortC m.rn)).psh begb (.ref ta) gvb (.ref c2) d hh r)))) = I2 at B3 g2 t2
    clear hta htb hpa hpb w1 w2 w3 w4
    obtain ⟨dxc, begc, trc, gvc, qvc, w1, w2, w3, w4⟩ := B3.ex
    -- the running group
    intro r2 hr2
    have s7 := same_upd (o := .dK []) hr2
    have B4 := B3.fr (xs := []) (.of s7) (by simp) (by simp) (by simp) (by simp)
    obtain ⟨hts, hh1, _, _⟩ := A.hd
    have nhr2 : hh ≠ r2 := fun z => by
      obtain ⟨hts2, hh2, _⟩ := B3.hd
      rw [z, hr2] at hh2
      cases hh2
    have hr20 : H r2 = none := by
      cases e0 : H r2 with
      | none => rfl
      | some o =>
        by_cases hb : r2 ∈ [st, d]
        · rcases List.mem_cons.mp hb with z | z
          · rw [z, w1] at hr2; cases hr2
          · rw [List.mem_singleton.mp z] at hr2
            obtain ⟨sv, lv, ⟨dx2, a, b, ts, x1, _⟩, _⟩ := B3.dk
            rw [x1] at hr2
            cases hr2
        · rw [g2.at e0 hb] at hr2
          cases hr2
    refine ⟨_, rfl, st, CS, dxc, _, rfl, s7 _ _ w1, T.cl, T.no _ (by decide +kernel), (by show 14 < 1000; decide), ?_⟩
    have ez3 : putF "_running" (V.ref r2) (SN.zip (mvals ((m.logW (sortC m.rn) (sortC m.rn).length).grp m (sortC m.rn)).psh begc trc gvc qvc d hh r)) = SN.zip (mvals ((m.logW (sortC m.rn) (sortC m.rn).length).grp m (sortC m.rn)).psh.run0 begc trc gvc qvc d hh r2) := by
      rw [zip_put (i := 10) sn_nodup rfl (by show 10 < 14; decide)]
      rfl
    rw [ez3]
    have B5 := B4.instR (dx := dxc) T.ne (r' := r2) upd_same nhr2 ((m.logW (sortC m.rn) (sortC m.rn).length).grp m (sortC m.rn)).psh.run0 begc trc gvc qvc rfl (dp_same (tp_same s7) _ _ w2) (dp_same (tp_same s7) _ _ w3) (dp_same (tp_same s7) _ _ w4) rfl rfl rfl rfl
    have g3 : Fr [st, d] H (upd (upd I2 r2 (.dK [])) st (.ins CS dxc (SN.zip (mvals ((m.logW (sortC m.rn) (sortC m.rn).length).grp m (sortC m.rn)).psh.run0 begc trc gvc qvc d hh r2)))) := (g2.trans (.of s7)).trans (B4.frI.mono (by simp))
    have t3 : (upd (upd I2 r2 (.dK [])) st (.ins CS dxc (SN.zip (mvals ((m.logW (sortC m.rn) (sortC m.rn).length).grp m (sortC m.rn)).psh.run0 begc trc gvc qvc d hh r2)))) t = some (.tup us) := B4.frI.tup (s7 _ _ t2)
    generalize (upd (upd I2 r2 (.dK [])) st (.ins CS dxc (SN.zip (mvals ((m.logW (sortC m.rn) (sortC m.rn).length).grp m (sortC m.rn)).psh.run0 begc trc gvc qvc d hh r2)))) = I3 at B5 g3 t3
    obtain ⟨dxd, begd, trd, gvd, qvd, w1, w2, w3, w4⟩ := B5.ex
    refine ⟨_, rfl, st, CS, dxd, _, _, rfl, w1, T.cl, T.no _ (by decide +kernel), zip_get (i := 12) sn_nodup rfl rfl, _, _, rfl, rfl, _, rfl, st, CS, dxd, _, rfl, w1, T.cl, T.no _ (by decide +kernel), (by show 14 < 1000; decide), ?_⟩
    have ez4 : putF "_next_group" (V.int (((m.logW (sortC m.rn) (sortC m.rn).length).grp m (sortC m.rn)).psh.run0.ng + 1)) (SN.zip (mvals ((m.logW (sortC m.rn) (sortC m.rn).length).grp m (sortC m.rn)).psh.run0 begd trd gvd qvd d hh r2)) = SN.zip (mvals ((m.logW (sortC m.rn) (sortC m.rn).length).grp m (sortC m.rn)).psh.run0.nx begd trd gvd qvd d hh r2) := by
      rw [zip_put (i := 12) sn_nodup rfl (by show 12 < 14; decide)]
      rfl
    rw [ez4]
    have B6 := B5.inst (dx := dxd) T.ne ((m.logW (sortC m.rn) (sortC m.rn).length).grp m (sortC m.rn)).psh.run0.nx begd trd gvd qvd rfl w2 w3 w4 rfl rfl rfl rfl
    have g4 : Fr [st, d] H (upd I3 st (.ins CS dxd (SN.zip (mvals ((m.logW (sortC m.rn) (sortC m.rn).length).grp m (sortC m.rn)).psh.run0.nx begd trd gvd qvd d hh r2)))) := g3.trans (B5.frI.mono (by simp))
    have t4 : (upd I3 st (.ins CS dxd (SN.zip (mvals ((m.logW (sortC m.rn) (sortC m.rn).length).grp m (sortC m.rn)).psh.run0.nx begd trd gvd qvd d hh r2)))) t = some (.tup us) := B5.frI.tup t3
    generalize (upd I3 st (.ins CS dxd (SN.zip (mvals ((m.logW (sortC m.rn) (sortC m.rn).length).grp m (sortC m.rn)).psh.run0.nx begd trd gvd qvd d hh r2)))) = I4 at B6 g4 t4
    obtain ⟨dxe, bege, tre, gve, qve, w1, w2, w3, w4⟩ := B6.ex
    refine ⟨_, rfl, st, CS, dxe, _, _, rfl, w1, T.cl, T.no _ (by decide +kernel), zip_get (i := 13) sn_nodup rfl rfl, _, rfl, t, us, rfl, .inr (SqT.of t4), _, _, rfl, rfl, _, rfl, st, CS, dxe, _, rfl, w1, T.cl, T.no _ (by decide +kernel), (by show 14 < 1000; decide), ?_⟩
    refine k _ r2 _ (g4.trans (B6.frI.mono (by simp))) hr20 (B6.inst T.ne m.pushed bege tre gve qve ?_ w2 w3 w4 rfl rfl rfl rfl)
    rw [zip_put (i := 13) sn_nodup rfl (by show 13 < 14; decide), hul]
    show SN.zip (((mvals ((m.logW (sortC m.rn) (sortC m.rn).length).grp m (sortC m.rn)).psh.run0.nx bege tre gve qve d hh r2)).set 13 _) = _
    have en : V.int (((m.ns : Nat) : Int) + ((sortC m.rn).length : Nat)) = V.int (((m.ns + (sortC m.rn).length : Nat)) : Int) := by
      congr 1
    show SN.zip (((mvals ((m.logW (sortC m.rn) (sortC m.rn).length).grp m (sortC m.rn)).psh.run0.nx bege tre gve qve d hh r2)).set 13 (V.int (((m.ns : Nat) : Int) + ((sortC m.rn).length : Nat)))) = _
    rw [en]
    rfl
def PushOk (m : MD) : Prop := OKW m ∧ m.evs.length ≤ 600 ∧ m.ps.length ≤ 600 ∧ (m.rn.map (·.1)).Nodup ∧ (∀ c ∈ m.rn, c.2.length = 8) ∧ m.rn.length ≤ m.S ∧ m.zs.length ≤ 900
def sp_push (K : PySem.W.Frag) (CS CD : Addr) : Sp := fun vs H Q _ => ∃ (st d h r : Addr) (m : MD), vs = [.ref st] ∧ StAt K CS CD H st d h r m ∧ PushOk m ∧
  ∀ H' r', Fr [st, d] H H' → (r' = r ∨ H r' = none) → StAt K CS CD H' st d h r' m.push → Q .non H'
theorem okw_lay {m : MD} (h : OKW m) : OKW m.lay := by
  unfold MD.lay
  split
  · exact h
  · obtain ⟨o1, o2, o3, o4, o5, o6, o7, o8⟩ := h
    refine ⟨?_, o2, o3, o4, fun q hq => absurd (show q ∈ ([] : List (Int × PyData)) from hq) (by simp), Nat.zero_le _, fun z hz => absurd (show z ∈ ([] : List Gr) from hz) (by simp), by show 0 < 64; decide⟩
    show (settleD (settleD (settleD m.ds m.ls) _) _).length = _
    rw [settleD_len, settleD_len, settleD_len]
    exact o1
theorem last_len (m : MD) : m.last.length ≤ slotsN m.zs := by
  have h2 := (lastC_ok (m.n : Nat) m.zs m.zs.length).2
  rw [List.take_length] at h2
  unfold MD.last
  rw [(sortC_perm _).length_eq]
  exact h2
theorem lay_evs (m : MD) : m.lay.evs.length ≤ m.evs.length + slotsN m.zs + 4 := by
  unfold MD.lay
  split
  · omega
  · show ((((m.evs ++ [barD]) ++ m.barrier.last.map _) ++ [barD]) ++ [_] ++ [barD]).length ≤ _
    have := last_len m
    have e : m.barrier.last = m.last := rfl
    simp only [List.length_append, List.length_map, List.length_singleton, e]
    omega
theorem room_facts (m : MD) : m.room.rn = m.rn ∧ m.room.S = m.S ∧ m.room.ps = m.ps ∧ m.room.n = m.n := by
  unfold MD.room MD.lay
  split
  · exact ⟨rfl, rfl, rfl, rfl⟩
  · split <;> exact ⟨rfl, rfl, rfl, rfl⟩
theorem room_fit (m : MD) (h : m.rn.length ≤ m.S) : slotsN m.room.zs + m.rn.length ≤ m.S := by
  unfold MD.room MD.lay
  split
  · assumption
  · split
    · rename_i h1 h2
      have : m.zs = [] := List.eq_nil_of_length_eq_zero h2
      rw [this]
      show 0 + _ ≤ _
      omega
    · show 0 + _ ≤ _
      omega
theorem ok_push {f fZ fR fS fW fL : Addr} {fd fdZ fdR fdS fdW fdL : FuncData} (F : Fun K "push" "Store.push" sPush f fd) (T : STxt K CS CD)
    (GZ : FnOk P w K mg base CX0 1 fZ fdZ ["groups"] (spSlotsT K)) (kZ : PySem.W.keepIn K (.ref fZ) = true) (gZ : mg "slots_of" = some (.ref fZ)) (bZ : Binds K fdZ ["groups"] [])
    (GR : FnOk P w K mg base CX0 1 fR fdR ["group", "changes"] (spRows K)) (kR : PySem.W.keepIn K (.ref fR) = true) (gR : mg "log_rows" = some (.ref fR)) (bR : Binds K fdR ["group", "changes"] [])
    (GS : FnOk P w K mg base CX0 1 fS fdS ["slots", "slot"] spSlot) (kS : PySem.W.keepIn K (.ref fS) = true) (gS : mg "slot_plate" = some (.ref fS)) (bS : Binds K fdS ["slots", "slot"] [])
    (GW : FnOk P w K mg base CX0 4 fW fdW ["self", "plate", "value"] (sp_write K CS CD)) (mW : Meth K CS "_write" fW) (bW : Binds K fdW ["self", "plate", "value"] [])
    (GY : FnOk P w K mg base CX0 6 fL fdL ["self"] (sp_lay K CS CD)) (mY : Meth K CS "lay" fL) (bY : Binds K fdL ["self"] [])
    (ml : mg "len" = none) (mT : mg "tuple" = none) (mS : mg "sorted" = none) (me : mg "enumerate" = none) :
    FnOk P w K mg base CX0 7 f fd ["self"] (sp_push K CS CD) := by
  refine F.ok scPush (fun vs H Q E h => ?_) (fun cdv Ar outer s H vs Q E hr h => ?_)
  · obtain ⟨st, d, h, r, m, rfl, _⟩ := h
    rfl
  · obtain ⟨st, d, hh, r, m, rfl, A, ⟨ok, he, hps, hnd, h8, hle, hzl⟩, k⟩ := h
    obtain ⟨o1, o2, o3, o4, o5, o6, o7, o8⟩ := id ok
    obtain ⟨dx, beg, tr, gv, qv, e1, e2, e3, e4⟩ := A.ex
    obtain ⟨rts, er, et, ht⟩ := A.rd
    have nd := scPush.nd
    have hr1 : Room 1 _ := hr.mono (by decide)
    obtain ⟨tm, hrest, qrest⟩ := push_rest (fA := f) (cdv := cdv) (Ar := Ar) (outer := outer) (s := s) (H0 := H) (E := E) T GR kR gR bR GS kS gS bS GW mW bW ml me hr
    refine ⟨_, pss_cons (ps_if (pt_cmpR op_eq (pe_callB call_lenD (by rfl) ml boot_len (pa_cons (pe_fld (pv 0) rfl) pa_nil)) pe_int (nomark _)) (pss_one ps_retN) pss_nil)
      (pss_cons (ps_set (i := 1) nd rfl (.inl rfl) (pe_callTy call_tuple_of (by rfl) mT boot_tuple (pa_cons
        (pe_lc (own := [("plate", 4)]) (g := gName 4) (tt := tYes) (te := tTup (tCons (tVar 4) (tCons (tDGet (tFld K (tVar 0) "_running") (tVar 4)) tNil))) rfl nd (pi_list (pe_callB (call_sortedDI rfl) (by rfl) mS (by decide +kernel) (pa_cons (pe_fld (pv 0) rfl) pa_nil))) (blkOk_by (N := ["self", "changes", "at", "row", "plate"]) (sc := defScope sPush) (by decide +kernel))
          (fun _ _ _ _ _ => pg_name (i := 4) nd rfl (.inl rfl)) (fun _ _ _ _ _ => pts_nil)
          (fun _ _ _ _ _ => pe_tup (pa_cons (pv 4) (pa_cons (pe_dget (hu_of hr) (pe_fld (pv 0) rfl) (pv 4) (fun _ _ => rfl)) pa_nil)))) pa_nil)))
      (pss_cons (ps_if (pt_cmpR op_gt (pe_op op_add (pe_call GZ hr1 rfl gZ kZ bZ .nil pass0 (pa_cons (pe_fld (pv 0) rfl) pa_nil)) (pe_callB call_len_seq (by rfl) ml boot_len (pa_cons (pv 1) pa_nil))) (pe_fld (pv 0) rfl) (nomark _)) (pss_one (ps_expr (pe_meth0 (pv 0) T.cl mY GY hr bY .nil pass0))) pss_nil)
      hrest)), ?_⟩
    have hrl : rts.length = m.rn.length := by rw [← et]; unfold tc; rw [List.length_map]
    have htkl : (tk rts).length = m.rn.length := by rw [← hrl]; unfold tk; rw [List.length_map]
    refine ⟨_, rfl, st, CS, dx, _, _, rfl, e1, T.cl, T.no _ (by decide +kernel), zip_get (i := 10) sn_nodup rfl rfl, r, tk rts, rfl, er, rfl, _, rfl, ite2 (fun hc => ?_) (fun hc => ?_)⟩
    · have hz : m.rn.length = 0 := by
        have := of_decide_eq_true hc
        injection this with this
        omega
      have em : m.push = m := if_pos hz
      exact k H r (.of (Same.refl _)) (.inl rfl) (by rw [em]; exact A)
    · have hz : ¬ m.rn.length = 0 := fun z => hc (decide_eq_true (by rw [htkl, z]; rfl))
      have em : m.push = m.room.pushed := if_neg hz
      have hndr : (rts.map (·.1)).Nodup := by rw [← tc_keys, et]; exact hnd
      refine ⟨_, rfl, st, CS, dx, _, _, rfl, e1, T.cl, T.no _ (by decide +kernel), zip_get (i := 10) sn_nodup rfl rfl, r, tk rts, rts.map (·.1), rfl, .inl er, tk_keys rts, (by rw [List.length_map]; omega), fun zs' p2 hperm hpw hp2 => ?_⟩
      have eys : zs' = (sortC (tc rts)).map (·.1) := sorted_keys (by rw [tc_keys]; exact hperm) hpw
      subst eys
      have s5 := same_upd (o := .lst (((sortC (tc rts)).map (·.1)).map V.int)) hp2
      refine ⟨p2, rfl, ⟨_, SqL.of upd_same⟩, fun D hD => lc_list (K := K) (a := p2) (xs := ((sortC (tc rts)).map (·.1)).map V.int)
          (fun i H' => Same (upd H p2 (.lst (((sortC (tc rts)).map (·.1)).map V.int))) H' ∧ ∃ us, H' D = some (.lst us) ∧ us.length = i ∧ DpAll K (Tp H') us (((sortC (tc rts)).take i).map pD)) ⟨same_upd hD, [], upd_same, rfl, .nil⟩ (fun i H' _ z => SqL.of (z.1 _ _ upd_same)) ?_ ?_⟩
      · rintro i x H' hi ⟨s6, us, eD, hul, hus⟩
        rw [List.map_map, List.getElem?_map] at hi
        cases ei : (sortC (tc rts))[i]? with
        | none => rw [ei] at hi; cases hi
        | some q =>
          rw [ei] at hi
          have hx : V.int q.1 = x := Option.some.inj hi
          subst hx
          obtain ⟨t, ht2, t1, t2⟩ := sort_mem (List.mem_of_getElem? ei)
          have g1 := ht t ht2
          have s7 := s5.trans s6
          have hv := tk_get hndr ht2
          rw [t1] at hv
          refine ⟨rfl, tyes_go ?_⟩
          refine ⟨_, rfl, _, rfl, st, CS, dx, _, _, rfl, s7 _ _ e1, T.cl, T.no _ (by decide +kernel), zip_get (i := 10) sn_nodup rfl rfl, _, rfl, r, t.2.1, rfl, .inl ⟨tk rts, Sum.inl q.1, .inl (s7 _ _ er), rfl, hv.symm⟩, (by show 2 ≤ sizeLine; decide), fun u hu => ?_⟩
          have nDu : D ≠ u := ne_of_none eD hu
          have hil : i < 64 := by
            have h1 := (List.getElem?_eq_some_iff.mp ei).1
            rw [(sortC_perm _).length_eq] at h1
            unfold tc at h1
            rw [List.length_map] at h1
            omega
          refine ⟨us, by rw [upd_ne nDu]; exact eD, (by rw [hul]; exact small1000 (by omega)), fun b o e => ?_, us ++ [.ref u], upd_same, by rw [List.length_append, hul]; rfl, ?_⟩
          · rw [upd_ne (ne_of_none e hD)]
            exact (s6.trans (same_upd hu)) _ _ e
          · have k1 : Same (Tp H') (Tp (upd (upd H' u (.tup [.int q.1, t.2.1])) D (.lst (us ++ [.ref u])))) := (tp_same (same_upd hu)).trans (tp_put (fun o e => by rw [upd_ne nDu, eD] at e; cases e; rfl))
            rw [List.take_add_one, ei, List.map_append]
            refine dps_app (dps_same k1 _ _ hus) (.cons (.tup (SqT.of (xs := [.int q.1, t.2.1]) (tp_at (by rw [upd_ne nDu.symm, upd_same]) rfl)) (.cons (.int _) (.cons ?_ .nil))) .nil)
            have := dp_same ((tp_same s7).trans k1) _ _ g1
            rw [t2] at this
            exact this
      · rintro H7 ⟨s6, us, eD, hul, hus⟩
        have hL : (((sortC (tc rts)).map (·.1)).map V.int).length = (sortC (tc rts)).length := by rw [List.length_map, List.length_map]
        rw [hL, List.take_length, et] at hus
        rw [hL, et] at hul
        refine ⟨D, us, rfl, .inl ⟨SqL.of eD, fun t ht0 => ?_⟩⟩
        have sA := (s5.trans s6).trans (same_upd (o := .tup us) ht0)
        have hch : Dp K (Tp (upd H7 t (.tup us))) (.ref t) (chD (sortC m.rn)) := .tup (SqT.of (tp_at upd_same rfl)) (dps_same (tp_same (same_upd ht0)) _ _ hus)
        have etu : (upd H7 t (.tup us)) t = some (.tup us) := upd_same
        generalize (upd H7 t (.tup us)) = Ha at sA hch etu
        have Aa := A.fr (xs := []) (.of sA) (by simp) (by simp) (by simp) (by simp)
        have hcl : (sortC m.rn).length = m.rn.length := (sortC_perm _).length_eq
        have hc8 : ∀ c ∈ sortC m.rn, c.2.length = 8 := fun c hc => h8 c ((sortC_perm _).subset hc)
        refine ⟨_, rfl, st, CS, dx, _, _, rfl, sA _ _ e1, T.cl, T.no _ (by decide +kernel), zip_get (i := 6) sn_nodup rfl rfl, gv, m.zs, rfl, dp_same (tp_same sA) _ _ e3, by omega, fun Hb sb => ?_⟩
        have sAb := sA.trans sb
        refine ⟨_, rfl, t, us, rfl, .inr (SqT.of (sb _ _ etu)), _, _, rfl, rfl, _, rfl, st, CS, dx, _, _, rfl, sAb _ _ e1, T.cl, T.no _ (by decide +kernel), zip_get (i := 1) sn_nodup rfl rfl, _, _, rfl, rfl, _, rfl, ite2 (fun hcnd => ?_) (fun hcnd => ?_)⟩
        · have hfit : ¬ slotsN m.zs + m.rn.length ≤ m.S := by
            have := of_decide_eq_true hcnd
            omega
          have em2 : m.room = m.lay := if_neg hfit
          have Ab := A.fr (xs := []) (.of sAb) (by simp) (by simp) (by simp) (by simp)
          refine ⟨_, rfl, st, dx, _, rfl, sAb _ _ e1, zip_no (by decide +kernel), st, d, hh, r, m, rfl, Ab, ok, by omega, by omega, fun Hc fc Ac => ?_⟩
          have hL := lay_evs m
          obtain ⟨q1, q2, q3, q4⟩ := room_facts m
          rw [em2] at q1 q2 q3 q4
          have hf := room_fit m hle
          rw [em2] at hf
          have hzl2 : m.lay.zs.length ≤ 900 := by
            unfold MD.lay
            split
            · exact hzl
            · exact Nat.zero_le _
          refine qrest _ Hc st d hh r t us m.lay Ac (okw_lay ok) (by omega) (by rw [q3]; exact hps) (by rw [q1]; exact h8) (by rw [q1, q2]; exact hf) hzl2 (fc.tup (sb _ _ etu)) (by rw [q1]; exact hul) (by rw [q1]; exact dp_same ((tp_same sb).trans fc.tp) _ _ hch) fun H' r' σ' f' hr' A' => ?_
          have fall : Fr [st, d] H H' := ((Fr.of sAb).trans fc).trans f'
          refine k H' r' fall (.inr ?_) (by rw [em]; rw [em2]; exact A')
          cases e0 : H r' with
          | none => rfl
          | some o =>
            by_cases hb : r' ∈ [st, d]
            · obtain ⟨_, _, _, _, _, w1, _⟩ := Ac.ex
              rcases List.mem_cons.mp hb with z | z
              · rw [z, w1] at hr'; cases hr'
              · rw [List.mem_singleton.mp z] at hr'
                obtain ⟨sv, lv, ⟨dx2, a, b, ts, x1, _⟩, _⟩ := Ac.dk
                rw [x1] at hr'
                cases hr'
            · rw [fc.at (sAb _ _ e0) hb] at hr'
              cases hr'
        · have hfit : slotsN m.zs + m.rn.length ≤ m.S := by
            refine Decidable.byContradiction fun z => hcnd (decide_eq_true ?_)
            omega
          have em2 : m.room = m := if_pos hfit
          have Ab := A.fr (xs := []) (.of sAb) (by simp) (by simp) (by simp) (by simp)
          refine qrest _ Hb st d hh r t us m Ab ok (by omega) hps h8 hfit hzl (sb _ _ etu) hul (dp_same (tp_same sb) _ _ hch) fun H' r' σ' f' hr' A' => ?_
          exact k H' r' ((Fr.of sAb).trans f') (.inr (sAb.free hr')) (by rw [em, em2]; exact A')
end
end Pf

set_option Elab.async false
set_option linter.all false
set_option maxRecDepth 100000
set_option maxHeartbeats 4000000
namespace Pf
open PySem PySem.Spec PyProof.Rows L2
theorem scHomeM : FnScope ["self"] ["self"] (defScope sHomeM) := ⟨rfl, rfl, rfl, by decide +kernel, rfl, by decide +kernel, by decide +kernel⟩
theorem scDiskM : FnScope ["self"] ["self"] (defScope sDiskM) := ⟨rfl, rfl, rfl, by decide +kernel, rfl, by decide +kernel, by decide +kernel⟩
theorem scSync : FnScope ["self"] ["self"] (defScope sSync) := ⟨rfl, rfl, rfl, by decide +kernel, rfl, by decide +kernel, by decide +kernel⟩
theorem scPut : FnScope ["self", "changes", "pairs", "plate", "cells", "fresh"] ["self", "changes"] (defScope sPut) := ⟨rfl, rfl, rfl, by decide +kernel, rfl, by decide +kernel, by decide +kernel⟩
theorem dc_put {K : PySem.W.Frag} {H : Hp} {h : Addr} {cs : List Ch} {k : Int} {v : V} {l : List Int} (A : DcAt K H h cs) (hv : Dp K (Tp H) v (rowD l)) (hl : cs.length ≤ 1000) : ∃ kvs, H h = some (.dK kvs) ∧ DPut H h (.int k) v (upd H h (.dK (putK kvs (Sum.inl k) v))) ∧ DcAt K (upd H h (.dK (putK kvs (Sum.inl k) v))) h (putC cs k l) := by
  obtain ⟨ts, e, et, ht⟩ := A
  have htl : (tk ts).length = cs.length := by rw [← et]; unfold tk tc; rw [List.length_map, List.length_map]
  have f : Fr [h] H (upd H h (.dK (putK (tk ts) (Sum.inl k) v))) := .put (by simp) (fun u z => by rw [e] at z; cases z; rfl)
  refine ⟨tk ts, e, DPut.k (k := Sum.inl k) e (small1000 (by omega)), putT ts k v l, by rw [upd_same, putT_tk], by rw [putT_tc, et], ?_⟩
  exact putT_all (fun t z => dp_same f.tp _ _ (ht t z)) (dp_same f.tp _ _ hv)
theorem StAt.dicts {K : PySem.W.Frag} {CS CD : Addr} {H H' : Hp} {st d h r : Addr} {m : MD} {hm rn : List Ch} (A : StAt K CS CD H st d h r m) (hC : CS ≠ CD) (f : Fr [h, r] H H') (D1 : DcAt K H' h hm) (D2 : DcAt K H' r rn) : StAt K CS CD H' st d h r { m with hm := hm, rn := rn } := by
  obtain ⟨n1, n2, n3, n4, n5⟩ := A.ne hC
  obtain ⟨dx, beg, tr, gv, qv, e1, e2, e3, e4⟩ := A.ex
  exact ⟨⟨dx, beg, tr, gv, qv, f.at e1 (by simp [n2.symm, n3.symm]), dp_same f.tp _ _ e2, dp_same f.tp _ _ e3, dp_same f.tp _ _ e4⟩, A.dk.fr f (by simp [n4.symm, n5.symm]), D1, D2, A.hr⟩
section
variable {P : Program} {w : World} {K : PySem.W.Frag} {mg : Str → Option Value} {base : Heap} {CS CD : Addr}
def sp_home (K : PySem.W.Frag) (CS CD : Addr) : Sp := fun vs H Q _ => ∃ (st d h r : Addr) (m : MD), vs = [.ref st] ∧ StAt K CS CD H st d h r m ∧ ∀ p H', Same H H' → H p = none → DcAt K H' p m.hm → Q (.ref p) H'
theorem ok_home {f : Addr} {fd : FuncData} (F : Fun K "home" "Store.home" sHomeM f fd) (T : STxt K CS CD) (mD : mg "dict" = none) : FnOk P w K mg base CX0 1 f fd ["self"] (sp_home K CS CD) := by
  refine F.ok scHomeM (fun vs H Q E h => ?_) (fun cdv A outer s H vs Q E hr h => ?_)
  · obtain ⟨st, d, h, r, m, rfl, _⟩ := h
    rfl
  · obtain ⟨st, d, hh, r, m, rfl, A, k⟩ := h
    obtain ⟨dx, beg, tr, gv, qv, e1, e2, e3, e4⟩ := A.ex
    obtain ⟨ts, e, et, ht⟩ := A.hd
    refine ⟨_, pss_one (ps_ret (pe_callTy call_dictD (by rfl) mD (by decide +kernel) (pa_cons (pe_fld (pv 0) rfl) pa_nil))), ?_⟩
    refine ⟨_, rfl, st, CS, dx, _, _, rfl, e1, T.cl, T.no _ (by decide +kernel), zip_get (i := 9) sn_nodup rfl rfl, hh, tk ts, rfl, .inl e, fun p hp => k p _ (same_upd hp) hp ⟨ts, upd_same, et, fun t z => dp_same (tp_same (same_upd hp)) _ _ (ht t z)⟩⟩
def sp_disk (K : PySem.W.Frag) (CS CD : Addr) : Sp := fun vs H Q _ => ∃ (st d h r : Addr) (m : MD), vs = [.ref st] ∧ StAt K CS CD H st d h r m ∧ 2 ≤ m.ds.length ∧ m.ds.length ≤ 1000 ∧ ∀ x H', Same H H' → H x = none → DkAt K CD H' x m.ds m.ls → Q (.ref x) H'
theorem ok_disk {f fC : Addr} {fd fdC : FuncData} (F : Fun K "disk" "Store.disk" sDiskM f fd) (T : STxt K CS CD) (GC : FnOk P w K mg base CX0 3 fC fdC ["disk"] (spCopy CD)) (kC : PySem.W.keepIn K (.ref fC) = true) (gC : mg "copy_of" = some (.ref fC)) (bC : Binds K fdC ["disk"] []) :
    FnOk P w K mg base CX0 4 f fd ["self"] (sp_disk K CS CD) := by
  refine F.ok scDiskM (fun vs H Q E h => ?_) (fun cdv A outer s H vs Q E hr h => ?_)
  · obtain ⟨st, d, h, r, m, rfl, _⟩ := h
    rfl
  · obtain ⟨st, d, hh, r, m, rfl, A, h2, h1, k⟩ := h
    obtain ⟨dx, beg, tr, gv, qv, e1, e2, e3, e4⟩ := A.ex
    obtain ⟨sv, lv, D, D2, D3⟩ := A.dk
    refine ⟨_, pss_one (ps_ret (pe_call GC hr rfl gC kC bC .nil pass0 (pa_cons (pe_fld (pv 0) rfl) pa_nil))), ?_⟩
    exact ⟨_, rfl, st, CS, dx, _, _, rfl, e1, T.cl, T.no _ (by decide +kernel), zip_get (i := 8) sn_nodup rfl rfl, d, _, sv, lv, rfl, D, by omega, by omega, fun x H' s hx D' => k x H' s hx ⟨sv, lv, D', dps_same (tp_same s) _ _ D2, D3.same (tp_same s)⟩⟩
def BarOk (m : MD) : Prop := (∀ q ∈ m.ls, 0 ≤ q.1 ∧ q.1 < ((m.ds.length : Nat) : Int)) ∧ m.ds.length ≤ 1000 ∧ m.evs.length ≤ 900 ∧ m.ps.length ≤ 900
def sp_sync (K : PySem.W.Frag) (CS CD : Addr) : Sp := fun vs H Q _ => ∃ (st d h r : Addr) (m : MD), vs = [.ref st] ∧ StAt K CS CD H st d h r m ∧ PushOk m ∧ BarOk m.push ∧
  ∀ H' r', Fr [st, d] H H' → (r' = r ∨ H r' = none) → StAt K CS CD H' st d h r' m.push.barrier → Q .non H'
theorem ok_sync {f fU fB : Addr} {fd fdU fdB : FuncData} (F : Fun K "sync" "Store.sync" sSync f fd) (T : STxt K CS CD)
    (GU : FnOk P w K mg base CX0 7 fU fdU ["self"] (sp_push K CS CD)) (mU : Meth K CS "push" fU) (bU : Binds K fdU ["self"] [])
    (GB : FnOk P w K mg base CX0 2 fB fdB ["self"] (sp_bar K CS CD)) (mB : Meth K CS "_barrier" fB) (bB : Binds K fdB ["self"] []) : FnOk P w K mg base CX0 8 f fd ["self"] (sp_sync K CS CD) := by
  refine F.ok scSync (fun vs H Q E h => ?_) (fun cdv A outer s H vs Q E hr h => ?_)
  · obtain ⟨st, d, h, r, m, rfl, _⟩ := h
    rfl
  · obtain ⟨st, d, hh, r, m, rfl, A, po, ⟨q1, q2, q3, q4⟩, k⟩ := h
    obtain ⟨dx, beg, tr, gv, qv, e1, e2, e3, e4⟩ := A.ex
    refine ⟨_, pss_cons (ps_expr (pe_meth0 (pv 0) T.cl mU GU hr bU .nil pass0)) (pss_one (ps_expr (pe_meth0 (pv 0) T.cl mB GB (hr.mono (by decide)) bB .nil pass0))), ?_⟩
    refine ⟨_, rfl, st, dx, _, rfl, e1, zip_no (by decide +kernel), st, d, hh, r, m, rfl, A, po, fun H1 r1 f1 hr1 A1 => ?_⟩
    obtain ⟨dx1, beg1, tr1, gv1, qv1, v1, _⟩ := A1.ex
    exact ⟨_, rfl, st, dx1, _, rfl, v1, zip_no (by decide +kernel), st, d, hh, r1, m.push, rfl, A1, q1, q2, q3, q4, fun H2 f2 A2 => k H2 r1 (f1.trans f2) hr1 A2⟩

def freshC (rn cs : List Ch) : List Ch := cs.filter fun c => !(rn.any fun t => decide (t.1 = c.1))
def MD.over (m : MD) (cs : List Ch) : MD := { m with hm := overC m.hm cs, rn := overC m.rn cs, de := m.de + 1 }
def MD.fit (m : MD) (cs : List Ch) : MD := if m.rn.length + (freshC m.rn cs).length ≤ m.S then m else m.push
def MD.put (m : MD) (cs : List Ch) : MD := if cs.length = 0 then m else (m.fit cs).over cs
theorem push_hm (m : MD) : m.push.hm = m.hm := by
  unfold MD.push
  split
  · rfl
  · show m.room.hm = m.hm
    unfold MD.room MD.lay
    split
    · rfl
    · split <;> rfl
theorem push_rn (m : MD) : m.push.rn = [] := by
  unfold MD.push
  split
  · exact List.eq_nil_of_length_eq_zero (by assumption)
  · rfl
theorem tk_none {ts : List Tr} {k : Int} : (!(valV (tk ts) (Sum.inl k)).isSome) = !(ts.any fun t => decide (t.1 = k)) := by
  induction ts with
  | nil => rfl
  | cons x ts ih =>
    show (!(valV ((Sum.inl x.1, x.2.1) :: tk ts) (Sum.inl k)).isSome) = _
    by_cases e : x.1 = k
    · rw [valV_pos (by rw [e]), List.any_cons, decide_eq_true e]
      rfl
    · rw [valV_neg (fun z => e (by injection z)), ih, List.any_cons, decide_eq_false e, Bool.false_or]
abbrev NUt : List Str := ["self", "changes", "pairs", "plate", "cells", "fresh"]
abbrev XUt (P : Program) (w : World) (K : PySem.W.Frag) (mg : Str → Option Value) (base : Heap) (f : Addr) (cdv : Value) (A : Around) (outer : List Env) (s : Shared) (H0 : Hp) (E : XK) : Cx := (cxOf CX0 P w K mg base NUt "Store.put" (defScope sPut) f cdv A outer s H0 E).nox
abbrev stU (j : Nat) : Stmt := (defBody sPut).getD j (.Pass ⟨0, 0, 0, 0⟩)
/-- put, behind the making of room -/
theorem put_rest {fA : Addr} {cdv : Value} {Ar : Around} {outer : List Env} {s : Shared} {H0 : Hp} {E : XK} (T : STxt K CS CD) (hr : Room 7 (Ar.deeper (envOfC "Store.put" (defScope sPut) s.heap.objs.size fA cdv))) :
    ∃ tm, PSs (XUt P w K mg base fA cdv Ar outer s H0 E) [stU 5, stU 6] tm ∧ ∀ (D0 : Ends) (H2 : Hp) (st d hh r a c D : Addr) (cs : List Ch) (m : MD), StAt K CS CD H2 st d hh r m → m.hm.length ≤ 800 → m.rn.length ≤ 800 → cs.length ≤ 100 →
      Dp K (Tp H2) (.ref a) (chD cs) → (∀ H' σ', Fr [st, hh, r] H2 H' → StAt K CS CD H' st d hh r (m.over cs) → D0.nx σ' H') →
      tm D0 [some (.ref st), some (.ref c), some (.ref a), none, none, some (.ref D)] H2 := by
  have nd := scPut.nd
  refine ⟨_, pss_cons (ps_for PassesOwn.never rfl (pi_tup (pv 2)) (pg_tup rfl (pgs_cons (pg_name (i := 3) nd rfl (.inl rfl)) (pgs_cons (pg_name (i := 4) nd rfl (.inl rfl)) pgs_nil)))
        (pss_cons (ps_dput (hu_of hr) (pe_fld (pv 0) rfl) (pv 3) (pv 4) rfl) (pss_one (ps_dput (hu_of hr) (pe_fld (pv 0) rfl) (pv 3) (pv 4) rfl))))
      (pss_one (ps_fld (pv 0) (pe_op op_add (pe_fld (pv 0) rfl) pe_int) rfl)), fun D0 H2 st d hh r a c D cs m A2 hml hrl hcl hd1 k => ?_⟩
  obtain ⟨n1, n2, n3, n4, n5⟩ := A2.ne T.ne
  obtain ⟨dx, beg, tr, gv, qv, e1, e2, e3, e4⟩ := A2.ex
  obtain ⟨a', xs, ea, hx1, hx2, hx3⟩ := ch_read hd1
  cases ea
  have hx1' := same_seqT tp_le hx1
  refine ⟨_, rfl, a, rfl, ⟨_, hx1'⟩, for_tup (K := K) (a := a) (xs := xs) (fun i σ H' => ∃ y3 y4, σ = [some (.ref st), some (.ref c), some (.ref a), y3, y4, some (.ref D)] ∧ Fr [hh, r] H2 H' ∧ DcAt K H' hh (overC m.hm (cs.take i)) ∧ DcAt K H' r (overC m.rn (cs.take i)))
        ⟨_, _, rfl, .of (Same.refl _), A2.hd, A2.rd⟩ (fun i σ H' _ z => by obtain ⟨_, _, _, z, _⟩ := z; exact same_seqT (z.tp.trans tp_le) hx1) ?_ ?_⟩
  · rintro i x σ H' hi ⟨y3, y4, rfl, fr, D1, D2⟩
    obtain ⟨d2, hd2, hp2⟩ := dps_get hx3 hi
    rw [List.getElem?_map] at hd2
    cases ei : cs[i]? with
    | none => rw [ei] at hd2; cases hd2
    | some q =>
      rw [ei] at hd2
      have ed : pD q = d2 := Option.some.inj hd2
      subst ed
      obtain ⟨b1, b2, rfl, r1, r2⟩ := pD_read hp2
      have hil := (List.getElem?_eq_some_iff.mp ei).1
      have st1 : Same (Tp H2) (Tp H') := fr.tp
      have hcv : Dp K (Tp H') (.ref b2) (rowD q.2) := .tup (same_seqT st1 r2) (dps_ints _)
      have hl1 := overC_len (cs.take i) m.hm
      have hl2 := overC_len (cs.take i) m.rn
      rw [List.length_take] at hl1 hl2
      obtain ⟨kv1, k1, k2, k3⟩ := dc_put D2 hcv (by omega)
      have f1 : Fr [r] H' (upd H' r (.dK (putK kv1 (Sum.inl q.1) (.ref b2)))) := .put (by simp) (fun u z => by rw [k1] at z; cases z; rfl)
      have D1' := D1.fr f1 (by simp [A2.hr])
      obtain ⟨kv2, j1, j2, j3⟩ := dc_put D1' (dp_same f1.tp _ _ hcv) (by omega)
      have f2 : Fr [hh] (upd H' r (.dK (putK kv1 (Sum.inl q.1) (.ref b2)))) (upd (upd H' r (.dK (putK kv1 (Sum.inl q.1) (.ref b2)))) hh (.dK (putK kv2 (Sum.inl q.1) (.ref b2)))) := .put (by simp) (fun u z => by rw [j1] at z; cases z; rfl)
      have eA := fr.at e1 (by simp [n2.symm, n3.symm])
      refine ⟨b1, _, rfl, same_seqT (st1.trans tp_le) r1, rfl, _, _, rfl, _, _, rfl, rfl, _, rfl, _, rfl, st, CS, dx, _, _, rfl, eA, T.cl, T.no _ (by decide +kernel), zip_get (i := 10) sn_nodup rfl rfl, _, rfl, r, _, rfl, k2, _, rfl, _, rfl, st, CS, dx, _, _, rfl, f1.at eA (by simp [n3.symm]), T.cl, T.no _ (by decide +kernel), zip_get (i := 9) sn_nodup rfl rfl, _, rfl, hh, _, rfl, j2, ?_⟩
      refine ⟨_, _, rfl, (fr.trans (f1.mono (by simp))).trans (f2.mono (by simp)), ?_, ?_⟩
      · rw [overC_more ei]
        exact j3
      · rw [overC_more ei]
        exact k3.fr f2 (by simp [A2.hr.symm])
  · rintro σ H' ⟨y3, y4, rfl, fr, D1, D2⟩
    rw [hx2, List.take_length] at D1 D2
    have A3 := A2.dicts T.ne fr D1 D2
    obtain ⟨dx', beg', tr', gv', qv', w1, w2, w3, w4⟩ := A3.ex
    refine ⟨_, rfl, st, CS, dx', _, _, rfl, w1, T.cl, T.no _ (by decide +kernel), zip_get (i := 4) sn_nodup rfl rfl, _, _, rfl, rfl, _, rfl, st, CS, dx', _, rfl, w1, T.cl, T.no _ (by decide +kernel), (by show 14 < 1000; decide), ?_⟩
    refine k _ _ ((fr.mono (by simp)).trans (A3.frI.mono (by simp))) (A3.inst T.ne (m.over cs) beg' tr' gv' qv' ?_ w2 w3 w4 rfl rfl rfl rfl)
    rw [zip_put (i := 4) sn_nodup rfl (by show 4 < 14; decide)]
    rfl
def sp_put (K : PySem.W.Frag) (CS CD : Addr) : Sp := fun vs H Q _ => ∃ (st d h r c : Addr) (m : MD) (ts : List Tr), vs = [.ref st, .ref c] ∧ StAt K CS CD H st d h r m ∧ PushOk m ∧ m.hm.length ≤ 800 ∧ H c = some (.dK (tk ts)) ∧ (∀ t ∈ ts, Dp K (Tp H) t.2.1 (rowD t.2.2) ∧ t.2.2.length = 8 ∧ 0 ≤ t.1 ∧ t.1 < ((m.n : Nat) : Int)) ∧ (ts.map (·.1)).Nodup ∧ ts.length ≤ m.S ∧
  ∀ H' r', Fr [st, d, h, r] H H' → (r' = r ∨ H r' = none) → StAt K CS CD H' st d h r' (m.put (sortC (tc ts))) → Q .non H'
theorem ok_put {f fC fU : Addr} {fd fdC fdU : FuncData} (F : Fun K "put" "Store.put" sPut f fd) (T : STxt K CS CD) (GC : FnOk P w K mg base CX0 3 fC fdC ["plates", "changes"] (spChk K)) (kC : PySem.W.keepIn K (.ref fC) = true) (gC : mg "checked_changes" = some (.ref fC)) (bC : Binds K fdC ["plates", "changes"] [])
    (GU : FnOk P w K mg base CX0 7 fU fdU ["self"] (sp_push K CS CD)) (mU : Meth K CS "push" fU) (bU : Binds K fdU ["self"] []) (ml : mg "len" = none) :
    FnOk P w K mg base CX0 8 f fd ["self", "changes"] (sp_put K CS CD) := by
  refine F.ok scPut (fun vs H Q E h => ?_) (fun cdv Ar outer s H vs Q E hr h => ?_)
  · obtain ⟨st, d, h, r, c, m, ts, rfl, _⟩ := h
    rfl
  · obtain ⟨st, d, hh, r, c, m, ts, rfl, A, po, hml, hc, hts, hnd, hle, k⟩ := h
    obtain ⟨⟨o1, o2, o3, o4, o5, o6, o7, o8⟩, he, hps, hndr, h8, hrS, hzl⟩ := id po
    obtain ⟨dx, beg, tr, gv, qv, e1, e2, e3, e4⟩ := A.ex
    have nd := scPut.nd
    obtain ⟨tm, hrest, qrest⟩ := put_rest (P := P) (w := w) (mg := mg) (base := base) (fA := f) (cdv := cdv) (Ar := Ar) (outer := outer) (s := s) (H0 := H) (E := E) T hr
    refine ⟨_, pss_cons (ps_set (i := 2) nd rfl (.inl rfl) (pe_call GC (hr.mono (by decide)) rfl gC kC bC .nil pass0 (pa_cons (pe_fld (pv 0) rfl) (pa_cons (pv 1) pa_nil))))
      (pss_cons (ps_if (pt_cmpR op_gt (pe_callB call_len_seq (by rfl) ml boot_len (pa_cons (pv 2) pa_nil)) (pe_fld (pv 0) rfl) (nomark _)) (pss_one ps_never) pss_nil)
      (pss_cons (ps_if (pt_cmpR op_eq (pe_callB call_len_seq (by rfl) ml boot_len (pa_cons (pv 2) pa_nil)) pe_int (nomark _)) (pss_one ps_retN) pss_nil)
      (pss_cons (ps_setLc (i := 5) (own := [("plate", 3), ("cells", 4)]) (g := gTup K 2 (gCons (gName 3) (gCons (gName 4) gNil))) (tt := tB (tDNotIn (tVar 3) (tFld K (tVar 0) "_running"))) (te := tVar 3) (by rfl) nd rfl rfl (sw_true rfl rfl rfl (by decide +kernel)) (pi_tup (pv 2)) (blkOk_by (N := ["self", "changes", "pairs", "plate", "cells", "fresh"]) (sc := defScope sPut) (by decide +kernel))
          (fun _ _ _ _ _ => pg_tup rfl (pgs_cons (pg_name (i := 3) nd rfl (.inl rfl)) (pgs_cons (pg_name (i := 4) nd rfl (.inl rfl)) pgs_nil))) (fun _ _ _ _ _ => pts_one (pt_cmp (pc_dnotin (hu_of hr) (pv 3) (pe_fld (pv 0) rfl)))) (fun _ _ _ _ _ => pv 3))
      (pss_cons (ps_if (pt_cmpR op_gt (pe_op op_add (pe_callB call_lenD (by rfl) ml boot_len (pa_cons (pe_fld (pv 0) rfl) pa_nil)) (pe_callB call_len_seq (by rfl) ml boot_len (pa_cons (pv 5) pa_nil))) (pe_fld (pv 0) rfl) (nomark _)) (pss_one (ps_expr (pe_meth0 (pv 0) T.cl mU GU hr bU .nil pass0))) pss_nil)
      hrest)))), ?_⟩
    obtain ⟨n1, n2, n3, n4, n5⟩ := A.ne T.ne
    obtain ⟨rts, er, et, ht⟩ := id A.rd
    have hcl : (sortC (tc ts)).length = ts.length := by rw [(sortC_perm _).length_eq]; unfold tc; rw [List.length_map]
    have htkl : (tk rts).length = m.rn.length := by rw [← et]; unfold tk tc; rw [List.length_map, List.length_map]
    refine ⟨_, rfl, st, CS, dx, _, _, rfl, e1, T.cl, T.no _ (by decide +kernel), zip_get (i := 0) sn_nodup rfl rfl, _, rfl, (m.n : Nat), c, ts, rfl, hc, hts, hnd, by omega, fun v H1 s1 hd1 => ?_⟩
    obtain ⟨a, xs, rfl, hx1, hx2, hx3⟩ := ch_read hd1
    have hx1' := same_seqT tp_le hx1
    refine ⟨_, rfl, a, xs, rfl, .inr hx1', _, rfl, st, CS, dx, _, _, rfl, s1 _ _ e1, T.cl, T.no _ (by decide +kernel), zip_get (i := 1) sn_nodup rfl rfl, _, _, rfl, rfl, _, rfl, ite2 (fun hcnd => absurd (of_decide_eq_true hcnd) (by omega)) (fun _ => ?_)⟩
    refine ⟨_, rfl, a, xs, rfl, .inr hx1', rfl, _, rfl, ite2 (fun hcnd => ?_) (fun hcnd => ?_)⟩
    · have h0 : (sortC (tc ts)).length = 0 := by
        have := of_decide_eq_true hcnd
        injection this with this
        omega
      refine k H1 r (.of s1) (.inl rfl) ?_
      have em : m.put (sortC (tc ts)) = m := if_pos h0
      rw [em]
      exact A.fr (xs := []) (.of s1) (by simp) (by simp) (by simp) (by simp)
    have h0 : ¬ (sortC (tc ts)).length = 0 := fun z => hcnd (decide_eq_true (by rw [hx2, z]; rfl))
    have em : m.put (sortC (tc ts)) = (m.fit (sortC (tc ts))).over (sortC (tc ts)) := if_neg h0
    refine ⟨_, rfl, a, rfl, ⟨_, hx1'⟩, fun D hD => lc_tup (K := K) (a := a) (xs := xs) (fun i H' => Same H1 H' ∧ ∃ acc, H' D = some (.lst acc) ∧ acc.length = (freshC m.rn ((sortC (tc ts)).take i)).length) ⟨same_upd hD, [], upd_same, rfl⟩ (fun i H' _ z => same_seqT z.1 hx1') ?_ ?_⟩
    · rintro i x H' hi ⟨s2, acc, eD, hal⟩
      obtain ⟨d2, hd2, hp2⟩ := dps_get hx3 hi
      rw [List.getElem?_map] at hd2
      cases ei : (sortC (tc ts))[i]? with
      | none => rw [ei] at hd2; cases hd2
      | some q =>
        rw [ei] at hd2
        have ed : pD q = d2 := Option.some.inj hd2
        subst ed
        obtain ⟨b1, b2, rfl, r1, r2⟩ := pD_read hp2
        have hil := (List.getElem?_eq_some_iff.mp ei).1
        have s12 := s1.trans s2
        have hfl : (freshC m.rn ((sortC (tc ts)).take i)).length ≤ 100 := by
          have := List.length_filter_le (fun c => !(m.rn.any fun t => decide (t.1 = c.1))) ((sortC (tc ts)).take i)
          rw [List.length_take] at this
          unfold freshC
          omega
        have hmore : freshC m.rn ((sortC (tc ts)).take (i + 1)) = freshC m.rn ((sortC (tc ts)).take i) ++ (if (m.rn.any fun t => decide (t.1 = q.1)) = true then [] else [q]) := by
          unfold freshC
          rw [List.take_add_one, ei, List.filter_append]
          congr 1
          cases hb : (m.rn.any fun t => decide (t.1 = q.1)) <;> simp [hb]
        have hany : (rts.any fun t => decide (t.1 = q.1)) = (m.rn.any fun t => decide (t.1 = q.1)) := by
          rw [← et]
          unfold tc
          rw [List.any_map]
          rfl
        have hv := tk_none (ts := rts) (k := q.1)
        rw [hany] at hv
        refine ⟨b1, _, rfl, same_seqT (tp_le.trans s2) r1, rfl, _, _, rfl, _, _, rfl, rfl, rfl, _, rfl, _, rfl, st, CS, dx, _, _, rfl, s12 _ _ e1, T.cl, T.no _ (by decide +kernel), zip_get (i := 10) sn_nodup rfl rfl, r, _, rfl, DGet.k (k := Sum.inl q.1) (s12 _ _ er), _, rfl, ?_⟩
        rw [hv]
        cases hb : (m.rn.any fun t => decide (t.1 = q.1)) with
        | true =>
          rw [hb] at hmore
          refine iteF ⟨s2, acc, eD, ?_⟩
          rw [hmore, if_pos rfl, List.append_nil]
          exact hal
        | false =>
          rw [hb] at hmore
          refine iteT ⟨_, rfl, acc, eD, small1000 (by omega), fun b o e => ?_, acc ++ [_], upd_same, ?_⟩
          · rw [upd_ne (ne_of_none e hD)]
            exact s2 _ _ e
          · rw [hmore, if_neg (by decide), List.length_append, List.length_append, hal]
            rfl
    · rintro H2 ⟨s2, acc, eD, hal⟩
      rw [hx2, List.take_length] at hal
      have s12 := s1.trans s2
      have A2 := A.fr (xs := []) (.of s12) (by simp) (by simp) (by simp) (by simp)
      have hch : Dp K (Tp H2) (.ref a) (chD (sortC (tc ts))) := dp_same (tp_same s2) _ _ hd1
      refine ⟨_, rfl, st, CS, dx, _, _, rfl, s12 _ _ e1, T.cl, T.no _ (by decide +kernel), zip_get (i := 10) sn_nodup rfl rfl, r, _, rfl, s12 _ _ er, _, rfl, D, acc, rfl, .inl (SqL.of eD), _, _, rfl, rfl, _, rfl, st, CS, dx, _, _, rfl, s12 _ _ e1, T.cl, T.no _ (by decide +kernel), zip_get (i := 1) sn_nodup rfl rfl, _, _, rfl, rfl, _, rfl, ite2 (fun hcnd => ?_) (fun hcnd => ?_)⟩
      · have hfit : ¬ m.rn.length + (freshC m.rn (sortC (tc ts))).length ≤ m.S := by
          have := of_decide_eq_true hcnd
          omega
        have em2 : m.fit (sortC (tc ts)) = m.push := if_neg hfit
        refine ⟨_, rfl, st, dx, _, rfl, s12 _ _ e1, zip_no (by decide +kernel), st, d, hh, r, m, rfl, A2, po, fun Hc rc fc hrc Ac => ?_⟩
        refine qrest _ Hc st d hh rc a c D (sortC (tc ts)) m.push Ac (by rw [push_hm]; exact hml) (by rw [push_rn]; exact Nat.zero_le _) (by omega) (dp_same fc.tp _ _ hch) fun H' σ' f' A' => ?_
        have hrc' : rc = r ∨ H rc = none := hrc.imp id s12.free
        refine k H' rc ?_ hrc' (by rw [em, em2]; exact A')
        refine (((Fr.of s12).trans (fc.mono (by simp))).trans (f'.mono (ds := [st, d, hh, r, rc]) (by simp))).drop fun x hx => ?_
        simp only [List.mem_cons, List.not_mem_nil, or_false] at hx ⊢
        rcases hx with z | z | z | z | z
        · exact .inl (.inl z)
        · exact .inl (.inr (.inl z))
        · exact .inl (.inr (.inr (.inl z)))
        · exact .inl (.inr (.inr (.inr z)))
        · rcases hrc' with y | y
          · exact .inl (.inr (.inr (.inr (z.trans y))))
          · rw [z]; exact .inr y
      · have hfit : m.rn.length + (freshC m.rn (sortC (tc ts))).length ≤ m.S := by
          refine Decidable.byContradiction fun z => hcnd (decide_eq_true ?_)
          omega
        have em2 : m.fit (sortC (tc ts)) = m := if_pos hfit
        refine qrest _ H2 st d hh r a c D (sortC (tc ts)) m A2 hml (by omega) (by omega) hch fun H' σ' f' A' => ?_
        exact k H' r ((Fr.of s12).trans (f'.mono (by simp))) (.inl rfl) (by rw [em, em2]; exact A')
end
end Pf

set_option Elab.async false
set_option linter.all false
set_option maxRecDepth 100000
set_option maxHeartbeats 4000000
namespace Pf
open PySem PySem.Spec PyProof.Rows L2
theorem zip_add : ∀ {ns : List Str} {vs : List V} {x : Str} {v : V} (i : Nat), ns.Nodup → ns[i]? = some x → vs.length = i → putF x v (ns.zip vs) = ns.zip (vs ++ [v])
  | [], _, _, _, _, _, h, _ => by simp at h
  | n :: ns, [], x, v, i, _, h1, h2 => by
    have hi : i = 0 := h2.symm
    subst hi
    have e1 : n = x := Option.some.inj h1
    subst e1
    rw [List.zip_nil_right]
    show [(n, v)] = (n, v) :: ns.zip []
    rw [List.zip_nil_right]
  | n :: ns, u :: vs, x, v, 0, _, _, h2 => by cases h2
  | n :: ns, u :: vs, x, v, i + 1, hn, h1, h2 => by
    have hn' := List.nodup_cons.mp hn
    have h1' : ns[i]? = some x := h1
    have hne : ¬ n = x := fun e => hn'.1 (e ▸ List.mem_of_getElem? h1')
    show putF x v ((n, u) :: ns.zip vs) = (n, u) :: ns.zip (vs ++ [v])
    rw [← zip_add i hn'.2 h1' (Nat.succ.inj h2)]
    exact if_neg hne
mutual
def noL : PyData → Bool
  | .list _ => false
  | .tuple ds => noLs ds
  | _ => true
def noLs : List PyData → Bool
  | [] => true
  | d :: ds => noL d && noLs ds
end
section
variable {K : PySem.W.Frag} {H : Hp}
mutual
theorem dp_tp : ∀ (d : PyData) (v : V), noL d = true → Dp K H v d → Dp K (Tp H) v d
  | .none, _, _, h => by cases h; exact .non
  | .bool b, _, _, h => by cases h; exact .bl b
  | .int i, _, _, h => by cases h; exact .int i
  | .str x, _, _, h => by cases h; exact .str x
  | .list ds, _, n, h => by simp [noL] at n
  | .tuple ds, _, n, h => by cases h with | tup hs ha => exact .tup (sqt_tp hs) (dps_tp ds _ (by simpa [noL] using n) ha)
  | .dict _, _, _, h => by cases h
theorem dps_tp : ∀ (ds : List PyData) (vs : List V), noLs ds = true → DpAll K H vs ds → DpAll K (Tp H) vs ds
  | [], _, _, h => by cases h; exact .nil
  | d :: ds, _, n, h => by
    cases h with
    | cons h1 h2 =>
      have n' : noL d = true ∧ noLs ds = true := by simpa [noLs] using n
      exact .cons (dp_tp d _ n'.1 h1) (dps_tp ds _ n'.2 h2)
end
end
theorem noL_ints : ∀ ns : List Int, noLs (ns.map PyData.int) = true
  | [] => by simp [noLs]
  | n :: ns => by simp [noLs, noL, noL_ints ns]
theorem noL_ch : ∀ cs : List Ch, noLs (cs.map pD) = true
  | [] => by simp [noLs]
  | c :: cs => by simp [noLs, noL, noL_ch cs, pD, noL_ints]
theorem noL_gs : ∀ zs : List Gr, noLs (zs.map gD) = true
  | [] => by simp [noLs]
  | z :: zs => by simp [noLs, noL, noL_gs zs, gD, chD, noL_ch]
theorem rgs_slots (ds : List PyData) (S : Nat) : ∀ (k used t : Nat) (g : Int), used ≤ S → used + slotsN (rgs ds S k used t g) ≤ S
  | 0, used, t, g, h => h
  | k + 1, used, t, g, h => by
    show used + slotsN (match wg ds S t g with | none => [] | some cs => if used + cs.length ≤ S then (g, t, cs) :: rgs ds S k (used + cs.length) (t + cs.length) (g + 1) else []) ≤ S
    cases e : wg ds S t g with
    | none => exact h
    | some cs =>
      show used + slotsN (if used + cs.length ≤ S then (g, t, cs) :: rgs ds S k (used + cs.length) (t + cs.length) (g + 1) else []) ≤ S
      split
      · rename_i hle
        have := rgs_slots ds S k (used + cs.length) (t + cs.length) (g + 1) hle
        show used + slotsN ([(g, t, cs)] ++ rgs ds S k (used + cs.length) (t + cs.length) (g + 1)) ≤ S
        rw [slotsN_app]
        have e1 : slotsN [(g, t, cs)] = cs.length := by simp [slotsN]
        omega
      · exact h
theorem rgs_len (ds : List PyData) (S : Nat) : ∀ (k used t : Nat) (g : Int), (rgs ds S k used t g).length ≤ k
  | 0, used, t, g => Nat.le_refl _
  | k + 1, used, t, g => by
    show (match wg ds S t g with | none => [] | some cs => if used + cs.length ≤ S then (g, t, cs) :: rgs ds S k (used + cs.length) (t + cs.length) (g + 1) else []).length ≤ k + 1
    cases e : wg ds S t g with
    | none => exact Nat.zero_le _
    | some cs =>
      show (if used + cs.length ≤ S then (g, t, cs) :: rgs ds S k (used + cs.length) (t + cs.length) (g + 1) else []).length ≤ k + 1
      split
      · have := rgs_len ds S k (used + cs.length) (t + cs.length) (g + 1)
        show _ + 1 ≤ k + 1
        omega
      · exact Nat.zero_le _
theorem readH_form {e0 e1 : PyData} {ns : List Int} (h : readH e0 e1 = some ns) : ∃ (a g : Int) (t : Nat), ns = [a, g, (t : Int)] ∧ 0 ≤ g := by
  have key : ∀ p d, headB p d = true → ∃ (a g : Int) (t : Nat), hdN d = [a, g, (t : Int)] ∧ 0 ≤ g := by
    intro p d hd
    obtain ⟨a, b, c, rfl, h1, h2, h3, _⟩ := head_some hd
    exact ⟨a, b, c.toNat, by rw [hdN_row, Int.toNat_of_nonneg h3], h2⟩
  unfold readH at h
  cases h0 : headB 0 e0 <;> cases h1 : headB 1 e1 <;> rw [h0, h1] at h
  · cases h
  · cases (Option.some.inj h)
    exact key 1 e1 h1
  · cases (Option.some.inj h)
    exact key 0 e0 h0
  · cases (Option.some.inj h)
    split
    · exact key 1 e1 h1
    · exact key 0 e0 h0
def ringD (S : Nat) (ds : List PyData) : List PyData := (ds.drop 2).take S
def initM (bg : V) (n S : Nat) (ds : List PyData) (a g : Int) (t : Nat) : MD :=
  { bg := bg, n := n, S := S, evs := [], de := 0, se := 0, zs := rgs (ringD S ds) S (S + 1) 0 t g, ps := [], ds := ds, ls := [],
    hm := homeC (fun i => ds.getD (2 + S + i) .none) n (rgs (ringD S ds) S (S + 1) 0 t g), rn := [], hn := a,
    ng := if lastI (ringD S ds) + 1 > g then lastI (ringD S ds) + 1 else g, ns := t + slotsN (rgs (ringD S ds) S (S + 1) 0 t g) }
theorem scStI : FnScope ["self", "plates", "slots", "disk", "head"] ["self", "plates", "slots", "disk"] (defScope sStI) := ⟨rfl, rfl, rfl, by decide +kernel, rfl, by decide +kernel, by decide +kernel⟩
section
variable {P : Program} {w : World} {K : PySem.W.Frag} {mg : Str → Option Value} {base : Heap} {CS CD CN : Addr}
def spStI (K : PySem.W.Frag) (CS CD CN : Addr) : Sp := fun vs H Q E => ∃ (st dx d : Addr) (n S : Nat) (ds : List PyData), vs = [.ref st, .int (n : Nat), .int (S : Nat), .ref d] ∧ H st = some (.ins CS dx []) ∧ DkAt K CD H d ds [] ∧ ds.length = 2 + S + n ∧ 0 < S ∧ S ≤ 60 ∧ n ≤ 60 ∧
  (readH (ds.getD 0 .none) (ds.getD 1 .none) = none → ∀ H', Fr [st] H H' → E (.ref CN) none H') ∧
  (∀ a g t, readH (ds.getD 0 .none) (ds.getD 1 .none) = some [a, g, ((t : Nat) : Int)] → ∀ H' d' h r, Fr [st] H H' → H d' = none → H h = none → H r = none → StAt K CS CD H' st d' h r (initM (.ref d) n S ds a g t) → Q .non H')
theorem fld_go {st dx : Addr} {vs : List V} {x : Str} {v : V} {H1 : Hp} {σ : L2.St} {D : Ends} (T : STxt K CS CD) (i : Nat) (h0 : σ[0]? = some (some (.ref st))) (est : H1 st = some (.ins CS dx (SN.zip vs))) (hx : SN[i]? = some x) (hl : vs.length = i) (hi : i ≤ 14)
    (k : ∀ H2, H2 st = some (.ins CS dx (SN.zip (vs ++ [v]))) → Fr [st] H1 H2 → D.nx σ H2) :
    ∃ v1, σ[0]? = some (some v1) ∧ ∃ a C' dx' fs, v1 = V.ref a ∧ H1 a = some (.ins C' dx' fs) ∧ Cls K C' ∧ NoAttr K C' x ∧ fs.length < 1000 ∧ D.nx σ (upd H1 a (.ins C' dx' (putF x v fs))) := by
  have hlen : (SN.zip vs).length < 1000 := by
    rw [List.length_zip]
    omega
  refine ⟨_, h0, st, CS, dx, _, rfl, est, T.cl, T.no _ (List.mem_of_getElem? hx), hlen, ?_⟩
  rw [zip_add i sn_nodup hx hl]
  exact k _ upd_same (.put (by simp) (fun u z => by rw [est] at z; cases z; rfl))
theorem dget {G : Hp} {sv : List V} {ds : List PyData} {i : Nat} (h : DpAll K G sv ds) (hi : i < ds.length) : Dp K G (sv.getD i .non) (ds.getD i .none) := by
  have hl := dps_len h
  obtain ⟨d, h1, h2⟩ := dps_get h (List.getElem?_eq_getElem (show i < sv.length by omega))
  rw [List.getD_eq_getElem?_getD, List.getD_eq_getElem?_getD, h1, List.getElem?_eq_getElem (show i < sv.length by omega)]
  exact h2
structure ITxt (P : Program) (w : World) (K : PySem.W.Frag) (mg : Str → Option Value) (base : Heap) (CD CN fH fG fC fR fL fZ : Addr) (dH dG dC dR dL dZ : FuncData) : Prop where
  GH : FnOk P w K mg base (L2.CX P w) 4 fH dH ["disk"] (spRh K CD CN)
  kH : PySem.W.keepIn K (.ref fH) = true
  gH : mg "read_head" = some (.ref fH)
  bH : Binds K dH ["disk"] []
  GG : FnOk P w K mg base CX0 5 fG dG ["disk", "slots", "head"] (spRg K CD)
  kG : PySem.W.keepIn K (.ref fG) = true
  gG : mg "read_groups" = some (.ref fG)
  bG : Binds K dG ["disk", "slots", "head"] []
  GC : FnOk P w K mg base CX0 3 fC dC ["disk"] (spCopy CD)
  kC : PySem.W.keepIn K (.ref fC) = true
  gC : mg "copy_of" = some (.ref fC)
  bC : Binds K dC ["disk"] []
  GR : FnOk P w K mg base CX0 4 fR dR ["disk", "plates", "slots", "groups"] (spRhome K CD)
  kR : PySem.W.keepIn K (.ref fR) = true
  gR : mg "read_home" = some (.ref fR)
  bR : Binds K dR ["disk", "plates", "slots", "groups"] []
  GL : FnOk P w K mg base CX0 4 fL dL ["disk", "slots"] (spLast K CD)
  kL : PySem.W.keepIn K (.ref fL) = true
  gL : mg "last_seen" = some (.ref fL)
  bL : Binds K dL ["disk", "slots"] []
  GZ : FnOk P w K mg base CX0 1 fZ dZ ["groups"] (spSlotsT K)
  kZ : PySem.W.keepIn K (.ref fZ) = true
  gZ : mg "slots_of" = some (.ref fZ)
  bZ : Binds K dZ ["groups"] []
  mm : mg "max" = none
theorem ok_stI {fH fG fC fR fL fZ f : Addr} {dH dG dC dR dL dZ fd : FuncData} (F : Fun K "__init__" "Store.__init__" sStI f fd) (T : STxt K CS CD) (I : ITxt P w K mg base CD CN fH fG fC fR fL fZ dH dG dC dR dL dZ) :
    FnOk P w K mg base (L2.CX P w) 6 f fd ["self", "plates", "slots", "disk"] (spStI K CS CD CN) := by
  refine F.okX scStI (fun vs H Q E h => ?_) (fun cdv A outer s H vs Q E hr h => ?_)
  · obtain ⟨st, dx, d, n, S, ds, rfl, _⟩ := h
    rfl
  · obtain ⟨st, dx, d, n, S, ds, rfl, e1, Dk, hds, hS, hS2, hn, kE, kQ⟩ := h
    obtain ⟨sv, lv, D, D2, D3⟩ := id Dk
    have hlv : lv = [] := by
      have := congrArg List.length D3.1
      rw [List.length_map] at this
      exact List.eq_nil_of_length_eq_zero this
    subst hlv
    have nd := scStI.nd
    have hr1 : Room 1 _ := hr.mono (by decide)
    have hr3 : Room 3 _ := hr.mono (by decide)
    have hr4 : Room 4 _ := hr.mono (by decide)
    refine ⟨_, pss_cons (ps_set (i := 4) nd rfl (.inl rfl) (pe_call (E := E) I.GH hr4 rfl I.gH I.kH I.bH .nil (passes_call (takes_of rfl rfl rfl rfl) (fun _ _ _ _ h => h)) (pa_cons (pv 3) pa_nil)))
      (pss_cons (ps_fld (pv 0) (pv 1) rfl)
      (pss_cons (ps_fld (pv 0) (pv 2) rfl)
      (pss_cons (ps_fld (pv 0) (pv 3) rfl)
      (pss_cons (ps_fld (pv 0) (pe_tup pa_nil) rfl)
      (pss_cons (ps_fld (pv 0) pe_int rfl)
      (pss_cons (ps_fld (pv 0) pe_int rfl)
      (pss_cons (ps_fld (pv 0) (pe_call I.GG hr rfl I.gG I.kG I.bG .nil pass0 (pa_cons (pv 3) (pa_cons (pv 2) (pa_cons (pv 4) pa_nil)))) rfl)
      (pss_cons (ps_fld (pv 0) (pe_tup pa_nil) rfl)
      (pss_cons (ps_fld (pv 0) (pe_call I.GC hr3 rfl I.gC I.kC I.bC .nil pass0 (pa_cons (pv 3) pa_nil)) rfl)
      (pss_cons (ps_fld (pv 0) (pe_call I.GR hr4 rfl I.gR I.kR I.bR .nil pass0 (pa_cons (pv 3) (pa_cons (pv 1) (pa_cons (pv 2) (pa_cons (pe_fld (pv 0) rfl) pa_nil))))) rfl)
      (pss_cons (ps_fld (pv 0) pe_dnewK rfl)
      (pss_cons (ps_fld (pv 0) (pe_ix ix_tup (pv 4) pe_int (fun _ _ => rfl)) rfl)
      (pss_cons (ps_fld (pv 0) (pe_callB (call_max2 rfl) (by rfl) I.mm (by decide +kernel) (pa_cons (pe_ix ix_tup (pv 4) pe_int (fun _ _ => rfl)) (pa_cons (pe_op op_add (pe_call I.GL hr4 rfl I.gL I.kL I.bL .nil pass0 (pa_cons (pv 3) (pa_cons (pv 2) pa_nil))) pe_int) pa_nil))) rfl)
      (pss_one (ps_fld (pv 0) (pe_op op_add (pe_ix ix_tup (pv 4) pe_int (fun _ _ => rfl)) (pe_call I.GZ hr1 rfl I.gZ I.kZ I.bZ .nil pass0 (pa_cons (pe_fld (pv 0) rfl) pa_nil))) rfl))))))))))))))), ?_⟩
    have hdl : (ds.length : Nat) = 2 + S + n := hds
    have dk : ∀ i, i < ds.length → Dp K (Tp H) (nowV sv [] ((i : Nat) : Int)) (ds.getD i .none) := fun i hi => dget D2 hi
    have nds : d ∉ [st] := by
      intro z
      rw [List.mem_singleton] at z
      obtain ⟨dx2, pa, pb, ts, x1, _⟩ := id D
      rw [z, e1] at x1
      injection x1 with x1
      injection x1 with x1
      exact T.ne x1
    have ring : ∀ H', Fr [st] H H' → RingAt K CD H' d S (ringD S ds) := fun H' f => by
      refine ⟨_, sv, [], D.fr f nds, by omega, fun j hj => ?_⟩
      have e0 : ((2 : Int) + (j : Int)) = ((2 + j : Nat) : Int) := by omega
      have e2 : (ringD S ds).getD j .none = ds.getD (2 + j) .none := by
        unfold ringD
        rw [List.getD_eq_getElem?_getD, List.getD_eq_getElem?_getD, List.getElem?_take, if_pos hj, List.getElem?_drop]
      rw [e0, e2]
      exact dp_same (f.tp.trans tp_le) _ _ (dk (2 + j) (by omega))
    have back : ∀ {H' : Hp} {x : Addr}, Fr [st] H H' → (∃ o, H' st = some o) → H' x = none → H x = none := fun {H' x} f eo hx => by
      cases e0 : H x with
      | none => rfl
      | some o =>
        by_cases hb : x ∈ [st]
        · rw [List.mem_singleton.mp hb] at hx
          obtain ⟨o', eo⟩ := eo
          rw [eo] at hx
          cases hx
        · rw [f.at e0 hb] at hx
          cases hx
    have hrl : (ringD S ds).length = S := by
      unfold ringD
      rw [List.length_take, List.length_drop]
      omega
    refine ⟨_, rfl, d, _, sv, [], ds.getD 0 .none, ds.getD 1 .none, rfl, D, by omega, dp_same tp_le _ _ (dk 0 (by omega)), dp_same tp_le _ _ (dk 1 (by omega)), fun hnone H' s => kE hnone H' (.of s), fun ns v H1 hsome s1 hv => ?_⟩
    obtain ⟨a, g, t, rfl, hg⟩ := readH_form hsome
    obtain ⟨vh, rfl, hvh⟩ : ∃ vh, v = .ref vh ∧ SqT K (Tp H) vh [.int a, .int g, .int ((t : Nat) : Int)] := by
      have hv' := row_tp hv
      cases hv' with
      | tup h1 h2 => exact ⟨_, rfl, by have := dps_inv h2; rw [this] at h1; exact h1⟩
    have est := s1 _ _ e1
    have f0 : Fr [st] H H1 := .of s1
    refine ⟨_, rfl, fld_go (vs := []) T 0 rfl est rfl rfl (by decide) fun H2 est f1 => ?_⟩
    replace f0 := f0.trans f1
    refine ⟨_, rfl, fld_go T 1 rfl est rfl rfl (by decide) fun H3 est f1 => ?_⟩
    replace f0 := f0.trans f1
    refine ⟨_, rfl, fld_go T 2 rfl est rfl rfl (by decide) fun H4 est f1 => ?_⟩
    replace f0 := f0.trans f1
    refine ⟨Nat.zero_le _, fun tr htr => ?_⟩
    have etr : (upd H4 tr (.tup [])) tr = some (.tup []) := upd_same
    replace f0 := f0.trans (Fr.new (o := .tup []) htr)
    replace est := same_upd (o := .tup []) htr _ _ est
    generalize (upd H4 tr (.tup [])) = H5 at f0 est etr
    refine fld_go T 3 rfl est rfl rfl (by decide) fun H6 est f1 => ?_
    replace f0 := f0.trans f1
    replace etr := f1.tup etr
    refine fld_go T 4 rfl est rfl rfl (by decide) fun H7 est f1 => ?_
    replace f0 := f0.trans f1
    replace etr := f1.tup etr
    refine fld_go T 5 rfl est rfl rfl (by decide) fun H8 est f1 => ?_
    replace f0 := f0.trans f1
    replace etr := f1.tup etr
    generalize hzs : rgs (ringD S ds) S (S + 1) 0 t g = zs
    have hz64 : slotsN zs < 64 := by
      have := rgs_slots (ringD S ds) S (S + 1) 0 t g (Nat.zero_le _)
      rw [hzs] at this
      omega
    have hzl : zs.length ≤ 1000 := by
      have := rgs_len (ringD S ds) S (S + 1) 0 t g
      rw [hzs] at this
      omega
    -- groups
    refine ⟨_, rfl, _, rfl, _, rfl, d, vh, S, t, g, a, ringD S ds, rfl, ring _ f0, hS, by omega, same_seqT (f0.tp.trans tp_le) hvh, fun gv H9 s9 hgv => ?_⟩
    rw [hzs] at hgv
    have gvd : Dp K (Tp H9) gv (gsD zs) := dp_tp _ _ (by simpa [noL, gsD] using noL_gs zs) (dp_same new_le _ _ hgv)
    replace f0 := f0.trans (Fr.of s9)
    replace est := s9 _ _ est
    replace etr := s9 _ _ etr
    refine fld_go T 6 rfl est rfl rfl (by decide) fun H10 est f1 => ?_
    replace f0 := f0.trans f1
    replace etr := f1.tup etr
    replace gvd := dp_same f1.tp _ _ gvd
    -- pushed
    refine ⟨Nat.zero_le _, fun qa hqa => ?_⟩
    have eqa : (upd H10 qa (.tup [])) qa = some (.tup []) := upd_same
    replace f0 := f0.trans (Fr.new (o := .tup []) hqa)
    replace est := same_upd (o := .tup []) hqa _ _ est
    replace etr := same_upd (o := .tup []) hqa _ _ etr
    replace gvd := dp_same (tp_same (same_upd (o := .tup []) hqa)) _ _ gvd
    generalize (upd H10 qa (.tup [])) = H11 at f0 est etr gvd eqa
    refine fld_go T 7 rfl est rfl rfl (by decide) fun H12 est f1 => ?_
    replace f0 := f0.trans f1
    replace etr := f1.tup etr
    replace eqa := f1.tup eqa
    replace gvd := dp_same f1.tp _ _ gvd
    -- the disk's copy
    refine ⟨_, rfl, d, _, sv, [], rfl, D.fr f0 nds, by omega, by omega, fun x H13 s13 hx13 Dx => ?_⟩
    have hx0 := back f0 ⟨_, est⟩ hx13
    have nxs : x ∉ [st] := by
      intro z
      rw [List.mem_singleton.mp z, est] at hx13
      cases hx13
    replace f0 := f0.trans (Fr.of s13)
    have Dk13 : DkAt K CD H13 x ds [] := ⟨sv, [], Dx, dps_same f0.tp _ _ D2, rfl, .nil⟩
    replace est := s13 _ _ est
    replace etr := s13 _ _ etr
    replace eqa := s13 _ _ eqa
    replace gvd := dp_same (tp_same s13) _ _ gvd
    refine fld_go T 8 rfl est rfl rfl (by decide) fun H14 est f1 => ?_
    replace f0 := f0.trans f1
    replace etr := f1.tup etr
    replace eqa := f1.tup eqa
    replace gvd := dp_same f1.tp _ _ gvd
    replace Dk13 := Dk13.fr f1 nxs
    -- home
    refine ⟨_, rfl, _, rfl, _, rfl, _, rfl, st, CS, dx, _, _, rfl, est, T.cl, T.no _ (by decide +kernel), zip_get (i := 6) sn_nodup rfl rfl, d, n, S, _, sv, [], (fun i => ds.getD (2 + S + i) .none), gv, zs, rfl, D.fr f0 nds, fun i hi => ?_, by omega, hn, gvd, hz64, fun p ts H15 s15 hp15 ep et ht => ?_⟩
    · have e0 : (2 + (S : Int) + ((i : Nat) : Int)) = ((2 + S + i : Nat) : Int) := by omega
      rw [e0]
      exact dp_same f0.tp _ _ (dk (2 + S + i) (by omega))
    have hp0 := back f0 ⟨_, est⟩ hp15
    have nps : p ∉ [st] := by
      intro z
      rw [List.mem_singleton.mp z, est] at hp15
      cases hp15
    have Dh : DcAt K H15 p (homeC (fun i => ds.getD (2 + S + i) .none) n zs) := ⟨ts, ep, et, ht⟩
    replace f0 := f0.trans (Fr.of s15)
    replace Dk13 := Dk13.fr (xs := []) (Fr.of s15) (by simp)
    replace est := s15 _ _ est
    replace etr := s15 _ _ etr
    replace eqa := s15 _ _ eqa
    replace gvd := dp_same (tp_same s15) _ _ gvd
    refine fld_go T 9 rfl est rfl rfl (by decide) fun H16 est f1 => ?_
    replace f0 := f0.trans f1
    replace etr := f1.tup etr
    replace eqa := f1.tup eqa
    replace gvd := dp_same f1.tp _ _ gvd
    replace Dk13 := Dk13.fr f1 nxs
    replace Dh := Dh.fr f1 nps
    -- running
    intro r hr16
    have hr0 := back f0 ⟨_, est⟩ hr16
    have nrs : r ∉ [st] := by
      intro z
      rw [List.mem_singleton.mp z, est] at hr16
      cases hr16
    have npr : p ≠ r := by
      obtain ⟨ts', e', _⟩ := Dh
      intro z
      rw [z, hr16] at e'
      cases e'
    have s17 := same_upd (o := .dK []) hr16
    have er : (upd H16 r (.dK [])) r = some (.dK []) := upd_same
    replace f0 := f0.trans (Fr.of s17)
    replace est := s17 _ _ est
    replace etr := s17 _ _ etr
    replace eqa := s17 _ _ eqa
    replace gvd := dp_same (tp_same s17) _ _ gvd
    replace Dk13 := Dk13.fr (xs := []) (Fr.of s17) (by simp)
    replace Dh := Dh.fr (xs := []) (Fr.of s17) (by simp)
    generalize (upd H16 r (.dK [])) = H17 at f0 est etr eqa gvd Dk13 Dh er
    refine fld_go T 10 rfl est rfl rfl (by decide) fun H18 est f1 => ?_
    replace f0 := f0.trans f1
    replace etr := f1.tup etr
    replace eqa := f1.tup eqa
    replace gvd := dp_same f1.tp _ _ gvd
    replace Dk13 := Dk13.fr f1 nxs
    replace Dh := Dh.fr f1 nps
    replace er := f1.at er nrs
    -- numbers
    refine ⟨_, rfl, vh, _, 0, .int a, rfl, rfl, same_seqT (f0.tp.trans tp_le) hvh, atI_nat (j := 0) rfl, ?_⟩
    refine fld_go T 11 rfl est rfl rfl (by decide) fun H19 est f1 => ?_
    replace f0 := f0.trans f1
    replace etr := f1.tup etr
    replace eqa := f1.tup eqa
    replace gvd := dp_same f1.tp _ _ gvd
    replace Dk13 := Dk13.fr f1 nxs
    replace Dh := Dh.fr f1 nps
    replace er := f1.at er nrs
    refine ⟨_, rfl, vh, _, 1, .int g, rfl, rfl, same_seqT (f0.tp.trans tp_le) hvh, atI_nat (j := 1) rfl, _, rfl, _, rfl, d, S, ringD S ds, rfl, ring _ f0, hrl, hS, by omega, fun H20 s20 => ⟨_, _, rfl, rfl, _, _, rfl, ?_⟩⟩
    replace f0 := f0.trans (Fr.of s20)
    replace est := s20 _ _ est
    replace etr := s20 _ _ etr
    replace eqa := s20 _ _ eqa
    replace gvd := dp_same (tp_same s20) _ _ gvd
    replace Dk13 := Dk13.fr (xs := []) (Fr.of s20) (by simp)
    replace Dh := Dh.fr (xs := []) (Fr.of s20) (by simp)
    replace er := s20 _ _ er
    refine fld_go T 12 rfl est rfl rfl (by decide) fun H21 est f1 => ?_
    replace f0 := f0.trans f1
    replace etr := f1.tup etr
    replace eqa := f1.tup eqa
    replace gvd := dp_same f1.tp _ _ gvd
    replace Dk13 := Dk13.fr f1 nxs
    replace Dh := Dh.fr f1 nps
    replace er := f1.at er nrs
    refine ⟨_, rfl, vh, _, 2, .int ((t : Nat) : Int), rfl, rfl, same_seqT (f0.tp.trans tp_le) hvh, atI_nat (j := 2) rfl, _, rfl, st, CS, dx, _, _, rfl, est, T.cl, T.no _ (by decide +kernel), zip_get (i := 6) sn_nodup rfl rfl, gv, zs, rfl, gvd, hzl, fun H22 s22 => ⟨_, _, rfl, rfl, ?_⟩⟩
    replace f0 := f0.trans (Fr.of s22)
    replace est := s22 _ _ est
    replace etr := s22 _ _ etr
    replace eqa := s22 _ _ eqa
    replace gvd := dp_same (tp_same s22) _ _ gvd
    replace Dk13 := Dk13.fr (xs := []) (Fr.of s22) (by simp)
    replace Dh := Dh.fr (xs := []) (Fr.of s22) (by simp)
    replace er := s22 _ _ er
    refine fld_go T 13 rfl est rfl rfl (by decide) fun H23 est f1 => ?_
    replace f0 := f0.trans f1
    replace etr := f1.tup etr
    replace eqa := f1.tup eqa
    replace gvd := dp_same f1.tp _ _ gvd
    replace Dk13 := Dk13.fr f1 nxs
    replace Dh := Dh.fr f1 nps
    replace er := f1.at er nrs
    refine kQ a g t hsome H23 x p r f0 hx0 hp0 hr0 ⟨⟨dx, .ref d, .ref tr, gv, .ref qa, ?_, .tup (SqT.of (tp_at etr rfl)) .nil, ?_, .tup (SqT.of (tp_at eqa rfl)) .nil⟩, Dk13, ?_, ⟨[], er, rfl, fun t ht => by simp at ht⟩, npr⟩
    · rw [est]
      have en : (initM (.ref d) n S ds a g t).ns = t + slotsN zs := by rw [← hzs]; rfl
      show some (HO.ins CS dx (SN.zip _)) = some (HO.ins CS dx (SN.zip (mvals (initM (.ref d) n S ds a g t) _ _ _ _ _ _ _)))
      unfold mvals
      rw [en]
      have ec : V.int (((t : Nat) : Int) + ((slotsN zs : Nat) : Int)) = V.int ((t + slotsN zs : Nat) : Int) := congrArg V.int (by omega)
      rw [← ec]
      rfl
    · show Dp K (Tp H23) gv (gsD (rgs (ringD S ds) S (S + 1) 0 t g))
      rw [hzs]
      exact gvd
    · show DcAt K H23 p (homeC (fun i => ds.getD (2 + S + i) .none) n (rgs (ringD S ds) S (S + 1) 0 t g))
      rw [hzs]
      exact Dh
end
end Pf

set_option Elab.async false
set_option linter.all false
set_option maxRecDepth 100000
set_option maxHeartbeats 4000000
namespace Pf
open PySem PySem.Spec PyProof.Rows L2
theorem scFresh : FnScope ["plates", "slots", "home", "pairs", "plate", "disk", "cells"] ["plates", "slots", "home"] (defScope sFresh) := ⟨rfl, rfl, rfl, by decide +kernel, rfl, by decide +kernel, by decide +kernel⟩
theorem scOpen : FnScope ["disk", "plates", "slots", "store"] ["disk", "plates", "slots"] (defScope sOpen) := ⟨rfl, rfl, rfl, by decide +kernel, rfl, by decide +kernel, by decide +kernel⟩
def lsF (S : Nat) (cs : List Ch) : List (Int × PyData) := (0, rowD [0, 0, 0]) :: cs.map fun c => (2 + (S : Int) + c.1, rowD c.2)
def dsF (n S : Nat) (cs : List Ch) : List PyData := settleD (List.replicate (2 + S + n) (.tuple [])) (lsF S cs)
theorem dps_repl {K : PySem.W.Frag} {G : Hp} {v : V} {d : PyData} (h : Dp K G v d) : ∀ n : Nat, DpAll K G (List.replicate n v) (List.replicate n d)
  | 0 => .nil
  | n + 1 => .cons h (dps_repl h n)
section
variable {P : Program} {w : World} {K : PySem.W.Frag} {mg : Str → Option Value} {base : Heap} {CS CD CN : Addr}
def sp_open (K : PySem.W.Frag) (CS CD CN : Addr) : Sp := fun vs H Q E => ∃ (d : Addr) (n S : Nat) (ds : List PyData), vs = [.ref d, .int (n : Nat), .int (S : Nat)] ∧ DkAt K CD H d ds [] ∧ ds.length = 2 + S + n ∧ 0 < S ∧ S ≤ 60 ∧ n ≤ 60 ∧
  (readH (ds.getD 0 .none) (ds.getD 1 .none) = none → ∀ H', Same H H' → E (.ref CN) none H') ∧
  (∀ a g t, readH (ds.getD 0 .none) (ds.getD 1 .none) = some [a, g, ((t : Nat) : Int)] → OKW (initM (.ref d) n S ds a g t) ∧ ∀ H' st d' h r, Same H H' → H st = none → H d' = none → H h = none → H r = none → StAt K CS CD H' st d' h r (initM (.ref d) n S ds a g t).bring → Q (.ref st) H')
theorem ok_open {f fI fB : Addr} {fd fdI fdB : FuncData} (F : Fun K "open_store" "open_store" sOpen f fd) (T : STxt K CS CD) (MI : Mk K CS fI) (GI : FnOk P w K mg base (L2.CX P w) 6 fI fdI ["self", "plates", "slots", "disk"] (spStI K CS CD CN)) (mgS : mg "Store" = some (.ref CS)) (bI : Binds K fdI ["self", "plates", "slots", "disk"] [])
    (GB : FnOk P w K mg base CX0 5 fB fdB ["self"] (sp_bring K CS CD)) (mB : Meth K CS "bring_home" fB) (bB : Binds K fdB ["self"] []) : FnOk P w K mg base (L2.CX P w) 8 f fd ["disk", "plates", "slots"] (sp_open K CS CD CN) := by
  refine F.okX scOpen (fun vs H Q E h => ?_) (fun cdv A outer s H vs Q E hr h => ?_)
  · obtain ⟨d, n, S, ds, rfl, _⟩ := h
    rfl
  · obtain ⟨d, n, S, ds, rfl, Dk, hds, hS, hS2, hn, kE, kQ⟩ := h
    have nd := scOpen.nd
    refine ⟨_, pss_cons (ps_set (i := 3) nd rfl (.inl rfl) (pe_make (E := E) MI GI hr rfl mgS bI .nil (passes_call (takes_of rfl rfl rfl rfl) (fun _ _ _ _ h => h)) (pa_cons (pv 1) (pa_cons (pv 2) (pa_cons (pv 0) pa_nil)))))
      (pss_cons (ps_expr (pe_meth0 (pv 3) T.cl mB GB (hr.mono (by decide)) bB .nil pass0))
      (pss_one (ps_ret (pv 3)))), ?_⟩
    refine ⟨_, rfl, _, rfl, _, rfl, fun st dx hst hdx hne => ?_⟩
    have sd : Same H (upd (upd H dx (.own st)) st (.ins CS dx [])) := fun b o z => by
      rw [upd_ne (ne_of_none z hst), upd_ne (ne_of_none z hdx)]
      exact z
    refine ⟨st, dx, d, n, S, ds, rfl, upd_same, Dk.fr (xs := []) (.of sd) (by simp), hds, hS, hS2, hn, fun hnone H' f => kE hnone H' (((Fr.of sd).trans f).drop (ds := [st]) (cs := []) (fun c hc => by rw [List.mem_singleton.mp hc]; exact .inr hst)).same, fun a g t hsome H1 d' h r f1 hd' hh hr' A1 => ⟨rfl, ?_⟩⟩
    obtain ⟨ok, kq⟩ := kQ a g t hsome
    have hd0 := sd.free hd'
    obtain ⟨dx1, beg1, tr1, gv1, qv1, v1, _⟩ := A1.ex
    refine ⟨_, rfl, st, dx1, _, rfl, v1, zip_no (by decide +kernel), st, d', h, r, _, rfl, A1, ok, Nat.zero_le _, Nat.zero_le _, fun H2 f2 A2 => ⟨_, rfl, ?_⟩⟩
    have f3 : Fr [st, d'] H H2 := (Fr.of sd).trans ((f1.mono (by simp)).trans f2)
    have f4 : Fr [] H H2 := f3.drop (fun c hc => by
      rcases List.mem_cons.mp hc with z | z
      · rw [z]; exact .inr hst
      · rw [List.mem_singleton.mp z]; exact .inr hd0)
    exact kq H2 st d' h r f4.same hst hd0 (sd.free hh) (sd.free hr') A2
def sp_fresh (K : PySem.W.Frag) (CS CD CN : Addr) : Sp := fun vs H Q _ => ∃ (n S : Nat) (c : Addr) (ts : List Tr), vs = [.int (n : Nat), .int (S : Nat), .ref c] ∧ H c = some (.dK (tk ts)) ∧ (∀ t ∈ ts, Dp K (Tp H) t.2.1 (rowD t.2.2) ∧ t.2.2.length = 8 ∧ 0 ≤ t.1 ∧ t.1 < ((n : Nat) : Int)) ∧ (ts.map (·.1)).Nodup ∧ ts.length < 64 ∧ (∀ i < n, ((i : Nat) : Int) ∈ ts.map (·.1)) ∧ 0 < S ∧ S ≤ 60 ∧ n ≤ 60 ∧
  readH ((dsF n S (sortC (tc ts))).getD 0 .none) ((dsF n S (sortC (tc ts))).getD 1 .none) = some [0, 0, ((0 : Nat) : Int)] ∧
  ∀ H' x st d h r, Same H H' → H x = none → H st = none → H d = none → H h = none → H r = none → x ≠ st → x ≠ d → DkAt K CD H' x (dsF n S (sortC (tc ts))) [] → StAt K CS CD H' st d h r (initM (.ref x) n S (dsF n S (sortC (tc ts))) 0 0 0) → Q (.ref st) H'
theorem ok_fresh {f fK fPd fI fW fH fHp fB fS aF : Addr} {fd dK dPd dI dW dH dHp dB dS : FuncData} (F : Fun K "fresh_store" "fresh_store" sFresh f fd) (T : STxt K CS CD) (DT : DTxt K CD)
    (GK : FnOk P w K mg base CX0 3 fK dK ["plates", "changes"] (spChk K)) (kK : PySem.W.keepIn K (.ref fK) = true) (gK : mg "checked_changes" = some (.ref fK)) (bK : Binds K dK ["plates", "changes"] [])
    (GPd : FnOk P w K mg base CX0 2 fPd dPd ["plates", "slots"] spPod) (kPd : PySem.W.keepIn K (.ref fPd) = true) (gPd : mg "plates_of_disk" = some (.ref fPd)) (bPd : Binds K dPd ["plates", "slots"] [])
    (MI : Mk K CD fI) (GI : FnOk P w K mg base CX0 1 fI dI ["self", "many"] (spInit CD)) (mgC : mg "Disk" = some (.ref CD)) (bI : Binds K dI ["self", "many"] [])
    (GW : FnOk P w K mg base CX0 3 fW dW ["self", "plate", "value"] (spWrite CD)) (mW : Meth K CD "write" fW) (bW : Binds K dW ["self", "plate", "value"] [])
    (GH : FnOk P w K mg base CX0 1 fH dH ["slots", "plate"] spHomeP) (kH : PySem.W.keepIn K (.ref fH) = true) (gH : mg "home_plate" = some (.ref fH)) (bH : Binds K dH ["slots", "plate"] [])
    (GHp : FnOk P w K mg base CX0 1 fHp dHp ["number"] spHp) (kHp : PySem.W.keepIn K (.ref fHp) = true) (gHp : mg "head_plate" = some (.ref fHp)) (bHp : Binds K dHp ["number"] [])
    (GB : FnOk P w K mg base CX0 1 fB dB ["self"] (spBar CD)) (mB : Meth K CD "barrier" fB) (bB : Binds K dB ["self"] [])
    (MS : Mk K CS fS) (GS : FnOk P w K mg base (L2.CX P w) 6 fS dS ["self", "plates", "slots", "disk"] (spStI K CS CD CN)) (mgS : mg "Store" = some (.ref CS)) (bS : Binds K dS ["self", "plates", "slots", "disk"] [])
    (mr : mg "range" = none) (gF : mg "FIRST_HEAD" = some (.ref aF)) (hF : ∀ H, SqT K H aF [.int 0, .int 0, .int 0]) :
    FnOk P w K mg base (L2.CX P w) 8 f fd ["plates", "slots", "home"] (sp_fresh K CS CD CN) := by
  refine F.okX scFresh (fun vs H Q E h => ?_) (fun cdv A outer s H vs Q E hr h => ?_)
  · obtain ⟨n, S, c, ts, rfl, _⟩ := h
    rfl
  · obtain ⟨n, S, c, ts, rfl, hc, hts, hnd, h64, hall, hS, hS2, hn, hread, k⟩ := h
    have nd := scFresh.nd
    have hr1 : Room 1 _ := hr.mono (by decide)
    have hr2 : Room 2 _ := hr.mono (by decide)
    have hr3 : Room 3 _ := hr.mono (by decide)
    refine ⟨_, pss_cons (ps_set (i := 3) nd rfl (.inl rfl) (pe_call GK hr3 rfl gK kK bK .nil pass0 (pa_cons (pv 0) (pa_cons (pv 2) pa_nil))))
      (pss_cons (ps_for (passes_of rfl) rfl (pi_range1 (by rfl) mr (pa_cons (pv 0) pa_nil)) (pg_name (i := 4) nd rfl (.inl rfl))
        (pss_one (ps_if (pt_cmp (pc_dnotin (hu_of hr) (pv 4) (pv 2))) (pss_one ps_never) pss_nil)))
      (pss_cons (ps_set (i := 5) nd rfl (.inl rfl) (pe_make MI GI hr2 rfl mgC bI .nil pass0 (pa_cons (pe_call GPd hr2 rfl gPd kPd bPd .nil pass0 (pa_cons (pv 0) (pa_cons (pv 1) pa_nil))) pa_nil)))
      (pss_cons (ps_expr (pe_meth (pv 5) DT.cl mW GW hr3 bW .nil pass0 (pa_cons (pe_call GHp hr1 rfl gHp kHp bHp .nil pass0 (pa_cons (pe_ix ix_tup (pe_glob (v := .ref aF) rfl gF rfl) pe_int (fun _ _ => rfl)) pa_nil)) (pa_cons (pe_glob (v := .ref aF) rfl gF rfl) pa_nil))))
      (pss_cons (ps_for (passes_of rfl) rfl (pi_tup (pv 3)) (pg_tup rfl (pgs_cons (pg_name (i := 4) nd rfl (.inl rfl)) (pgs_cons (pg_name (i := 6) nd rfl (.inl rfl)) pgs_nil)))
        (pss_one (ps_expr (pe_meth (pv 5) DT.cl mW GW hr3 bW .nil pass0 (pa_cons (pe_call GH hr1 rfl gH kH bH .nil pass0 (pa_cons (pv 1) (pa_cons (pv 4) pa_nil))) (pa_cons (pv 6) pa_nil))))))
      (pss_cons (ps_expr (pe_meth0 (pv 5) DT.cl mB GB hr1 bB .nil pass0))
      (pss_one (ps_ret (pe_make (E := E) MS GS hr rfl mgS bS .nil (passes_call (takes_of rfl rfl rfl rfl) (fun _ _ _ _ h => h)) (pa_cons (pv 0) (pa_cons (pv 1) (pa_cons (pv 5) pa_nil)))))))))))
      , ?_⟩
    refine ⟨_, rfl, _, rfl, (n : Nat), c, ts, rfl, hc, hts, hnd, h64, fun v H1 s1 hd1 => ?_⟩
    obtain ⟨a, xs, rfl, hx1, hx2, hx3⟩ := ch_read hd1
    have hcl : (sortC (tc ts)).length = ts.length := by rw [(sortC_perm _).length_eq]; unfold tc; rw [List.length_map]
    refine ⟨_, rfl, (n : Nat), rfl, by omega, by omega, for_range (lo := 0) (n := ((n : Nat) : Int).toNat) (fun i σ H' => ∃ y4, σ = [some (.int (n : Nat)), some (.int (S : Nat)), some (.ref c), some (.ref a), y4, none, none] ∧ H' = H1) ⟨none, rfl, rfl⟩ ?_ ?_⟩
    · rintro i σ H' hi ⟨y4, rfl, rfl⟩
      have hin : i < n := by omega
      obtain ⟨t, ht, hti⟩ := List.mem_map.mp (hall i hin)
      have hv := tk_get hnd ht
      rw [hti] at hv
      have ez : (0 : Int) + (i : Int) = ((i : Nat) : Int) := by omega
      refine ⟨_, rfl, _, rfl, c, some t.2.1, rfl, .inl ⟨tk ts, Sum.inl (0 + (i : Int)), .inl (s1 _ _ hc), rfl, by rw [ez]; exact hv.symm⟩, _, rfl, iteF ⟨_, rfl, rfl⟩⟩
    · rintro σ H' ⟨y4, rfl, rfl⟩
      refine ⟨_, rfl, _, rfl, _, _, rfl, fun x xx hx hxx hne => ?_⟩
      have sd : Same H' (upd (upd H' xx (.own x)) x (.ins CD xx [])) := fun b o z => by
        rw [upd_ne (ne_of_none z hx), upd_ne (ne_of_none z hxx)]
        exact z
      have hx0 : H x = none := s1.free hx
      have hx0' : H x = none := s1.free hx
      refine ⟨x, xx, _, rfl, upd_same, by omega, by omega, fun H2 e b2 he0 he1 D2 => ⟨rfl, ?_⟩⟩
      have s2 : Same H' H2 := fun b o z => b2.at (sd _ _ z) (by simp only [List.mem_cons, List.not_mem_nil, or_false]; exact ne_of_none z hx)
      have hN : (2 + ((S : Nat) : Int) + ((n : Nat) : Int)) = ((2 + S + n : Nat) : Int) := by omega
      rw [hN] at D2
      obtain ⟨dx2, pa, pb, ts2, x1, _⟩ := id D2
      refine ⟨_, rfl, x, dx2, _, rfl, x1, fl_no _ _ _ (by decide +kernel) (by decide +kernel) (by decide +kernel), aF, _, 0, .int 0, rfl, rfl, hF _, atI_nat (j := 0) rfl, 0, rfl, x, _, _, .ref aF, _, [], rfl, D2, (by decide), (by show (0 : Int) < _; omega), (by decide), fun H3 b3 D3 => ?_⟩
      have f3 : Fr [x] H2 H3 := .but b3 (fun c hc u z => by rw [List.mem_singleton.mp hc] at z; exact D2.obj u z)
      have f03 : Fr [x] H' H3 := (Fr.of s2).trans f3
      have hx1' : ∀ {Hz : Hp}, Fr [x] H3 Hz → SqT K Hz a xs := fun f => same_seqT ((f03.trans f).tp.trans tp_le) hx1
      have L0 : LvD K (Tp H3) ([] ++ [((0 : Int) % 2, V.ref aF)]) ((lsF S (sortC (tc ts))).take (0 + 1)) := ⟨rfl, .cons (.tup (hF _) (dps_ints [0, 0, 0])) .nil⟩
      refine ⟨_, rfl, a, rfl, ⟨_, hx1' (.of (Same.refl _))⟩, for_tup (K := K) (a := a) (xs := xs) (fun i σ Hz => ∃ y4 y6 lv, σ = [some (.int (n : Nat)), some (.int (S : Nat)), some (.ref c), some (.ref a), y4, some (.ref x), y6] ∧ Fr [x] H3 Hz ∧ DiskAt CD Hz x ((2 + S + n : Nat) : Int) (List.replicate ((2 + S + n : Nat) : Int).toNat (.ref e)) lv ∧ LvD K (Tp Hz) lv ((lsF S (sortC (tc ts))).take (i + 1)))
        ⟨_, none, _, rfl, .of (Same.refl _), D3, L0⟩ (fun i σ Hz _ z => by obtain ⟨_, _, _, _, z, _⟩ := z; exact hx1' z) ?_ ?_⟩
      · rintro i z σ Hz hi ⟨y4, y6, lv, rfl, fr, Dz, Lz⟩
        obtain ⟨d2, hd2, hp2⟩ := dps_get hx3 hi
        rw [List.getElem?_map] at hd2
        cases ei : (sortC (tc ts))[i]? with
        | none => rw [ei] at hd2; cases hd2
        | some q =>
          rw [ei] at hd2
          have ed : pD q = d2 := Option.some.inj hd2
          subst ed
          obtain ⟨b1, b2', rfl, r1, r2⟩ := pD_read hp2
          have hil := (List.getElem?_eq_some_iff.mp ei).1
          have hq := sort_mem (List.mem_of_getElem? ei)
          obtain ⟨t, ht, t1, t2⟩ := hq
          obtain ⟨_, _, g1, g2⟩ := hts t ht
          rw [t1] at g1 g2
          obtain ⟨dxz, paz, pbz, tsz, xz1, _⟩ := id Dz
          have stz : Same (Tp H') (Tp Hz) := (f03.trans fr).tp
          have lvl : lv.length ≤ 64 := by
            have := congrArg List.length Lz.1
            rw [List.length_map, List.length_map, List.length_take] at this
            omega
          refine ⟨b1, _, rfl, same_seqT (stz.trans tp_le) r1, rfl, _, _, rfl, _, _, rfl, rfl, _, rfl, x, dxz, _, rfl, xz1, fl_no _ _ _ (by decide +kernel) (by decide +kernel) (by decide +kernel), _, rfl, _, rfl, _, q.1, rfl, _, rfl, x, _, _, .ref b2', _, lv, rfl, Dz, by omega, by omega, by omega, fun Hy by' Dy => ?_⟩
          have fy : Fr [x] Hz Hy := .but by' (fun c hc u z => by rw [List.mem_singleton.mp hc] at z; exact Dz.obj u z)
          refine ⟨_, _, _, rfl, fr.trans fy, Dy, ?_⟩
          have et : (lsF S (sortC (tc ts))).take (i + 1 + 1) = (lsF S (sortC (tc ts))).take (i + 1) ++ [(2 + (S : Int) + q.1, rowD q.2)] := by
            rw [List.take_add_one]
            congr 1
            show (((sortC (tc ts)).map fun c => (2 + (S : Int) + c.1, rowD c.2))[i]?).toList = _
            rw [List.getElem?_map, ei]
            rfl
          rw [et]
          have Lz' := Lz.same fy.tp
          refine ⟨by rw [List.map_append, List.map_append, Lz'.1]; rfl, ?_⟩
          rw [List.map_append, List.map_append]
          exact dps_app Lz'.2 (.cons (.tup (same_seqT (stz.trans fy.tp) r2) (dps_ints _)) .nil)
      · rintro σ Hz ⟨y4, y6, lv, rfl, fr, Dz, Lz⟩
        have hlt : (lsF S (sortC (tc ts))).take (xs.length + 1) = lsF S (sortC (tc ts)) := by
          refine List.take_of_length_le ?_
          unfold lsF
          rw [List.length_cons, List.length_map]
          omega
        rw [hlt] at Lz
        have hin : InB ((2 + S + n : Nat) : Int) lv := by
          intro q hq
          have h1 : q.1 ∈ lv.map (·.1) := List.mem_map.mpr ⟨q, hq, rfl⟩
          rw [Lz.1] at h1
          obtain ⟨q', h2, h3⟩ := List.mem_map.mp h1
          rw [← h3]
          rcases List.mem_cons.mp (show q' ∈ (0, rowD [0, 0, 0]) :: (sortC (tc ts)).map fun c => (2 + (S : Int) + c.1, rowD c.2) from h2) with z | z
          · rw [z]
            show (0 : Int) ≤ 0 ∧ (0 : Int) < _
            omega
          · obtain ⟨c', hc', rfl⟩ := List.mem_map.mp z
            obtain ⟨t, ht, t1, t2⟩ := sort_mem hc'
            obtain ⟨_, _, g1, g2⟩ := hts t ht
            rw [t1] at g1 g2
            show 0 ≤ 2 + (S : Int) + c'.1 ∧ 2 + (S : Int) + c'.1 < _
            omega
        obtain ⟨dxz, paz, pbz, tsz, xz1, _⟩ := id Dz
        refine ⟨_, rfl, x, dxz, _, rfl, xz1, fl_no _ _ _ (by decide +kernel) (by decide +kernel) (by decide +kernel), x, _, _, lv, rfl, Dz, hin, by omega, fun Hb fb Db => ?_⟩
        have hee : Hz e = some (.tup []) := (f3.trans fr).tup he1
        have hdl : (dsF n S (sortC (tc ts))).length = 2 + S + n := by
          unfold dsF
          rw [settleD_len, List.length_replicate]
        have Dk : DkAt K CD Hb x (dsF n S (sortC (tc ts))) [] := by
          refine ⟨_, [], by rw [hdl]; exact Db, dps_same fb.tp _ _ (settle_dp Lz ?_), rfl, .nil⟩
          rw [Int.toNat_natCast]
          exact dps_repl (.tup (SqT.of (tp_at hee rfl)) .nil) _
        have sHb : Same H Hb := fun b o z => by
          have hz := s1 _ _ z
          exact fb.at (fr.at (f03.at hz (by simp [ne_of_none hz hx])) (by simp [ne_of_none hz hx])) (by simp [ne_of_none hz hx])
        refine ⟨_, rfl, _, rfl, _, rfl, fun st dx hst hdx hne => ?_⟩
        have sd2 : Same Hb (upd (upd Hb dx (.own st)) st (.ins CS dx [])) := fun b o z => by
          rw [upd_ne (ne_of_none z hst), upd_ne (ne_of_none z hdx)]
          exact z
        refine ⟨st, dx, x, n, S, _, rfl, upd_same, Dk.fr (xs := []) (.of sd2) (by simp), hdl, hS, hS2, hn, fun hnone => by (rw [hread] at hnone; cases hnone), fun a' g' t' hsome Hq d' h' r' fq hd' hh' hr' Aq => ⟨rfl, ?_⟩⟩
        rw [hread] at hsome
        have hs2 := Option.some.inj hsome
        have ha : (0 : Int) = a' := (List.cons.inj hs2).1
        have hg : (0 : Int) = g' := (List.cons.inj (List.cons.inj hs2).2).1
        have ht0 : ((0 : Nat) : Int) = ((t' : Nat) : Int) := (List.cons.inj (List.cons.inj (List.cons.inj hs2).2).2).1
        have ht' : t' = 0 := by omega
        subst ha
        subst hg
        subst ht'
        have fH : Fr [] H Hq := ((Fr.of (sHb.trans sd2)).trans fq).drop (fun c hc => by rw [List.mem_singleton.mp hc]; exact .inr (sHb.free hst))
        have sall := sHb.trans sd2
        obtain ⟨svx, lvx, ⟨dxq, paq, pbq, tsq, eqx, _⟩, _⟩ := id Dk
        have nxs : x ≠ st := fun z => by rw [z, hst] at eqx; cases eqx
        have nxd : x ≠ d' := fun z => by
          have := sd2 _ _ eqx
          rw [z, hd'] at this
          cases this
        have DkQ : DkAt K CD Hq x (dsF n S (sortC (tc ts))) [] := (Dk.fr (xs := []) (.of sd2) (by simp)).fr fq (by simp [nxs])
        exact k Hq x st d' h' r' fH.same hx0' (sHb.free hst) (sall.free hd') (sall.free hh') (sall.free hr') nxs nxd DkQ Aq
end
end Pf

set_option Elab.async false
set_option linter.all false
set_option maxRecDepth 100000
set_option maxHeartbeats 1000000
namespace Pf
open PySem PySem.Spec PyProof.Rows L2
/-! ### homes as functions -/
def canonC (n : Nat) (F : Nat → List Int) : List Ch := (List.range n).map fun i : Nat => (((i : Nat) : Int), F i)
def overV (xs : List Ch) (i : Int) (v : List Int) : List Int := xs.foldl (fun v c => if c.1 = i then c.2 else v) v
/-- a home behind some changes -/
def chF (cs : List Ch) (F : Nat → List Int) : Nat → List Int := fun i => overV cs (i : Int) (F i)
/-- a home behind groups -/
def grF (zs : List Gr) (F : Nat → List Int) : Nat → List Int := zs.foldl (fun F z => chF z.2.2 F) F
theorem canon_len (n : Nat) (F : Nat → List Int) : (canonC n F).length = n := by unfold canonC; rw [List.length_map, List.length_range]
theorem canon_get {n : Nat} {F : Nat → List Int} {i : Nat} (h : i < n) : (canonC n F)[i]? = some ((i : Int), F i) := by
  unfold canonC
  rw [List.getElem?_map, List.getElem?_range h]
  rfl
theorem canon_any {n : Nat} {F : Nat → List Int} {k : Int} : ((canonC n F).any fun t => decide (t.1 = k)) = decide (0 ≤ k ∧ k < (n : Int)) := by
  unfold canonC
  rw [List.any_map]
  by_cases h : 0 ≤ k ∧ k < (n : Int)
  · rw [decide_eq_true h, List.any_eq_true]
    exact ⟨k.toNat, List.mem_range.mpr (by omega), decide_eq_true (show ((k.toNat : Nat) : Int) = k by omega)⟩
  · rw [decide_eq_false h, List.any_eq_false]
    intro x hx z
    have hx' := List.mem_range.mp hx
    have z' : ((x : Nat) : Int) = k := of_decide_eq_true z
    exact h ⟨by omega, by omega⟩
theorem canon_congr {n : Nat} {F G : Nat → List Int} (h : ∀ i < n, F i = G i) : canonC n F = canonC n G := by
  unfold canonC
  apply List.map_congr_left
  intro i hi
  rw [h i (List.mem_range.mp hi)]
theorem canon_inj {n : Nat} {F G : Nat → List Int} (h : canonC n F = canonC n G) {i : Nat} (hi : i < n) : F i = G i := by
  have h1 := canon_get (F := F) hi
  rw [h, canon_get hi] at h1
  have := Option.some.inj h1
  exact (Prod.mk.inj this).2.symm
theorem canon_keys (n : Nat) (F : Nat → List Int) : (canonC n F).map (·.1) = (List.range n).map fun i : Nat => ((i : Nat) : Int) := by
  unfold canonC
  rw [List.map_map]
  rfl
theorem canon_nodup (n : Nat) (F : Nat → List Int) : ((canonC n F).map (·.1)).Nodup := by
  rw [canon_keys]
  exact List.pairwise_map.mpr (List.nodup_range.imp fun h e => h (Int.ofNat.inj e))
theorem canon_put {n : Nat} {F : Nat → List Int} {k : Int} {l : List Int} (h0 : 0 ≤ k) (h1 : k < (n : Int)) : putC (canonC n F) k l = canonC n (fun i : Nat => if ((i : Nat) : Int) = k then l else F i) := by
  unfold putC
  rw [canon_any, decide_eq_true ⟨h0, h1⟩, if_pos rfl]
  unfold canonC
  rw [List.map_map]
  apply List.map_congr_left
  intro i _
  show (if ((i : Nat) : Int) = k then (((i : Nat) : Int), l) else (((i : Nat) : Int), F i)) = (((i : Nat) : Int), if ((i : Nat) : Int) = k then l else F i)
  by_cases c : ((i : Nat) : Int) = k
  · rw [if_pos c, if_pos c]
  · rw [if_neg c, if_neg c]
theorem base_canon (e : Nat → PyData) : ∀ n, baseC e n = canonC n fun i => cellsOf (e i)
  | 0 => rfl
  | n + 1 => by
    rw [baseC_more, base_canon e n]
    unfold putC
    rw [canon_any, decide_eq_false (by omega), if_neg (by decide)]
    unfold canonC
    rw [List.range_succ, List.map_append]
    rfl
theorem over_canon {n : Nat} : ∀ (xs : List Ch) (F : Nat → List Int), (∀ c ∈ xs, 0 ≤ c.1 ∧ c.1 < (n : Int)) → overC (canonC n F) xs = canonC n (chF xs F)
  | [], F, _ => rfl
  | c :: xs, F, h => by
    show overC (putC (canonC n F) c.1 c.2) xs = _
    obtain ⟨h0, h1⟩ := h c List.mem_cons_self
    rw [canon_put h0 h1, over_canon xs _ fun c' hc => h c' (List.mem_cons_of_mem _ hc)]
    apply canon_congr
    intro i _
    show overV xs i (if (i : Int) = c.1 then c.2 else F i) = overV xs i (if c.1 = (i : Int) then c.2 else F i)
    by_cases e : (i : Int) = c.1
    · rw [if_pos e, if_pos e.symm]
    · rw [if_neg e, if_neg fun z => e z.symm]
/-! ### the value of a key -/
def getC (cs : List Ch) (i : Int) : Option (List Int) := (cs.find? fun c => decide (c.1 = i)).map (·.2)
theorem getC_cons (c : Ch) (cs : List Ch) (i : Int) : getC (c :: cs) i = if c.1 = i then some c.2 else getC cs i := by
  unfold getC
  by_cases e : c.1 = i
  · simp [List.find?_cons, e]
  · simp [List.find?_cons, e]
theorem getC_map (k : Int) (l : List Int) (i : Int) : ∀ cs : List Ch, getC (cs.map (fun t => if t.1 = k then (t.1, l) else t)) i = if i = k ∧ (cs.any fun t => decide (t.1 = k)) = true then some l else getC cs i
  | [] => by
    rw [if_neg]
    · rfl
    · rintro ⟨_, z⟩; cases z
  | c :: cs => by
    rw [List.map_cons, getC_cons, getC_cons, getC_map k l i cs]
    by_cases e : c.1 = k
    · rw [if_pos e]
      by_cases e2 : c.1 = i
      · rw [if_pos e2, if_pos ⟨by omega, by rw [List.any_cons, decide_eq_true e]; rfl⟩]
      · rw [if_neg e2, if_neg e2, if_neg fun z => e2 (by omega), if_neg fun z => e2 (by omega)]
    · rw [if_neg e]
      by_cases e2 : c.1 = i
      · rw [if_pos e2, if_pos e2, if_neg fun z => e (by omega)]
      · rw [if_neg e2, if_neg e2, List.any_cons, decide_eq_false e, Bool.false_or]
theorem getC_app (i : Int) : ∀ (cs ds : List Ch), getC (cs ++ ds) i = (getC cs i).or (getC ds i)
  | [], ds => rfl
  | c :: cs, ds => by
    rw [List.cons_append, getC_cons, getC_cons, getC_app i cs ds]
    by_cases e : c.1 = i
    · rw [if_pos e, if_pos e]; rfl
    · rw [if_neg e, if_neg e]
theorem getC_none {cs : List Ch} {i : Int} (h : (cs.any fun t => decide (t.1 = i)) = false) : getC cs i = none := by
  unfold getC
  rw [List.find?_eq_none.mpr fun x hx z => ?_]
  · rfl
  · have := List.any_eq_false.mp h x hx
    exact this z
theorem getC_put (cs : List Ch) (k : Int) (l : List Int) (i : Int) : getC (putC cs k l) i = if i = k then some l else getC cs i := by
  unfold putC
  cases hb : (cs.any fun t => decide (t.1 = k)) with
  | true =>
    rw [if_pos rfl, getC_map, hb]
    by_cases e : i = k
    · rw [if_pos ⟨e, rfl⟩, if_pos e]
    · rw [if_neg fun z => e z.1, if_neg e]
  | false =>
    rw [if_neg (by decide), getC_app, getC_cons]
    by_cases e : i = k
    · rw [if_pos e, if_pos e.symm, e, getC_none hb]
      rfl
    · rw [if_neg e, if_neg fun z => e z.symm]
      cases getC cs i <;> rfl
theorem getC_mem {cs : List Ch} (hn : (cs.map (·.1)).Nodup) {i : Int} {l : List Int} : getC cs i = some l ↔ (i, l) ∈ cs := by
  induction cs with
  | nil => constructor <;> intro h <;> cases h
  | cons c cs ih =>
    have hn' : c.1 ∉ cs.map (·.1) ∧ (cs.map (·.1)).Nodup := List.nodup_cons.mp hn
    rw [getC_cons]
    by_cases e : c.1 = i
    · rw [if_pos e]
      constructor
      · intro h
        have : c.2 = l := Option.some.inj h
        rw [← e, ← this]
        exact List.mem_cons_self
      · intro h
        rcases List.mem_cons.mp h with z | z
        · rw [← z]
        · exact absurd (List.mem_map.mpr ⟨_, z, rfl⟩) (by rw [← e]; exact hn'.1)
    · rw [if_neg e, ih hn'.2]
      constructor
      · exact List.mem_cons_of_mem _
      · intro h
        rcases List.mem_cons.mp h with z | z
        · rw [← z] at e; exact absurd rfl e
        · exact z
theorem getC_perm {cs ds : List Ch} (hn : (cs.map (·.1)).Nodup) (p : ds.Perm cs) (i : Int) : getC ds i = getC cs i := by
  have hn2 : (ds.map (·.1)).Nodup := (p.map _).nodup_iff.mpr hn
  cases h : getC cs i with
  | none =>
    cases h2 : getC ds i with
    | none => rfl
    | some l =>
      have := (getC_mem hn2).mp h2
      have := (getC_mem hn).mpr (p.subset this)
      rw [h] at this
      cases this
  | some l =>
    have := (getC_mem hn).mp h
    exact (getC_mem hn2).mpr (p.symm.subset this)
theorem over_get : ∀ {cs : List Ch} {i : Int} {v : List Int}, (cs.map (·.1)).Nodup → overV cs i v = (getC cs i).getD v
  | [], i, v, _ => rfl
  | c :: cs, i, v, hn => by
    have hn' : c.1 ∉ cs.map (·.1) ∧ (cs.map (·.1)).Nodup := List.nodup_cons.mp hn
    show overV cs i (if c.1 = i then c.2 else v) = _
    rw [over_get hn'.2, getC_cons]
    by_cases e : c.1 = i
    · rw [if_pos e, if_pos e]
      have : getC cs i = none := getC_none (by
        rw [List.any_eq_false]
        intro x hx z
        have : x.1 = i := of_decide_eq_true z
        exact hn'.1 (List.mem_map.mpr ⟨x, hx, by omega⟩))
      rw [this]
      rfl
    · rw [if_neg e, if_neg e]
theorem getC_in (n : Int) (i : Int) (hi : i < n) : ∀ (xs cs : List Ch) (v : List Int), (getC (inC n cs xs) i).getD v = overV xs i ((getC cs i).getD v)
  | [], cs, v => rfl
  | c :: xs, cs, v => by
    show (getC (inC n (if c.1 < n then putC cs c.1 c.2 else cs) xs) i).getD v = overV xs i (if c.1 = i then c.2 else (getC cs i).getD v)
    rw [getC_in n i hi xs]
    by_cases e : c.1 = i
    · rw [if_pos (by omega), if_pos e, getC_put, if_pos e.symm]
      rfl
    · rw [if_neg e]
      split
      · rw [getC_put, if_neg fun z => e z.symm]
      · rfl
theorem getC_last (n : Int) (i : Nat) (hi : (i : Int) < n) (F : Nat → List Int) : ∀ (zs : List Gr), (getC (lastC n zs) i).getD (F i) = grF zs F i := by
  have go : ∀ (zs : List Gr) (cs : List Ch) (G : Nat → List Int), (getC cs i).getD (F i) = G i → (getC (zs.foldl (fun cs z => inC n cs z.2.2) cs) i).getD (F i) = grF zs G i := by
    intro zs
    induction zs with
    | nil => intro cs G h; exact h
    | cons z zs ih =>
      intro cs G h
      refine ih _ _ ?_
      rw [getC_in n i hi, h]
      rfl
  intro zs
  exact go zs [] F rfl
theorem lastC_nodup (n : Int) (zs : List Gr) : ((lastC n zs).map (·.1)).Nodup := by
  have := (lastC_ok n zs zs.length).1
  rw [List.take_length] at this
  exact this
/-- the home that a disk means -/
theorem home_canon (e : Nat → PyData) (n : Nat) (zs : List Gr) (hz : ∀ z ∈ zs, ∀ c ∈ z.2.2, 0 ≤ c.1) : homeC e n zs = canonC n (grF zs fun i => cellsOf (e i)) := by
  unfold homeC
  rw [base_canon, over_canon _ _ fun c hc => lastC_in hz c ((sortC_perm _).subset hc)]
  apply canon_congr
  intro i hi
  show overV _ _ _ = _
  rw [over_get (((sortC_perm _).map _).nodup_iff.mpr (lastC_nodup _ _)), getC_perm (lastC_nodup _ _) (sortC_perm _)]
  exact getC_last (n : Int) i (by omega) (fun i => cellsOf (e i)) zs
theorem grF_app (zs ws : List Gr) (F : Nat → List Int) : grF (zs ++ ws) F = grF ws (grF zs F) := by
  unfold grF
  rw [List.foldl_append]
theorem grF_congr {zs : List Gr} : ∀ {F G : Nat → List Int} {i : Nat}, F i = G i → grF zs F i = grF zs G i := by
  induction zs with
  | nil => intro F G i h; exact h
  | cons z zs ih =>
    intro F G i h
    refine ih (F := chF z.2.2 F) (G := chF z.2.2 G) ?_
    show overV z.2.2 i (F i) = overV z.2.2 i (G i)
    rw [h]
/-- what groups change has its last value already, whatever stood there -/
theorem grF_last {n : Nat} {zs : List Gr} {F G : Nat → List Int} {i : Nat} (hi : i < n) (h : getC (lastC (n : Int) zs) i = none → F i = G i) : grF zs F i = grF zs G i := by
  rw [← getC_last (n : Int) i (by omega) F zs, ← getC_last (n : Int) i (by omega) G zs]
  cases e : getC (lastC (n : Int) zs) i with
  | none => exact h e
  | some l => rfl
end Pf

set_option Elab.async false
set_option linter.all false
set_option maxRecDepth 100000
set_option maxHeartbeats 1000000
namespace Pf
open PySem PySem.Spec PyProof.Rows L2
/-! ### whole groups in a ring -/
structure WholeG (ring : List PyData) (S t : Nat) (g : Int) (cs : List Ch) : Prop where
  pos : 0 < cs.length
  le : cs.length ≤ S
  at' : ∀ i c, cs[i]? = some c → ring.getD ((t + i) % S) .none = rowD (rowN g i cs.length c)
  ok : ∀ c ∈ cs, c.2.length = 8 ∧ 0 ≤ c.1
  g0 : 0 ≤ g
theorem asLog_row {g : Int} {i m : Nat} {c : Ch} (h8 : c.2.length = 8) (h0 : 0 ≤ c.1) (hg : 0 ≤ g) (hi : i < m) : asLog (rowD (rowN g i m c)) = some ⟨g, i, m, c.1, c.2⟩ := by
  have := asLog_mk (l := ⟨g, (i : Int), (m : Int), c.1, c.2⟩) ⟨h8, hg, by show (0 : Int) ≤ (i : Int); omega, by show (i : Int) < (m : Int); omega, h0⟩
  exact this
theorem grp_whole {ring : List PyData} {S t : Nat} {g : Int} {cs : List Ch} (h : WholeG ring S t g cs) : ∀ k, k ≤ cs.length → grp ring S t g (cs.length : Int) k = some (cs.take k)
  | 0, _ => rfl
  | k + 1, hk => by
    have hc := List.getElem?_eq_getElem (show k < cs.length by omega)
    obtain ⟨h8, h0⟩ := h.ok _ (List.getElem_mem (show k < cs.length by omega))
    show (grp ring S t g (cs.length : Int) k).bind _ = _
    rw [grp_whole h k (by omega)]
    show (asLog (ring.getD ((t + k) % S) .none)).bind _ = _
    rw [h.at' k _ hc, asLog_row h8 h0 h.g0 (by omega)]
    show (if g = g ∧ ((k : Nat) : Int) = (k : Int) ∧ ((cs.length : Nat) : Int) = (cs.length : Int) then some (cs.take k ++ [(cs[k].1, cs[k].2)]) else none) = _
    rw [if_pos ⟨rfl, rfl, rfl⟩, List.take_add_one, hc]
    rfl
theorem wg_whole {ring : List PyData} {S t : Nat} {g : Int} {cs : List Ch} (h : WholeG ring S t g cs) : wg ring S t g = some cs := by
  have hc := List.getElem?_eq_getElem h.pos
  obtain ⟨h8, h0⟩ := h.ok _ (List.getElem_mem h.pos)
  have e0 := h.at' 0 _ hc
  rw [Nat.add_zero] at e0
  unfold wg
  rw [e0, asLog_row h8 h0 h.g0 h.pos]
  show (if (S : Int) < ((cs.length : Nat) : Int) then none else grp ring S t g ((cs.length : Nat) : Int) ((cs.length : Nat) : Int).toNat) = _
  have := h.le
  rw [if_neg (by omega), Int.toNat_natCast, grp_whole h _ (Nat.le_refl _), List.take_length]
theorem grp_at {ring : List PyData} {S t : Nat} {g m : Int} : ∀ {k : Nat} {cs : List Ch}, grp ring S t g m k = some cs → ∀ i c, cs[i]? = some c → ∃ l, asLog (ring.getD ((t + i) % S) .none) = some l ∧ l.g = g ∧ l.a = (i : Int) ∧ l.m = m ∧ c = (l.h, l.cs)
  | 0, cs, h, i, c, hi => by cases h; simp at hi
  | k + 1, cs, h, i, c, hi => by
    have h' : (grp ring S t g m k).bind _ = some cs := h
    cases e : grp ring S t g m k with
    | none => rw [e] at h'; cases h'
    | some cs0 =>
      rw [e] at h'
      cases e2 : asLog (ring.getD ((t + k) % S) .none) with
      | none => rw [e2] at h'; cases h'
      | some l =>
        rw [e2] at h'
        have h3 : (if l.g = g ∧ l.a = (k : Int) ∧ l.m = m then some (cs0 ++ [(l.h, l.cs)]) else none) = some cs := h'
        by_cases cc : l.g = g ∧ l.a = (k : Int) ∧ l.m = m
        · rw [if_pos cc] at h3
          cases h3
          have hl := grp_len e
          by_cases hik : i < k
          · rw [List.getElem?_append_left (by omega)] at hi
            exact grp_at e i c hi
          · rw [List.getElem?_append_right (by omega)] at hi
            have : i - cs0.length = 0 := by
              have := (List.getElem?_eq_some_iff.mp hi).1
              simp at this
              omega
            rw [this] at hi
            have e4 : (l.h, l.cs) = c := Option.some.inj hi
            have e5 : i = k := by omega
            subst e5
            exact ⟨l, e2, cc.1, cc.2.1, cc.2.2, e4.symm⟩
        · rw [if_neg cc] at h3
          cases h3
theorem whole_wg {ring : List PyData} {S t : Nat} {g : Int} {cs : List Ch} (h : wg ring S t g = some cs) : WholeG ring S t g cs := by
  obtain ⟨hp, hle⟩ := wg_len h
  unfold wg at h
  cases e : asLog (ring.getD (t % S) .none) with
  | none => rw [e] at h; cases h
  | some l =>
    rw [e] at h
    have h' : (if (S : Int) < l.m then none else grp ring S t g l.m l.m.toNat) = some cs := h
    by_cases c : (S : Int) < l.m
    · rw [if_pos c] at h'; cases h'
    · rw [if_neg c] at h'
      obtain ⟨_, _, hl0, hl1, hl2, _⟩ := asLog_some e
      have hlen := grp_len h'
      have hm : l.m = ((cs.length : Nat) : Int) := by omega
      have hat := grp_at h'
      refine ⟨hp, hle, fun i c hi => ?_, fun c hc => ?_, ?_⟩
      · obtain ⟨l', e1, e2, e3, e4, e5⟩ := hat i c hi
        obtain ⟨e6, _⟩ := asLog_some e1
        rw [e6, e5, hm] at *
        show PyData.tuple ([l'.g, l'.a, l'.m, l'.h].map PyData.int ++ l'.cs.map PyData.int) = PyData.tuple ([g, (i : Int), ((cs.length : Nat) : Int), l'.h].map PyData.int ++ l'.cs.map PyData.int)
        rw [e2, e3, e4]
      · obtain ⟨i, hi⟩ := List.getElem?_of_mem hc
        obtain ⟨l', e1, e2, e3, e4, e5⟩ := hat i c hi
        obtain ⟨_, h8, _, _, _, h0⟩ := asLog_some e1
        rw [e5]
        exact ⟨h8, h0⟩
      · obtain ⟨l', e1, e2, _⟩ := hat 0 _ (List.getElem?_eq_getElem hp)
        obtain ⟨_, _, h0, _⟩ := asLog_some e1
        omega
theorem wg_num {ring : List PyData} {S t : Nat} {g : Int} {cs : List Ch} (h : wg ring S t g = some cs) : ∃ l, asLog (ring.getD (t % S) .none) = some l ∧ l.g = g := by
  have w := whole_wg h
  have hc := List.getElem?_eq_getElem w.pos
  obtain ⟨h8, h0⟩ := w.ok _ (List.getElem_mem w.pos)
  have e0 := w.at' 0 _ hc
  rw [Nat.add_zero] at e0
  exact ⟨_, by rw [e0, asLog_row h8 h0 w.g0 w.pos], rfl⟩
/-! ### the greatest number -/
theorem last_go : ∀ (ring : List PyData) (x b : Int), ring.foldl (fun m d => match asLog d with | some l => max m l.g | none => m) x < b ↔ x < b ∧ ∀ v ∈ ring, ∀ l, asLog v = some l → l.g < b
  | [], x, b => by simp
  | v :: ring, x, b => by
    rw [List.foldl_cons, last_go ring]
    cases e : asLog v with
    | none =>
      constructor
      · rintro ⟨h1, h2⟩
        refine ⟨h1, fun w hw l hl => ?_⟩
        rcases List.mem_cons.mp hw with z | z
        · rw [z, e] at hl; cases hl
        · exact h2 w z l hl
      · rintro ⟨h1, h2⟩
        exact ⟨h1, fun w hw => h2 w (List.mem_cons_of_mem _ hw)⟩
    | some l0 =>
      show max x l0.g < b ∧ _ ↔ _
      constructor
      · rintro ⟨h1, h2⟩
        refine ⟨by omega, fun w hw l hl => ?_⟩
        rcases List.mem_cons.mp hw with z | z
        · rw [z, e] at hl; cases hl; omega
        · exact h2 w z l hl
      · rintro ⟨h1, h2⟩
        have := h2 v List.mem_cons_self l0 e
        exact ⟨by omega, fun w hw => h2 w (List.mem_cons_of_mem _ hw)⟩
theorem last_lt {ring : List PyData} {b : Int} : lastI ring < b ↔ -1 < b ∧ ∀ v ∈ ring, ∀ l, asLog v = some l → l.g < b := last_go ring (-1) b
theorem last_at {ring : List PyData} {b : Int} {s : Nat} {l : LP} (h : lastI ring < b) (e : asLog (ring.getD s .none) = some l) : l.g < b := by
  by_cases hs : s < ring.length
  · rw [List.getD_eq_getElem?_getD, List.getElem?_eq_getElem hs] at e
    exact (last_lt.mp h).2 _ (List.getElem_mem hs) l e
  · rw [List.getD_eq_getElem?_getD, List.getElem?_eq_none (by omega)] at e
    cases e
/-! ### rows of groups -/
def rowsOK (ring : List PyData) (S : Nat) : List Gr → Nat → Nat → Int → Prop
  | [], _, _, _ => True
  | z :: zs, used, t, g => z.1 = g ∧ z.2.1 = t ∧ WholeG ring S t g z.2.2 ∧ used + z.2.2.length ≤ S ∧ rowsOK ring S zs (used + z.2.2.length) (t + z.2.2.length) (g + 1)
theorem slots_cons (z : Gr) (zs : List Gr) : slotsN (z :: zs) = z.2.2.length + slotsN zs := by
  unfold slotsN
  rw [List.map_cons, List.sum_cons]
theorem rgs_rows (ring : List PyData) (S : Nat) : ∀ k used t g, rowsOK ring S (rgs ring S k used t g) used t g
  | 0, _, _, _ => trivial
  | k + 1, used, t, g => by
    show rowsOK ring S (match wg ring S t g with | none => [] | some cs => if used + cs.length ≤ S then (g, t, cs) :: rgs ring S k (used + cs.length) (t + cs.length) (g + 1) else []) used t g
    cases e : wg ring S t g with
    | none => trivial
    | some cs =>
      show rowsOK ring S (if used + cs.length ≤ S then (g, t, cs) :: rgs ring S k (used + cs.length) (t + cs.length) (g + 1) else []) used t g
      split
      · rename_i hle
        exact ⟨rfl, rfl, whole_wg e, hle, rgs_rows ring S k _ _ _⟩
      · trivial
theorem rgs_ext {er : List PyData} {S : Nat} : ∀ {zs : List Gr} {k used t : Nat} {g : Int}, rowsOK er S zs used t g → zs.length ≤ k → rgs er S k used t g = zs ++ rgs er S (k - zs.length) (used + slotsN zs) (t + slotsN zs) (g + (zs.length : Nat))
  | [], k, used, t, g, _, _ => by
    show _ = rgs er S (k - 0) (used + 0) (t + 0) (g + (0 : Int))
    rw [Nat.sub_zero, Nat.add_zero, Nat.add_zero, Int.add_zero]
  | z :: zs, 0, used, t, g, _, hk => by simp at hk
  | z :: zs, k + 1, used, t, g, h, hk => by
    obtain ⟨h1, h2, h3, h4, h5⟩ := h
    show (match wg er S t g with | none => [] | some cs => if used + cs.length ≤ S then (g, t, cs) :: rgs er S k (used + cs.length) (t + cs.length) (g + 1) else []) = _
    rw [wg_whole h3]
    show (if used + z.2.2.length ≤ S then (g, t, z.2.2) :: rgs er S k (used + z.2.2.length) (t + z.2.2.length) (g + 1) else []) = _
    rw [if_pos h4, rgs_ext h5 (by simpa using hk), slots_cons]
    have ez : (g, t, z.2.2) = z := by rw [← h1, ← h2]
    rw [ez]
    have e1 : k + 1 - (z :: zs).length = k - zs.length := by simp
    have e2 : g + 1 + ((zs.length : Nat) : Int) = g + (((z :: zs).length : Nat) : Int) := by simp; omega
    have e3 : used + z.2.2.length + slotsN zs = used + (z.2.2.length + slotsN zs) := by omega
    have e4 : t + z.2.2.length + slotsN zs = t + (z.2.2.length + slotsN zs) := by omega
    rw [e1, e2, e3, e4]
    rfl
theorem rows_same {ring er : List PyData} {S : Nat} : ∀ {zs : List Gr} {used t : Nat} {g : Int}, rowsOK ring S zs used t g → (∀ i, i < slotsN zs → er.getD ((t + i) % S) .none = ring.getD ((t + i) % S) .none) → rowsOK er S zs used t g
  | [], _, _, _, _, _ => trivial
  | z :: zs, used, t, g, h, he => by
    obtain ⟨h1, h2, h3, h4, h5⟩ := h
    rw [slots_cons] at he
    refine ⟨h1, h2, ⟨h3.pos, h3.le, fun i c hi => ?_, h3.ok, h3.g0⟩, h4, rows_same h5 fun i hi => ?_⟩
    · have := (List.getElem?_eq_some_iff.mp hi).1
      rw [he i (by omega)]
      exact h3.at' i c hi
    · have := he (z.2.2.length + i) (by omega)
      rw [← Nat.add_assoc] at this
      exact this
theorem rows_le {ring : List PyData} {S : Nat} : ∀ {zs : List Gr} {used t : Nat} {g : Int}, rowsOK ring S zs used t g → used ≤ S → used + slotsN zs ≤ S
  | [], _, _, _, _, h => h
  | z :: zs, used, t, g, h, _ => by
    obtain ⟨_, _, _, h4, h5⟩ := h
    have := rows_le h5 h4
    rw [slots_cons]
    omega
theorem rows_len {ring : List PyData} {S : Nat} : ∀ {zs : List Gr} {used t : Nat} {g : Int}, rowsOK ring S zs used t g → zs.length ≤ slotsN zs
  | [], _, _, _, _ => Nat.le_refl _
  | z :: zs, used, t, g, h => by
    obtain ⟨_, _, h3, _, h5⟩ := h
    have h1 := rows_len h5
    have := h3.pos
    rw [slots_cons, List.length_cons]
    omega
theorem rows_key {ring : List PyData} {S : Nat} : ∀ {zs : List Gr} {used t : Nat} {g : Int}, rowsOK ring S zs used t g → ∀ z ∈ zs, ∀ c ∈ z.2.2, c.2.length = 8 ∧ 0 ≤ c.1
  | [], _, _, _, _, z, hz => by simp at hz
  | y :: zs, used, t, g, h, z, hz => by
    obtain ⟨_, _, h3, _, h5⟩ := h
    rcases List.mem_cons.mp hz with e | e
    · rw [e]; exact h3.ok
    · exact rows_key h5 z e
/-! ### new groups, some of whose plates are there -/
def lwG (S : Nat) (w : Gr) (i : Nat) : Int × PyData := (2 + ((w.2.1 : Nat) + (i : Nat) : Int) % (S : Int), rowD (rowN w.1 i w.2.2.length (w.2.2.getD i (0, []))))
def logG (S : Nat) : List Gr → List (Int × PyData)
  | [] => []
  | w :: ws => (List.range w.2.2.length).map (lwG S w) ++ logG S ws
/-- one behind another, each with a plate at least, right cells -/
def nextG : List Gr → Nat → Int → Prop
  | [], _, _ => True
  | w :: ws, t, g => w.1 = g ∧ w.2.1 = t ∧ 0 < w.2.2.length ∧ (∀ c ∈ w.2.2, c.2.length = 8 ∧ 0 ≤ c.1) ∧ nextG ws (t + w.2.2.length) (g + 1)
/-- how many groups are whole within the first i plates -/
def nG : List Gr → Nat → Nat
  | [], _ => 0
  | w :: ws, i => if w.2.2.length ≤ i then nG ws (i - w.2.2.length) + 1 else 0
theorem log_len (S : Nat) : ∀ ws, (logG S ws).length = slotsN ws
  | [] => rfl
  | w :: ws => by
    show ((List.range w.2.2.length).map (lwG S w) ++ logG S ws).length = _
    rw [List.length_append, List.length_map, List.length_range, log_len S ws, slots_cons]
theorem log_at {S : Nat} : ∀ {ws : List Gr} {t : Nat} {g : Int}, nextG ws t g → ∀ {j : Nat} {q : Int × PyData}, (logG S ws)[j]? = some q → q.1 = 2 + ((t + j : Nat) : Int) % (S : Int)
  | [], t, g, _, j, q, h => by simp [logG] at h
  | w :: ws, t, g, hn, j, q, h => by
    obtain ⟨h1, h2, h3, h4, h5⟩ := hn
    have h' : ((List.range w.2.2.length).map (lwG S w) ++ logG S ws)[j]? = some q := h
    by_cases hj : j < w.2.2.length
    · rw [List.getElem?_append_left (by rw [List.length_map, List.length_range]; exact hj), List.getElem?_map, List.getElem?_range hj] at h'
      have e : lwG S w j = q := Option.some.inj h'
      rw [← e, ← h2]
      show 2 + ((w.2.1 : Nat) + (j : Nat) : Int) % (S : Int) = _
      rw [show ((w.2.1 : Nat) + (j : Nat) : Int) = ((w.2.1 + j : Nat) : Int) by omega]
    · rw [List.getElem?_append_right (by rw [List.length_map, List.length_range]; omega), List.length_map, List.length_range] at h'
      have := log_at h5 h'
      rw [this]
      congr 2
      omega
theorem rgs_new {er : List PyData} {S : Nat} (hS : 0 < S) : ∀ {ws : List Gr} {t : Nat} {g : Int} {i k used : Nat}, 0 ≤ g → nextG ws t g → used + slotsN ws ≤ S → ws.length < k →
    (∀ j q, j < i → (logG S ws)[j]? = some q → er.getD ((t + j) % S) .none = q.2) →
    (i < slotsN ws → ∀ l, asLog (er.getD ((t + i) % S) .none) = some l → l.g < g) →
    (slotsN ws ≤ i → ∀ l, asLog (er.getD ((t + slotsN ws) % S) .none) = some l → l.g < g + (ws.length : Nat)) →
    rgs er S k used t g = ws.take (nG ws i)
  | [], t, g, i, 0, used, _, _, _, hk, _, _, _ => by simp at hk
  | [], t, g, i, k + 1, used, _, _, _, _, _, _, h3 => by
    show (match wg er S t g with | none => [] | some cs => if used + cs.length ≤ S then (g, t, cs) :: rgs er S k (used + cs.length) (t + cs.length) (g + 1) else []) = []
    cases e : wg er S t g with
    | none => rfl
    | some cs =>
      obtain ⟨l, e1, e2⟩ := wg_num e
      have := h3 (Nat.zero_le _) l e1
      have z : ((([] : List Gr).length : Nat) : Int) = 0 := rfl
      omega
  | w :: ws, t, g, i, 0, used, _, _, _, hk, _, _, _ => by simp at hk
  | w :: ws, t, g, i, k + 1, used, hg, hn, hu, hk, h1, h2, h3 => by
    obtain ⟨n1, n2, n3, n4, n5⟩ := hn
    rw [slots_cons] at hu h2 h3
    have hval : ∀ j, j < i → j < w.2.2.length → er.getD ((t + j) % S) .none = rowD (rowN g j w.2.2.length (w.2.2.getD j (0, []))) := fun j hj hjw => by
      have := h1 j (lwG S w j) hj (by
        show ((List.range w.2.2.length).map (lwG S w) ++ logG S ws)[j]? = _
        rw [List.getElem?_append_left (by rw [List.length_map, List.length_range]; exact hjw), List.getElem?_map, List.getElem?_range hjw]
        rfl)
      rw [this, ← n1]
      rfl
    show (match wg er S t g with | none => [] | some cs => if used + cs.length ≤ S then (g, t, cs) :: rgs er S k (used + cs.length) (t + cs.length) (g + 1) else []) = _
    by_cases hw : w.2.2.length ≤ i
    · have W : WholeG er S t g w.2.2 := by
        refine ⟨n3, by omega, fun j c hj => ?_, n4, hg⟩
        have hjl := (List.getElem?_eq_some_iff.mp hj).1
        rw [hval j (by omega) hjl, List.getD_eq_getElem?_getD, hj]
        rfl
      rw [wg_whole W]
      show (if used + w.2.2.length ≤ S then (g, t, w.2.2) :: rgs er S k (used + w.2.2.length) (t + w.2.2.length) (g + 1) else []) = _
      have en : nG (w :: ws) i = nG ws (i - w.2.2.length) + 1 := if_pos hw
      have ew : (g, t, w.2.2) = w := by rw [← n1, ← n2]
      rw [if_pos (by omega), en, List.take_succ_cons, ew]
      congr 1
      refine rgs_new hS (by omega) n5 (by omega) (by simpa using hk) (fun j q hj hq => ?_) (fun hi l hl => ?_) (fun hi l hl => ?_)
      · have := h1 (w.2.2.length + j) q (by omega) (by
          show ((List.range w.2.2.length).map (lwG S w) ++ logG S ws)[w.2.2.length + j]? = _
          rw [List.getElem?_append_right (by rw [List.length_map, List.length_range]; omega), List.length_map, List.length_range, Nat.add_sub_cancel_left]
          exact hq)
        rw [← Nat.add_assoc] at this
        exact this
      · have e1 : t + w.2.2.length + (i - w.2.2.length) = t + i := by omega
        rw [e1] at hl
        have := h2 (by omega) l hl
        omega
      · have e1 : t + w.2.2.length + slotsN ws = t + (w.2.2.length + slotsN ws) := by omega
        rw [e1] at hl
        have := h3 (by omega) l hl
        rw [List.length_cons] at this
        omega
    · have en : nG (w :: ws) i = 0 := if_neg hw
      rw [en, List.take_zero]
      cases e : wg er S t g with
      | none => rfl
      | some cs =>
        exfalso
        have W := whole_wg e
        have bad := h2 (by omega)
        have hc := List.getElem?_eq_getElem W.pos
        have e0 := W.at' 0 _ hc
        have hlen : i < cs.length := by
          by_cases hi : i = 0
          · rw [hi]; exact W.pos
          · have e1 := hval 0 (by omega) n3
            rw [e1] at e0
            have := congrArg hdN e0
            rw [hdN_row, hdN_row] at this
            have h5 : ((w.2.2.length : Nat) : Int) = ((cs.length : Nat) : Int) := (List.cons.inj (List.cons.inj (List.cons.inj this).2).2).1
            omega
        have hci := List.getElem?_eq_getElem hlen
        obtain ⟨h8, h0⟩ := W.ok _ (List.getElem_mem hlen)
        have := bad _ (by rw [W.at' i _ hci]; exact asLog_row h8 h0 W.g0 hlen)
        exact Int.lt_irrefl _ this
theorem nG_le : ∀ (ws : List Gr) (i : Nat), nG ws i ≤ ws.length
  | [], _ => Nat.le_refl _
  | w :: ws, i => by
    show (if w.2.2.length ≤ i then nG ws (i - w.2.2.length) + 1 else 0) ≤ ws.length + 1
    split
    · have := nG_le ws (i - w.2.2.length)
      omega
    · omega
theorem nG_all : ∀ {ws : List Gr} {i : Nat}, slotsN ws ≤ i → nG ws i = ws.length
  | [], _, _ => rfl
  | w :: ws, i, h => by
    rw [slots_cons] at h
    show (if w.2.2.length ≤ i then nG ws (i - w.2.2.length) + 1 else 0) = ws.length + 1
    rw [if_pos (by omega), nG_all (by omega)]
end Pf

set_option Elab.async false
set_option linter.all false
set_option maxRecDepth 100000
set_option maxHeartbeats 1000000
namespace Pf
open PySem PySem.Spec PyProof.Rows L2
/-! ### falls of what stands -/
abbrev Lw := List (Int × PyData)
def lateD (ls : Lw) (p : Int) : List PyData := (ls.filter fun q => decide (q.1 = p)).map (·.2)
def versD (ds : List PyData) (ls : Lw) (p : Int) : List PyData := if (lateD ls p).length = 0 then [ds.getD p.toNat .none] else ds.getD p.toNat .none :: (lateD ls p ++ [.none])
def pickD (xs : List PyData) (m : Int) : PyData := if 0 ≤ m then xs.getD m.toNat .none else .none
structure FallD (ds : List PyData) (ls : Lw) (ch : Int → Int) (es : List PyData) : Prop where
  len : es.length = ds.length
  at' : ∀ p : Nat, p < ds.length → es.getD p .none = pickD (versD ds ls p) (ch p)
  lo : ∀ p : Nat, p < ds.length → -1 ≤ ch p
  hi : ∀ p : Nat, p < ds.length → ch p ≤ (lateD ls p).length
  no : ∀ p : Nat, p < ds.length → lateD ls p = [] → ch p = 0
theorem late_no {ls : Lw} {p : Int} (h : p ∉ ls.map (·.1)) : lateD ls p = [] := by
  unfold lateD
  rw [List.filter_eq_nil_iff.mpr fun q hq z => h (List.mem_map.mpr ⟨q, hq, of_decide_eq_true z⟩)]
  rfl
theorem late_mem {ls : Lw} {p : Int} {v : PyData} (h : v ∈ lateD ls p) : (p, v) ∈ ls := by
  unfold lateD at h
  obtain ⟨q, h1, h2⟩ := List.mem_map.mp h
  obtain ⟨h3, h4⟩ := List.mem_filter.mp h1
  have : q.1 = p := of_decide_eq_true h4
  rw [← this, ← h2]
  exact h3
theorem late_one : ∀ {ls : Lw} {q : Int × PyData}, (ls.map (·.1)).Nodup → q ∈ ls → lateD ls q.1 = [q.2]
  | x :: ls, q, hn, h => by
    have hn' : x.1 ∉ ls.map (·.1) ∧ (ls.map (·.1)).Nodup := List.nodup_cons.mp hn
    have e : lateD (x :: ls) q.1 = (if x.1 = q.1 then [x.2] else []) ++ lateD ls q.1 := by
      unfold lateD
      by_cases c : x.1 = q.1
      · rw [List.filter_cons_of_pos (by simpa using c), if_pos c]
        rfl
      · rw [List.filter_cons_of_neg (by simpa using c), if_neg c]
        rfl
    rw [e]
    rcases List.mem_cons.mp h with z | z
    · rw [if_pos (by rw [z]), late_no (by rw [z]; exact hn'.1), z]
      rfl
    · rw [if_neg fun y => hn'.1 (by rw [y]; exact List.mem_map.mpr ⟨q, z, rfl⟩), late_one hn'.2 z]
      rfl
section
variable {ds es : List PyData} {ls : Lw} {ch : Int → Int}
theorem FallD.same (f : FallD ds ls ch es) {p : Nat} (h : (p : Int) ∉ ls.map (·.1)) : es.getD p .none = ds.getD p .none := by
  by_cases hp : p < ds.length
  · have hl := late_no h
    rw [f.at' p hp, f.no p hp hl]
    unfold versD
    rw [hl]
    rfl
  · have := f.len
    rw [List.getD_eq_getElem?_getD, List.getD_eq_getElem?_getD, List.getElem?_eq_none (by omega), List.getElem?_eq_none (by omega)]
theorem FallD.any (f : FallD ds ls ch es) (p : Nat) : es.getD p .none = ds.getD p .none ∨ es.getD p .none = .none ∨ ((p : Int), es.getD p .none) ∈ ls := by
  by_cases hp : p < ds.length
  · by_cases hl : lateD ls (p : Int) = []
    · left
      rw [f.at' p hp, f.no p hp hl]
      unfold versD
      rw [hl]
      rfl
    · have hlo := f.lo p hp
      have hhi := f.hi p hp
      have hl0 : ¬ (lateD ls (p : Int)).length = 0 := fun z => hl (List.eq_nil_of_length_eq_zero z)
      rw [f.at' p hp]
      unfold pickD
      by_cases hm : 0 ≤ ch p
      · rw [if_pos hm]
        unfold versD
        rw [if_neg hl0]
        by_cases h0 : (ch p).toNat = 0
        · left
          rw [h0]
          rfl
        · right; right
          obtain ⟨m, em⟩ : ∃ m, (ch p).toNat = m + 1 := ⟨(ch p).toNat - 1, by omega⟩
          rw [em, List.getD_cons_succ, List.getD_eq_getElem?_getD, List.getElem?_append_left (by omega), List.getElem?_eq_getElem (show m < (lateD ls (p : Int)).length by omega)]
          exact late_mem (List.getElem_mem _)
      · rw [if_neg hm]
        exact .inr (.inl rfl)
  · left
    have := f.len
    rw [List.getD_eq_getElem?_getD, List.getD_eq_getElem?_getD, List.getElem?_eq_none (by omega), List.getElem?_eq_none (by omega)]
theorem FallD.one (f : FallD ds ls ch es) (hn : (ls.map (·.1)).Nodup) {q : Int × PyData} (hq : q ∈ ls) {p : Nat} (ep : q.1 = (p : Int)) (hp : p < ds.length) : (ch p = 1 → es.getD p .none = q.2) ∧ (ch p ≠ 1 → es.getD p .none = ds.getD p .none ∨ es.getD p .none = .none) := by
  have hl := late_one hn hq
  rw [ep] at hl
  have hlo := f.lo p hp
  have hhi := f.hi p hp
  rw [hl] at hhi
  have e := f.at' p hp
  unfold pickD versD at e
  rw [hl] at e
  refine ⟨fun h1 => ?_, fun h1 => ?_⟩
  · rw [h1] at e
    exact e
  · by_cases h0 : ch p = 0
    · rw [h0] at e
      exact .inl e
    · have hm : ¬ 0 ≤ ch p := by
        have : ([q.2] : List PyData).length = 1 := rfl
        omega
      rw [if_neg hm] at e
      exact .inr e
end
/-! ### what a disk means -/
structure RG (n S : Nat) (ds : List PyData) (a g : Int) (t : Nat) (zs : List Gr) (F : Nat → List Int) : Prop where
  len : ds.length = 2 + S + n
  S0 : 0 < S
  a0 : 0 ≤ a
  g0 : 0 ≤ g
  h1 : ds.getD (a % 2).toNat .none = rowD [a, g, ((t : Nat) : Int)]
  h2 : headB ((a + 1) % 2) (ds.getD ((a + 1) % 2).toNat .none) = true → ∃ x b s, ds.getD ((a + 1) % 2).toNat .none = rowD [x, b, s] ∧ x < a
  rd : rgs (ringD S ds) S (S + 1) 0 t g = zs
  hF : ∀ i < n, grF zs (fun i => cellsOf (ds.getD (2 + S + i) .none)) i = F i
theorem ring_at {S : Nat} {ds : List PyData} {s : Nat} (h : s < S) : (ringD S ds).getD s .none = ds.getD (2 + s) .none := by
  unfold ringD
  rw [List.getD_eq_getElem?_getD, List.getD_eq_getElem?_getD, List.getElem?_take, if_pos h, List.getElem?_drop]
theorem ring_mem {S : Nat} {ds : List PyData} {v : PyData} (h : v ∈ ringD S ds) : ∃ s, s < S ∧ v = ds.getD (2 + s) .none := by
  obtain ⟨s, hs⟩ := List.getElem?_of_mem h
  have hs' : s < S := by
    have := (List.getElem?_eq_some_iff.mp hs).1
    unfold ringD at this
    rw [List.length_take] at this
    omega
  refine ⟨s, hs', ?_⟩
  rw [← ring_at hs', List.getD_eq_getElem?_getD, hs]
  rfl
theorem mod_inj {S t x y : Nat} (hS : 0 < S) (hx : t ≤ x ∧ x < t + S) (hy : t ≤ y ∧ y < t + S) (h : x % S = y % S) : x = y := by
  have h1 := Nat.div_add_mod x S
  have h2 := Nat.div_add_mod y S
  rw [h] at h1
  by_cases c : x / S = y / S
  · rw [c] at h1; omega
  · exfalso
    have hd : S * (x / S) + y = S * (y / S) + x := by omega
    rcases Nat.lt_or_gt_of_ne c with z | z
    · have : S * (x / S) + S ≤ S * (y / S) := by
        have := Nat.mul_le_mul_left S (show x / S + 1 ≤ y / S from z)
        rw [Nat.mul_add, Nat.mul_one] at this
        exact this
      omega
    · have : S * (y / S) + S ≤ S * (x / S) := by
        have := Nat.mul_le_mul_left S (show y / S + 1 ≤ x / S from z)
        rw [Nat.mul_add, Nat.mul_one] at this
        exact this
      omega
section
variable {n S : Nat} {ds es : List PyData} {a g : Int} {t : Nat} {zs : List Gr} {F : Nat → List Int}
theorem RG.rows (R : RG n S ds a g t zs F) : rowsOK (ringD S ds) S zs 0 t g := by
  have := rgs_rows (ringD S ds) S (S + 1) 0 t g
  rw [R.rd] at this
  exact this
theorem RG.sl (R : RG n S ds a g t zs F) : slotsN zs ≤ S := by
  have := rows_le R.rows (Nat.zero_le _)
  omega
theorem RG.zl (R : RG n S ds a g t zs F) : zs.length ≤ S := Nat.le_trans (rows_len R.rows) R.sl
theorem RG.keys (R : RG n S ds a g t zs F) : ∀ z ∈ zs, ∀ c ∈ z.2.2, 0 ≤ c.1 := fun z hz c hc => (rows_key R.rows z hz c hc).2
theorem RG.read (R : RG n S ds a g t zs F) : readH (ds.getD 0 .none) (ds.getD 1 .none) = some [a, g, ((t : Nat) : Int)] := by
  have a0 := R.a0
  have g0 := R.g0
  have h1 := R.h1
  have h2 := R.h2
  rcases (show a % 2 = 0 ∨ a % 2 = 1 by omega) with c | c
  · have c' : (a + 1) % 2 = 1 := by omega
    rw [c] at h1
    rw [c'] at h2
    have e0 : ds.getD 0 .none = rowD [a, g, ((t : Nat) : Int)] := h1
    have b0 : headB 0 (ds.getD 0 .none) = true := by rw [e0]; exact head_mk ⟨a0, g0, by omega, c⟩
    unfold readH
    rw [b0]
    cases b1 : headB 1 (ds.getD 1 .none) with
    | false => show some (hdN (ds.getD 0 .none)) = _; rw [e0, hdN_row]
    | true =>
      obtain ⟨x, b, s, e1, hx⟩ := h2 b1
      have e1' : ds.getD 1 .none = rowD [x, b, s] := e1
      show some (if (hdN (ds.getD 0 .none)).headD 0 < (hdN (ds.getD 1 .none)).headD 0 then hdN (ds.getD 1 .none) else hdN (ds.getD 0 .none)) = _
      rw [e0, e1', hdN_row, hdN_row]
      show some (if a < x then [x, b, s] else [a, g, ((t : Nat) : Int)]) = _
      rw [if_neg (show ¬ a < x by omega)]
  · have c' : (a + 1) % 2 = 0 := by omega
    rw [c] at h1
    rw [c'] at h2
    have e1 : ds.getD 1 .none = rowD [a, g, ((t : Nat) : Int)] := h1
    have b1 : headB 1 (ds.getD 1 .none) = true := by rw [e1]; exact head_mk ⟨a0, g0, by omega, c⟩
    unfold readH
    rw [b1]
    cases b0 : headB 0 (ds.getD 0 .none) with
    | false => show some (hdN (ds.getD 1 .none)) = _; rw [e1, hdN_row]
    | true =>
      obtain ⟨x, b, s, e0, hx⟩ := h2 b0
      have e0' : ds.getD 0 .none = rowD [x, b, s] := e0
      show some (if (hdN (ds.getD 0 .none)).headD 0 < (hdN (ds.getD 1 .none)).headD 0 then hdN (ds.getD 1 .none) else hdN (ds.getD 0 .none)) = _
      rw [e1, e0', hdN_row, hdN_row]
      show some (if x < a then [a, g, ((t : Nat) : Int)] else [x, b, s]) = _
      rw [if_pos (show x < a by omega)]
end
end Pf

set_option Elab.async false
set_option linter.all false
set_option maxRecDepth 100000
set_option maxHeartbeats 1000000
namespace Pf
open PySem PySem.Spec PyProof.Rows L2
theorem log_keys {S : Nat} {ws : List Gr} {t : Nat} {g : Int} (hS : 0 < S) (hn : nextG ws t g) {q : Int × PyData} (h : q ∈ logG S ws) : ∃ j, j < slotsN ws ∧ (logG S ws)[j]? = some q ∧ q.1 = ((2 + (t + j) % S : Nat) : Int) := by
  obtain ⟨j, hj⟩ := List.getElem?_of_mem h
  have hjl := (List.getElem?_eq_some_iff.mp hj).1
  rw [log_len] at hjl
  exact ⟨j, hjl, hj, by rw [log_at hn hj]; omega⟩
theorem log_nodup {S : Nat} {ws : List Gr} {t : Nat} {g : Int} (hS : 0 < S) (hn : nextG ws t g) (hl : slotsN ws ≤ S) : ((logG S ws).map (·.1)).Nodup := by
  refine List.pairwise_iff_getElem.mpr fun i j hi hj hij e => ?_
  rw [List.length_map, log_len] at hi hj
  rw [List.getElem_map, List.getElem_map] at e
  have e1 := log_at hn (List.getElem?_eq_getElem (show i < (logG S ws).length by rw [log_len]; exact hi))
  have e2 := log_at hn (List.getElem?_eq_getElem (show j < (logG S ws).length by rw [log_len]; exact hj))
  rw [e1, e2] at e
  have := mod_inj hS (t := t) (x := t + i) (y := t + j) (by omega) (by omega) (by omega)
  omega
theorem log_group {S : Nat} : ∀ {ws : List Gr} {t : Nat} {g : Int}, 0 ≤ g → nextG ws t g → ∀ {j : Nat} {q : Int × PyData} {l : LP}, (logG S ws)[j]? = some q → asLog q.2 = some l → l.g < g + (ws.length : Nat)
  | [], t, g, _, _, j, q, l, h, _ => by simp [logG] at h
  | w :: ws, t, g, hg, hn, j, q, l, h, hl => by
    obtain ⟨h1, h2, h3, h4, h5⟩ := hn
    have h' : ((List.range w.2.2.length).map (lwG S w) ++ logG S ws)[j]? = some q := h
    rw [List.length_cons]
    by_cases hj : j < w.2.2.length
    · rw [List.getElem?_append_left (by rw [List.length_map, List.length_range]; exact hj), List.getElem?_map, List.getElem?_range hj] at h'
      have e : lwG S w j = q := Option.some.inj h'
      rw [← e] at hl
      obtain ⟨e1, _⟩ := asLog_some hl
      have e2 := congrArg hdN e1
      have e3 : hdN (lwG S w j).2 = rowN w.1 j w.2.2.length (w.2.2.getD j (0, [])) := hdN_row _
      have e4 : hdN (PyData.tuple (l.all.map PyData.int)) = l.all := hdN_row _
      rw [e3, e4] at e2
      have : w.1 = l.g := (List.cons.inj e2).1
      omega
    · rw [List.getElem?_append_right (by rw [List.length_map, List.length_range]; omega), List.length_map, List.length_range] at h'
      have := log_group (by omega) h5 h' hl
      omega
theorem take_nodup {α β : Type} {f : α → β} {ls : List α} (h : (ls.map f).Nodup) (k : Nat) : ((ls.take k).map f).Nodup := by
  rw [List.map_take]
  exact List.Sublist.nodup (List.take_sublist _ _) h
theorem asLog_non : asLog .none = none := rfl
section
variable {n S : Nat} {ds es : List PyData} {a g : Int} {t : Nat} {zs : List Gr} {F : Nat → List Int} {ch : Int → Int} {k : Nat}
/-- a fall among new groups: those ahead of the first plate that is not there come up -/
theorem RG.fallL (R : RG n S ds a g t zs F) (la : lastI (ringD S ds) < g + (zs.length : Nat)) {ws : List Gr} (hn : nextG ws (t + slotsN zs) (g + (zs.length : Nat))) (hs : slotsN zs + slotsN ws ≤ S) (f : FallD ds ((logG S ws).take k) ch es) {i : Nat} (hi : i ≤ k) (hk : k ≤ slotsN ws)
    (h1 : ∀ j q, j < i → (logG S ws)[j]? = some q → ch q.1 = 1) (h2 : i < k → ∀ q, (logG S ws)[i]? = some q → ch q.1 ≠ 1) : RG n S es a g t (zs ++ ws.take (nG ws i)) (grF (ws.take (nG ws i)) F) := by
  have S0 := R.S0
  have g0 := R.g0
  have len := R.len
  have nd := take_nodup (log_nodup S0 hn (by omega)) k
  -- plates that are no new ones
  have out : ∀ p : Nat, (p < 2 ∨ 2 + S ≤ p) → es.getD p .none = ds.getD p .none := fun p hp => f.same fun z => by
    obtain ⟨q, hq, e⟩ := List.mem_map.mp z
    obtain ⟨j, _, _, e2⟩ := log_keys S0 hn (List.mem_of_mem_take hq)
    have := Nat.mod_lt (t + slotsN zs + j) S0
    omega
  have slot : ∀ j, es.getD (2 + (t + j) % S) .none = (ringD S es).getD ((t + j) % S) .none := fun j => (ring_at (Nat.mod_lt _ S0)).symm
  have slot0 : ∀ j, ds.getD (2 + (t + j) % S) .none = (ringD S ds).getD ((t + j) % S) .none := fun j => (ring_at (Nat.mod_lt _ S0)).symm
  -- an index that is not written
  have keep : ∀ j, j < S → (j < slotsN zs ∨ slotsN zs + k ≤ j) → (ringD S es).getD ((t + j) % S) .none = (ringD S ds).getD ((t + j) % S) .none := fun j hj hjk => by
    rw [← slot, ← slot0]
    refine f.same fun z => ?_
    obtain ⟨q, hq, e⟩ := List.mem_map.mp z
    obtain ⟨j', hj'⟩ := List.getElem?_of_mem hq
    have hj'' := (List.getElem?_eq_some_iff.mp hj').1
    rw [List.length_take, log_len] at hj''
    rw [List.getElem?_take, if_pos (by omega)] at hj'
    have e2 := log_at hn hj'
    have := mod_inj S0 (t := t) (x := t + j) (y := t + slotsN zs + j') (by omega) (by omega) (by omega)
    omega
  have rows : rowsOK (ringD S es) S zs 0 t g := rows_same R.rows fun j hj => keep j (by omega) (.inl hj)
  have sl := R.sl
  have zl := R.zl
  have wl : ws.length ≤ slotsN ws := by
    have go : ∀ {ws : List Gr} {t : Nat} {g : Int}, nextG ws t g → ws.length ≤ slotsN ws := by
      intro ws
      induction ws with
      | nil => intro _ _ _; exact Nat.le_refl _
      | cons w ws ih =>
        intro t g hn
        obtain ⟨_, _, h3, _, h5⟩ := hn
        have := ih h5
        rw [slots_cons, List.length_cons]
        omega
    exact go hn
  have at' : ∀ j q, (logG S ws)[j]? = some q → q.1 = ((2 + (t + (slotsN zs + j)) % S : Nat) : Int) := fun j q hq => by
    rw [log_at hn hq]
    have : t + slotsN zs + j = t + (slotsN zs + j) := by omega
    rw [this]
    omega
  have rd : rgs (ringD S es) S (S + 1) 0 t g = zs ++ ws.take (nG ws i) := by
    rw [rgs_ext rows (by omega)]
    congr 1
    refine rgs_new S0 (by omega) hn (by omega) (by have := rows_len R.rows; omega) (fun j q hj hq => ?_) (fun hi' l hl => ?_) (fun hi' l hl => ?_)
    · have hjl : j < slotsN ws := by omega
      rw [Nat.add_assoc, ← slot]
      have hm : q ∈ (logG S ws).take k := List.mem_of_getElem? (i := j) (by rw [List.getElem?_take, if_pos (by omega)]; exact hq)
      have hp := Nat.mod_lt (t + (slotsN zs + j)) S0
      exact (f.one nd hm (at' j q hq) (by omega)).1 (by rw [← at' j q hq]; exact h1 j q hj hq)
    · rw [Nat.add_assoc] at hl
      by_cases hik : i < k
      · obtain ⟨q0, hq⟩ : ∃ q0, (logG S ws)[i]? = some q0 := ⟨_, List.getElem?_eq_getElem (show i < (logG S ws).length by rw [log_len]; exact hi')⟩
        have hm : q0 ∈ (logG S ws).take k := List.mem_of_getElem? (i := i) (by rw [List.getElem?_take, if_pos hik]; exact hq)
        have hp := Nat.mod_lt (t + (slotsN zs + i)) S0
        rcases (f.one nd hm (at' i _ hq) (by omega)).2 (by rw [← at' i _ hq]; exact h2 hik _ hq) with z | z
        · rw [← slot, z, slot0] at hl
          exact last_at la hl
        · rw [← slot, z] at hl
          cases hl
      · rw [keep (slotsN zs + i) (by omega) (.inr (by omega))] at hl
        exact last_at la hl
    · have e : t + slotsN zs + slotsN ws = t + (slotsN zs + slotsN ws) := by omega
      rw [e, ← slot] at hl
      rcases f.any (2 + (t + (slotsN zs + slotsN ws)) % S) with z | z | z
      · rw [z, slot0] at hl
        have := last_at la hl
        omega
      · rw [z] at hl; cases hl
      · obtain ⟨j, hj⟩ := List.getElem?_of_mem (List.mem_of_mem_take z)
        exact log_group (by omega) hn hj hl
  refine ⟨by rw [f.len]; exact len, S0, R.a0, g0, ?_, ?_, rd, fun j hj => ?_⟩
  · rw [out _ (.inl (by omega))]
    exact R.h1
  · rw [out _ (.inl (by omega))]
    exact R.h2
  · rw [grF_app]
    refine grF_congr ?_
    rw [← R.hF j hj]
    refine grF_congr ?_
    show cellsOf (es.getD (2 + S + j) .none) = _
    rw [out _ (.inr (by omega))]
def hmL (S : Nat) (cs : List Ch) : Lw := cs.map fun c => (2 + (S : Int) + c.1, rowD c.2)
theorem hm_nodup {S : Nat} {cs : List Ch} (h : (cs.map (·.1)).Nodup) : ((hmL S cs).map (·.1)).Nodup := by
  unfold hmL
  rw [List.map_map]
  refine List.pairwise_map.mpr ((List.pairwise_map.mp h).imp fun z e => z ?_)
  have e' : 2 + (S : Int) + _ = 2 + (S : Int) + _ := e
  omega
theorem RG.lnd (R : RG n S ds a g t zs F) : ((sortC (lastC (n : Int) zs)).map (·.1)).Nodup := ((sortC_perm _).map _).nodup_iff.mpr (lastC_nodup _ _)
theorem RG.lin (R : RG n S ds a g t zs F) : ∀ c ∈ sortC (lastC (n : Int) zs), 0 ≤ c.1 ∧ c.1 < (n : Int) := fun c hc => lastC_in R.keys c ((sortC_perm _).subset hc)
/-- of what home plates are written, whatever falls: the meaning is the same -/
theorem RG.fallH (R : RG n S ds a g t zs F) (f : FallD ds ((hmL S (sortC (lastC (n : Int) zs))).take k) ch es) : RG n S es a g t zs F := by
  have S0 := R.S0
  have len := R.len
  have out : ∀ p : Nat, p < 2 + S → es.getD p .none = ds.getD p .none := fun p hp => f.same fun z => by
    obtain ⟨q, hq, e⟩ := List.mem_map.mp z
    obtain ⟨c, hc, e2⟩ := List.mem_map.mp (List.mem_of_mem_take hq)
    have := R.lin c hc
    rw [← e2] at e
    have e' : 2 + (S : Int) + c.1 = (p : Int) := e
    omega
  have ring : ringD S es = ringD S ds := by
    apply List.ext_getElem?
    intro s
    unfold ringD
    by_cases hs : s < S
    · have h1 := out (2 + s) (by omega)
      have hl := f.len
      rw [List.getElem?_take, List.getElem?_take, if_pos hs, if_pos hs, List.getElem?_drop, List.getElem?_drop, List.getElem?_eq_getElem (by omega), List.getElem?_eq_getElem (by omega)]
      rw [List.getD_eq_getElem?_getD, List.getD_eq_getElem?_getD, List.getElem?_eq_getElem (by omega), List.getElem?_eq_getElem (by omega)] at h1
      exact congrArg some h1
    · rw [List.getElem?_take, List.getElem?_take, if_neg hs, if_neg hs]
  refine ⟨by rw [f.len]; exact len, S0, R.a0, R.g0, ?_, ?_, by rw [ring]; exact R.rd, fun i hi => ?_⟩
  · rw [out _ (by omega)]
    exact R.h1
  · rw [out _ (by omega)]
    exact R.h2
  · rw [← R.hF i hi]
    refine grF_last hi fun hno => ?_
    show cellsOf (es.getD (2 + S + i) .none) = cellsOf (ds.getD (2 + S + i) .none)
    rw [f.same fun z => ?_]
    obtain ⟨q, hq, e⟩ := List.mem_map.mp z
    obtain ⟨c, hc, e2⟩ := List.mem_map.mp (List.mem_of_mem_take hq)
    rw [← e2] at e
    have e' : 2 + (S : Int) + c.1 = ((2 + S + i : Nat) : Int) := e
    have ec : c.1 = (i : Int) := by omega
    have hm : ((i : Int), c.2) ∈ lastC (n : Int) zs := by rw [← ec]; exact (sortC_perm _).subset hc
    rw [(getC_mem (lastC_nodup _ _)).mpr hm] at hno
    cases hno
/-- of a new head: it is there, and nothing is in the ring for it, or all is as it was -/
theorem RG.fallN (R : RG n S ds a g t zs F) {ng : Int} {ns : Nat} (hl : lastI (ringD S ds) < ng) (hb : ∀ i < n, cellsOf (ds.getD (2 + S + i) .none) = F i) (f : FallD ds (([((a + 1) % 2, rowD [a + 1, ng, (ns : Int)])] : Lw).take k) ch es) :
    RG n S es a g t zs F ∨ RG n S es (a + 1) ng ns [] F := by
  have S0 := R.S0
  have len := R.len
  have a0 := R.a0
  have ng0 : 0 ≤ ng := by have := (last_lt.mp hl).1; omega
  have ek : ∀ q, q ∈ ([((a + 1) % 2, rowD [a + 1, ng, (ns : Int)])] : Lw).take k → q = ((a + 1) % 2, rowD [a + 1, ng, (ns : Int)]) := fun q hq => List.mem_singleton.mp (List.mem_of_mem_take hq)
  have out : ∀ p : Nat, p ≠ ((a + 1) % 2).toNat → es.getD p .none = ds.getD p .none := fun p hp => f.same fun z => by
    obtain ⟨q, hq, e⟩ := List.mem_map.mp z
    rw [ek q hq] at e
    have e' : (a + 1) % 2 = (p : Int) := e
    omega
  have ring : ringD S es = ringD S ds := by
    apply List.ext_getElem?
    intro s
    unfold ringD
    by_cases hs : s < S
    · have h1 := out (2 + s) (by omega)
      have hl := f.len
      rw [List.getElem?_take, List.getElem?_take, if_pos hs, if_pos hs, List.getElem?_drop, List.getElem?_drop, List.getElem?_eq_getElem (by omega), List.getElem?_eq_getElem (by omega)]
      rw [List.getD_eq_getElem?_getD, List.getD_eq_getElem?_getD, List.getElem?_eq_getElem (by omega), List.getElem?_eq_getElem (by omega)] at h1
      exact congrArg some h1
    · rw [List.getElem?_take, List.getElem?_take, if_neg hs, if_neg hs]
  have home : ∀ i, es.getD (2 + S + i) .none = ds.getD (2 + S + i) .none := fun i => out _ (by omega)
  have hh1 : es.getD (a % 2).toNat .none = ds.getD (a % 2).toNat .none := out _ (by omega)
  have old : es.getD ((a + 1) % 2).toNat .none = ds.getD ((a + 1) % 2).toNat .none ∨ es.getD ((a + 1) % 2).toNat .none = .none → RG n S es a g t zs F := fun h => by
    refine ⟨by rw [f.len]; exact len, S0, a0, R.g0, by rw [hh1]; exact R.h1, ?_, by rw [ring]; exact R.rd, fun i hi => ?_⟩
    · rcases h with z | z
      · rw [z]; exact R.h2
      · rw [z]
        intro y
        have : headB ((a + 1) % 2) PyData.none = false := rfl
        rw [this] at y
        cases y
    · rw [← R.hF i hi]
      refine grF_congr ?_
      show cellsOf (es.getD (2 + S + i) .none) = _
      rw [home]
  rcases f.any ((a + 1) % 2).toNat with z | z | z
  · exact .inl (old (.inl z))
  · exact .inl (old (.inr z))
  · right
    have e := (Prod.mk.inj (ek _ z)).2
    have ea : (a + 1 + 1) % 2 = a % 2 := by omega
    refine ⟨by rw [f.len]; exact len, S0, by omega, ng0, e, ?_, ?_, fun i hi => ?_⟩
    · rw [ea, hh1, R.h1]
      exact fun _ => ⟨a, g, (t : Int), rfl, by omega⟩
    · rw [ring]
      show (match wg (ringD S ds) S ns ng with | none => [] | some cs => if 0 + cs.length ≤ S then (ng, ns, cs) :: rgs (ringD S ds) S S (0 + cs.length) (ns + cs.length) (ng + 1) else []) = []
      cases ew : wg (ringD S ds) S ns ng with
      | none => rfl
      | some cs =>
        obtain ⟨l, e1, e2⟩ := wg_num ew
        have := last_at hl e1
        omega
    · show cellsOf (es.getD (2 + S + i) .none) = F i
      rw [home]
      exact hb i hi
end
end Pf

set_option Elab.async false
set_option linter.all false
set_option maxRecDepth 100000
set_option maxHeartbeats 1000000
namespace Pf
open PySem PySem.Spec PyProof.Rows L2
abbrev HF := Nat → List Int
theorem RG.congr {n S : Nat} {ds : List PyData} {a g : Int} {t : Nat} {zs : List Gr} {F G : HF} (R : RG n S ds a g t zs F) (h : ∀ i < n, F i = G i) : RG n S ds a g t zs G :=
  ⟨R.len, R.S0, R.a0, R.g0, R.h1, R.h2, R.rd, fun i hi => (R.hF i hi).trans (h i hi)⟩
/-! ### a barrier: all that is loose is there -/
theorem settle_get : ∀ {ls : Lw} {ds : List PyData} {p : Nat}, (ls.map (·.1)).Nodup → (∀ q ∈ ls, 0 ≤ q.1) → p < ds.length → (settleD ds ls).getD p .none = match lateD ls (p : Int) with | [] => ds.getD p .none | v :: _ => v
  | [], ds, p, _, _, _ => rfl
  | x :: ls, ds, p, hn, h0, hp => by
    have hn' : x.1 ∉ ls.map (·.1) ∧ (ls.map (·.1)).Nodup := List.nodup_cons.mp hn
    show (settleD (ds.set x.1.toNat x.2) ls).getD p .none = _
    rw [settle_get hn'.2 (fun q hq => h0 q (List.mem_cons_of_mem _ hq)) (by rw [List.length_set]; exact hp)]
    have hx := h0 x List.mem_cons_self
    by_cases c : x.1 = (p : Int)
    · have e1 : lateD ls (p : Int) = [] := late_no (by rw [← c]; exact hn'.1)
      have e2 : lateD (x :: ls) (p : Int) = [x.2] := by
        have := late_one hn List.mem_cons_self
        rw [c] at this
        exact this
      rw [e1, e2]
      show (ds.set x.1.toNat x.2).getD p .none = x.2
      have : x.1.toNat = p := by omega
      rw [this, List.getD_eq_getElem?_getD, List.getElem?_set_self hp]
      rfl
    · have e2 : lateD (x :: ls) (p : Int) = lateD ls (p : Int) := by
        unfold lateD
        rw [List.filter_cons_of_neg (by simpa using c)]
      rw [e2]
      have : x.1.toNat ≠ p := by omega
      have e3 : (ds.set x.1.toNat x.2).getD p .none = ds.getD p .none := by
        rw [List.getD_eq_getElem?_getD, List.getD_eq_getElem?_getD, List.getElem?_set_ne this]
      rw [e3]
def allCh (ls : Lw) : Int → Int := fun p => if p ∈ ls.map (·.1) then 1 else 0
theorem settle_fall {ls : Lw} {ds : List PyData} (hn : (ls.map (·.1)).Nodup) (h0 : ∀ q ∈ ls, 0 ≤ q.1) : FallD ds ls (allCh ls) (settleD ds ls) := by
  have one : ∀ p : Nat, ((p : Int) ∈ ls.map (·.1) → ∃ v, lateD ls (p : Int) = [v]) := fun p h => by
    obtain ⟨q, hq, e⟩ := List.mem_map.mp h
    have := late_one hn hq
    rw [e] at this
    exact ⟨_, this⟩
  refine ⟨settleD_len _ _, fun p hp => ?_, fun p hp => ?_, fun p hp => ?_, fun p hp hl => ?_⟩
  · rw [settle_get hn h0 hp]
    unfold allCh
    by_cases c : (p : Int) ∈ ls.map (·.1)
    · obtain ⟨v, e⟩ := one p c
      rw [if_pos c]
      unfold pickD versD
      rw [e]
      rfl
    · have e := late_no c
      rw [if_neg c]
      unfold pickD versD
      rw [e]
      rfl
  · unfold allCh; split <;> decide
  · unfold allCh
    by_cases c : (p : Int) ∈ ls.map (·.1)
    · obtain ⟨v, e⟩ := one p c
      rw [if_pos c, e]
      show (1 : Int) ≤ 1
      decide
    · rw [if_neg c]
      omega
  · unfold allCh
    rw [if_neg]
    intro c
    obtain ⟨v, e⟩ := one p c
    rw [e] at hl
    cases hl
theorem all_one {ls : Lw} {q : Int × PyData} (h : q ∈ ls) : allCh ls q.1 = 1 := if_pos (List.mem_map.mpr ⟨q, h, rfl⟩)
section
variable {n S : Nat} {ds es : List PyData} {a g : Int} {t : Nat} {zs : List Gr} {F : HF}
theorem RG.settleL (R : RG n S ds a g t zs F) (la : lastI (ringD S ds) < g + (zs.length : Nat)) {ws : List Gr} (hn : nextG ws (t + slotsN zs) (g + (zs.length : Nat))) (hs : slotsN zs + slotsN ws ≤ S) :
    RG n S (settleD ds (logG S ws)) a g t (zs ++ ws) (grF ws F) ∧ lastI (ringD S (settleD ds (logG S ws))) < g + ((zs ++ ws).length : Nat) := by
  have S0 := R.S0
  have g0 := R.g0
  have nd := log_nodup S0 hn (by omega)
  have h0 : ∀ q ∈ logG S ws, 0 ≤ q.1 := fun q hq => by
    obtain ⟨j, _, _, e⟩ := log_keys S0 hn hq
    omega
  have f := settle_fall (ds := ds) nd h0
  have f' : FallD ds ((logG S ws).take (slotsN ws)) (allCh (logG S ws)) (settleD ds (logG S ws)) := by
    rw [List.take_of_length_le (by rw [log_len]; exact Nat.le_refl _)]
    exact f
  constructor
  · have := R.fallL la hn hs f' (Nat.le_refl _) (Nat.le_refl _) (fun j q _ hq => all_one (List.mem_of_getElem? hq)) (fun h => absurd h (Nat.lt_irrefl _))
    rw [nG_all (Nat.le_refl _), List.take_length] at this
    exact this
  · rw [last_lt]
    refine ⟨by omega, fun v hv l hl => ?_⟩
    rw [List.length_append]
    obtain ⟨s, hs', rfl⟩ := ring_mem hv
    rcases f.any (2 + s) with z | z | z
    · rw [z, ← ring_at hs'] at hl
      have := last_at la hl
      omega
    · rw [z] at hl; cases hl
    · obtain ⟨j, hj⟩ := List.getElem?_of_mem z
      have := log_group (by omega) hn hj hl
      omega
theorem RG.settleH (R : RG n S ds a g t zs F) : RG n S (settleD ds (hmL S (sortC (lastC (n : Int) zs)))) a g t zs F ∧ ringD S (settleD ds (hmL S (sortC (lastC (n : Int) zs)))) = ringD S ds ∧ ∀ i < n, cellsOf ((settleD ds (hmL S (sortC (lastC (n : Int) zs)))).getD (2 + S + i) .none) = F i := by
  have S0 := R.S0
  have len := R.len
  have nd := hm_nodup (S := S) R.lnd
  have h0 : ∀ q ∈ hmL S (sortC (lastC (n : Int) zs)), 0 ≤ q.1 := fun q hq => by
    obtain ⟨c, hc, e2⟩ := List.mem_map.mp hq
    have := R.lin c hc
    rw [← e2]
    show 0 ≤ 2 + (S : Int) + c.1
    omega
  have f := settle_fall (ds := ds) nd h0
  have f' : FallD ds ((hmL S (sortC (lastC (n : Int) zs))).take (hmL S (sortC (lastC (n : Int) zs))).length) (allCh (hmL S (sortC (lastC (n : Int) zs)))) (settleD ds (hmL S (sortC (lastC (n : Int) zs)))) := by
    rw [List.take_length]
    exact f
  have R' := R.fallH f'
  refine ⟨R', ?_, fun i hi => ?_⟩
  · apply List.ext_getElem?
    intro s
    unfold ringD
    by_cases hs : s < S
    · have h1 : (settleD ds (hmL S (sortC (lastC (n : Int) zs)))).getD (2 + s) .none = ds.getD (2 + s) .none := f.same fun z => by
        obtain ⟨q, hq, e⟩ := List.mem_map.mp z
        obtain ⟨c, hc, e2⟩ := List.mem_map.mp hq
        have := R.lin c hc
        rw [← e2] at e
        have e' : 2 + (S : Int) + c.1 = ((2 + s : Nat) : Int) := e
        omega
      have hl := f.len
      rw [List.getElem?_take, List.getElem?_take, if_pos hs, if_pos hs, List.getElem?_drop, List.getElem?_drop, List.getElem?_eq_getElem (by omega), List.getElem?_eq_getElem (by omega)]
      rw [List.getD_eq_getElem?_getD, List.getD_eq_getElem?_getD, List.getElem?_eq_getElem (by omega), List.getElem?_eq_getElem (by omega)] at h1
      exact congrArg some h1
    · rw [List.getElem?_take, List.getElem?_take, if_neg hs, if_neg hs]
  · rw [← R.hF i hi]
    have hv := getC_last (n : Int) i (by omega) (fun i => cellsOf (ds.getD (2 + S + i) .none)) zs
    rw [← hv]
    cases e : getC (lastC (n : Int) zs) i with
    | none =>
      show _ = cellsOf (ds.getD (2 + S + i) .none)
      rw [f.same fun z => ?_]
      obtain ⟨q, hq, e1⟩ := List.mem_map.mp z
      obtain ⟨c, hc, e2⟩ := List.mem_map.mp hq
      rw [← e2] at e1
      have e' : 2 + (S : Int) + c.1 = ((2 + S + i : Nat) : Int) := e1
      have ec : c.1 = (i : Int) := by omega
      have hm : ((i : Int), c.2) ∈ lastC (n : Int) zs := by rw [← ec]; exact (sortC_perm _).subset hc
      rw [(getC_mem (lastC_nodup _ _)).mpr hm] at e
      cases e
    | some l =>
      have hm := (getC_mem (lastC_nodup _ _)).mp e
      have hq : ((2 + (S : Int) + (i : Int)), rowD l) ∈ hmL S (sortC (lastC (n : Int) zs)) := List.mem_map.mpr ⟨((i : Int), l), (sortC_perm _).symm.subset hm, rfl⟩
      have h8 : l.length = 8 := by
        have key : ∀ (zs : List Gr) (cs : List Ch), (∀ z ∈ zs, ∀ c ∈ z.2.2, c.2.length = 8) → (∀ c ∈ cs, c.2.length = 8) → ∀ c ∈ zs.foldl (fun cs z => inC (n : Int) cs z.2.2) cs, c.2.length = 8 := by
          have inn : ∀ (xs cs : List Ch), (∀ c ∈ xs, c.2.length = 8) → (∀ c ∈ cs, c.2.length = 8) → ∀ c ∈ inC (n : Int) cs xs, c.2.length = 8 := by
            intro xs
            induction xs with
            | nil => intro cs _ h; exact h
            | cons x xs ih =>
              intro cs hx h
              show ∀ c ∈ inC (n : Int) (if x.1 < (n : Int) then putC cs x.1 x.2 else cs) xs, _
              split
              · exact ih _ (fun c hc => hx c (List.mem_cons_of_mem _ hc)) (putC_all h (hx x List.mem_cons_self))
              · exact ih _ (fun c hc => hx c (List.mem_cons_of_mem _ hc)) h
          intro zs
          induction zs with
          | nil => intro cs _ h; exact h
          | cons z zs ih =>
            intro cs hz h
            exact ih _ (fun z' hz' => hz z' (List.mem_cons_of_mem _ hz')) (inn _ _ (hz z List.mem_cons_self) h)
        exact key zs [] (fun z hz c hc => (rows_key R.rows z hz c hc).1) (fun c hc => by simp at hc) _ hm
      have h1 := (f.one nd hq (p := 2 + S + i) (by show 2 + (S : Int) + (i : Int) = _; omega) (by omega)).1 (by
        have := all_one hq
        have e3 : ((2 + S + i : Nat) : Int) = 2 + (S : Int) + (i : Int) := by omega
        rw [e3]
        exact this)
      rw [h1]
      show cellsOf (rowD l) = l
      unfold cellsOf
      rw [row_cells h8, if_pos rfl, hdN_row]
theorem RG.settleN (R : RG n S ds a g t zs F) {ng : Int} {ns : Nat} (hl : lastI (ringD S ds) < ng) (hb : ∀ i < n, cellsOf (ds.getD (2 + S + i) .none) = F i) :
    RG n S (settleD ds [((a + 1) % 2, rowD [a + 1, ng, (ns : Int)])]) (a + 1) ng ns [] F ∧ lastI (ringD S (settleD ds [((a + 1) % 2, rowD [a + 1, ng, (ns : Int)])])) < ng := by
  have S0 := R.S0
  have len := R.len
  have a0 := R.a0
  have nd : (([((a + 1) % 2, rowD [a + 1, ng, (ns : Int)])] : Lw).map (·.1)).Nodup := by simp
  have h0 : ∀ q ∈ ([((a + 1) % 2, rowD [a + 1, ng, (ns : Int)])] : Lw), 0 ≤ q.1 := fun q hq => by
    rw [List.mem_singleton.mp hq]
    show 0 ≤ (a + 1) % 2
    omega
  have f := settle_fall (ds := ds) nd h0
  have same : ∀ p : Nat, p ≠ ((a + 1) % 2).toNat → (settleD ds [((a + 1) % 2, rowD [a + 1, ng, (ns : Int)])]).getD p .none = ds.getD p .none := fun p hp => f.same fun z => by
    have z' : (p : Int) = (a + 1) % 2 := List.mem_singleton.mp z
    omega
  have hv := (f.one nd (q := ((a + 1) % 2, rowD [a + 1, ng, (ns : Int)])) List.mem_cons_self (p := ((a + 1) % 2).toNat) (by show (a + 1) % 2 = _; omega) (by omega)).1 (by
    have := all_one (ls := [((a + 1) % 2, rowD [a + 1, ng, (ns : Int)])]) List.mem_cons_self
    have e3 : ((((a + 1) % 2).toNat : Nat) : Int) = (a + 1) % 2 := by omega
    rw [e3]
    exact this)
  refine ⟨?_, ?_⟩
  · rcases R.fallN (k := 1) hl hb f with z | z
    · exfalso
      have h1 := z.h2
      rw [hv] at h1
      obtain ⟨x, b, s, e, hx⟩ := h1 (head_mk ⟨by omega, by have := (last_lt.mp hl).1; omega, by omega, rfl⟩)
      have := congrArg hdN e
      rw [hdN_row, hdN_row] at this
      have := (List.cons.inj this).1
      omega
    · exact z
  · rw [last_lt]
    refine ⟨(last_lt.mp hl).1, fun v hv l hl' => ?_⟩
    obtain ⟨s, hs', rfl⟩ := ring_mem hv
    rw [same _ (by omega), ← ring_at hs'] at hl'
    exact last_at hl hl'
end
end Pf

set_option Elab.async false
set_option linter.all false
set_option maxRecDepth 100000
set_option maxHeartbeats 1000000
namespace Pf
open PySem PySem.Spec PyProof.Rows L2
/-! ### events, and what stands behind them -/
inductive Ev | w (p : Int) (e : PyData) | b
def evD : Ev → PyData
  | .w p e => wrD p e
  | .b => barD
def rep : List PyData → Lw → List Ev → List PyData × Lw
  | ds, ls, [] => (ds, ls)
  | ds, ls, .w p e :: r => rep ds (ls ++ [(p, e)]) r
  | ds, ls, .b :: r => rep (settleD ds ls) [] r
theorem rep_app : ∀ (xs ys : List Ev) (ds : List PyData) (ls : Lw), rep ds ls (xs ++ ys) = rep (rep ds ls xs).1 (rep ds ls xs).2 ys
  | [], _, _, _ => rfl
  | .w p e :: xs, ys, ds, ls => rep_app xs ys _ _
  | .b :: xs, ys, ds, ls => rep_app xs ys _ _
def wrs (ls : Lw) : List Ev := ls.map fun q => .w q.1 q.2
theorem rep_wrs : ∀ (xs : Lw) (ds : List PyData) (ls : Lw), rep ds ls (wrs xs) = (ds, ls ++ xs)
  | [], _, _ => by show (_, _) = _; rw [List.append_nil]
  | x :: xs, ds, ls => by
    show rep ds (ls ++ [(x.1, x.2)]) (wrs xs) = _
    rw [rep_wrs xs, List.append_assoc]
    rfl
theorem rep_len : ∀ (es : List Ev) (ds : List PyData) (ls : Lw), (rep ds ls es).1.length = ds.length
  | [], _, _ => rfl
  | .w p e :: r, ds, ls => rep_len r _ _
  | .b :: r, ds, ls => by
    show (rep (settleD ds ls) [] r).1.length = _
    rw [rep_len r, settleD_len]
/-- how many events are settled -/
def sevG : List Ev → Nat → Nat → Nat
  | [], _, s => s
  | .w _ _ :: r, i, s => sevG r (i + 1) s
  | .b :: r, i, s => sevG r (i + 1) (i + 1)
def sev (es : List Ev) : Nat := sevG es 0 0
theorem sevG_app : ∀ (xs ys : List Ev) (i s : Nat), sevG (xs ++ ys) i s = sevG ys (i + xs.length) (sevG xs i s)
  | [], _, i, s => rfl
  | .w _ _ :: xs, ys, i, s => by
    show sevG (xs ++ ys) (i + 1) s = _
    rw [sevG_app xs ys, List.length_cons]
    show sevG ys (i + 1 + xs.length) (sevG xs (i + 1) s) = sevG ys (i + (xs.length + 1)) (sevG xs (i + 1) s)
    rw [show i + 1 + xs.length = i + (xs.length + 1) by omega]
  | .b :: xs, ys, i, s => by
    show sevG (xs ++ ys) (i + 1) (i + 1) = _
    rw [sevG_app xs ys, List.length_cons]
    show sevG ys (i + 1 + xs.length) (sevG xs (i + 1) (i + 1)) = sevG ys (i + (xs.length + 1)) (sevG xs (i + 1) (i + 1))
    rw [show i + 1 + xs.length = i + (xs.length + 1) by omega]
theorem sevG_wrs : ∀ (ls : Lw) (i s : Nat), sevG (wrs ls) i s = s
  | [], _, _ => rfl
  | _ :: ls, i, s => sevG_wrs ls (i + 1) s
theorem sev_wrs (es : List Ev) (ls : Lw) : sev (es ++ wrs ls) = sev es := by
  unfold sev
  rw [sevG_app, sevG_wrs]
theorem sev_b (es : List Ev) : sev (es ++ [.b]) = es.length + 1 := by
  unfold sev
  rw [sevG_app]
  show 0 + es.length + 1 = _
  omega
theorem sevG_le : ∀ (es : List Ev) (i s : Nat), s ≤ i → s ≤ sevG es i s ∧ sevG es i s ≤ i + es.length
  | [], i, s, h => ⟨Nat.le_refl _, h⟩
  | .w _ _ :: r, i, s, h => by
    have := sevG_le r (i + 1) s (by omega)
    rw [List.length_cons]
    exact ⟨this.1, by have := this.2; show sevG r (i + 1) s ≤ _; omega⟩
  | .b :: r, i, s, h => by
    have := sevG_le r (i + 1) (i + 1) (Nat.le_refl _)
    rw [List.length_cons]
    exact ⟨by show s ≤ sevG r (i + 1) (i + 1); omega, by show sevG r (i + 1) (i + 1) ≤ _; omega⟩
theorem sev_le (es : List Ev) : sev es ≤ es.length := by
  have := (sevG_le es 0 0 (Nat.le_refl _)).2
  unfold sev
  omega
theorem rep_loose : ∀ (es : List Ev) (ds : List PyData) (ls : Lw) (i s : Nat), s + ls.length = i → sevG es i s + (rep ds ls es).2.length = i + es.length
  | [], ds, ls, i, s, h => h
  | .w p e :: r, ds, ls, i, s, h => by
    have := rep_loose r ds (ls ++ [(p, e)]) (i + 1) s (by rw [List.length_append]; show s + (ls.length + 1) = _; omega)
    rw [List.length_cons]
    show sevG r (i + 1) s + (rep ds (ls ++ [(p, e)]) r).2.length = _
    omega
  | .b :: r, ds, ls, i, s, h => by
    have := rep_loose r (settleD ds ls) [] (i + 1) (i + 1) rfl
    rw [List.length_cons]
    show sevG r (i + 1) (i + 1) + (rep (settleD ds ls) [] r).2.length = _
    omega
theorem sev_loose (ds : List PyData) (es : List Ev) : sev es + (rep ds [] es).2.length = es.length := by
  have := rep_loose es ds [] 0 0 rfl
  unfold sev
  omega
/-! ### which groups come up -/
def gw (ps : List (Int × Int)) (e : Nat) : Nat := ps.countP fun x => decide (x.1 ≤ (e : Int))
def fb (ls : Lw) (ch : Int → Int) : Nat := (ls.takeWhile fun q => decide (ch q.1 = 1)).length
theorem fb_le (ls : Lw) (ch : Int → Int) : fb ls ch ≤ ls.length := by
  unfold fb
  exact List.Sublist.length_le (List.takeWhile_sublist _)
theorem fb_at : ∀ {ls : Lw} {ch : Int → Int} {j : Nat} {q : Int × PyData}, j < fb ls ch → ls[j]? = some q → ch q.1 = 1
  | [], ch, j, q, h, e => by simp at e
  | x :: ls, ch, j, q, h, e => by
    unfold fb at h
    rw [List.takeWhile_cons] at h
    by_cases c : ch x.1 = 1
    · rw [decide_eq_true c, if_pos rfl, List.length_cons] at h
      cases j with
      | zero => cases (Option.some.inj e); exact c
      | succ j => exact fb_at (ls := ls) (j := j) (by unfold fb; omega) e
    · rw [decide_eq_false c, if_neg (by decide)] at h
      simp at h
theorem fb_end : ∀ {ls : Lw} {ch : Int → Int} {q : Int × PyData}, ls[fb ls ch]? = some q → ch q.1 ≠ 1
  | [], ch, q, e => by simp at e
  | x :: ls, ch, q, e => by
    have hf : fb (x :: ls) ch = if decide (ch x.1 = 1) = true then fb ls ch + 1 else 0 := by
      unfold fb
      rw [List.takeWhile_cons]
      split <;> rfl
    by_cases c : ch x.1 = 1
    · rw [hf, if_pos (decide_eq_true c)] at e
      exact fb_end (ls := ls) e
    · rw [hf, if_neg (fun z => c (of_decide_eq_true z))] at e
      cases (Option.some.inj e)
      exact c
/-- of which kind a plate is: a head, a log plate, a home plate -/
def kd (S : Nat) (p : Int) : Nat := if p < 2 then 0 else if p < 2 + (S : Int) then 1 else 2
/-- what an event of a store writes -/
def EvK (n S : Nat) : Ev → Prop
  | .b => True
  | .w p e => (0 ≤ p ∧ p < 2 ∧ ∃ x b t : Int, e = rowD [x, b, t]) ∨ (2 + (S : Int) ≤ p ∧ p < 2 + (S : Int) + (n : Int) ∧ ∃ l, e = rowD l ∧ l.length = 8) ∨
    (2 ≤ p ∧ p < 2 + (S : Int) ∧ ∃ (g : Int) (i m : Nat) (c : Ch), e = rowD (rowN g i m c) ∧ 0 ≤ g ∧ i < m ∧ c.2.length = 8 ∧ 0 ≤ c.1)
def kmE : PyData → Option (Int × Int)
  | .tuple (.int _ :: .int k :: .int m :: _) => some (k, m)
  | _ => none
/-- a log plate's event, by which of the group's plates it is -/
def logE (S : Nat) (f : Int × Int → Bool) : Ev → Bool
  | .b => false
  | .w p e => decide (2 ≤ p) && decide (p < 2 + (S : Int)) && (kmE e).any f
def lastE (S : Nat) : Ev → Bool := logE S fun x => decide (x.1 + 1 = x.2)
def firstE (S : Nat) : Ev → Bool := logE S fun x => decide (x.1 = 0)
theorem logE_out {S : Nat} {f : Int × Int → Bool} {p : Int} {e : PyData} (h : p < 2 ∨ 2 + (S : Int) ≤ p) : logE S f (.w p e) = false := by
  show (decide (2 ≤ p) && decide (p < 2 + (S : Int)) && (kmE e).any f) = false
  rcases h with h | h
  · rw [decide_eq_false (show ¬ (2 ≤ p) by omega)]
    rfl
  · rw [decide_eq_false (show ¬ (p < 2 + (S : Int)) by omega), Bool.and_false]
    rfl
theorem logE_in {S : Nat} {f : Int × Int → Bool} {p g : Int} {i m : Nat} {c : Ch} (h1 : 2 ≤ p) (h2 : p < 2 + (S : Int)) : logE S f (.w p (rowD (rowN g i m c))) = f ((i : Int), (m : Int)) := by
  show (decide (2 ≤ p) && decide (p < 2 + (S : Int)) && (kmE (rowD (rowN g i m c))).any f) = _
  rw [decide_eq_true h1, decide_eq_true h2]
  rfl
/-- the head's number that stands on a disk -/
def hd0 (ds : List PyData) : Int := match readH (ds.getD 0 .none) (ds.getD 1 .none) with
  | some (a :: _) => a
  | _ => 0
theorem RG.hd0 {n S : Nat} {ds : List PyData} {a g : Int} {t : Nat} {zs : List Gr} {F : HF} (R : RG n S ds a g t zs F) : hd0 ds = a := by
  unfold Pf.hd0
  rw [R.read]
/-- all plates of these groups are home plates -/
def KeyN (n : Nat) (zs : List Gr) : Prop := ∀ z ∈ zs, ∀ c ∈ z.2.2, c.1 < (n : Int)
/-- the groups that stand on a disk are of home plates alone -/
def kn0 (n S : Nat) (ds : List PyData) : Prop := ∀ a g t, readH (ds.getD 0 .none) (ds.getD 1 .none) = some [a, g, ((t : Nat) : Int)] → KeyN n (rgs (ringD S ds) S (S + 1) 0 t g)
theorem RG.kn {n S : Nat} {ds : List PyData} {a g : Int} {t : Nat} {zs : List Gr} {F : HF} (R : RG n S ds a g t zs F) : kn0 n S ds ↔ KeyN n zs := by
  constructor
  · intro h
    have := h a g t R.read
    rw [R.rd] at this
    exact this
  · intro h a' g' t' e
    rw [R.read] at e
    injection e with e
    injection e with e1 e
    injection e with e2 e
    injection e with e3 _
    have e3' : t = t' := Int.ofNat.inj e3
    subst e1 e2 e3'
    rw [R.rd]
    exact h
theorem KeyN.app {n : Nat} {zs ws : List Gr} (h1 : KeyN n zs) (h2 : KeyN n ws) : KeyN n (zs ++ ws) := fun z hz => (List.mem_append.mp hz).elim (h1 z) (h2 z)
theorem KeyN.sub {n : Nat} {zs ws : List Gr} (h : KeyN n ws) (hs : ∀ z ∈ zs, z ∈ ws) : KeyN n zs := fun z hz => h z (hs z hz)
def RowE (e : PyData) : Prop := ∃ l : List Int, e = rowD l ∧ l.length ≤ 12
/-- at a moment: whatever falls, a home of a beginning comes up -/
def TQ (n S : Nat) (a0 : Int) (kp : Prop) (ps : List (Int × Int)) (hg : List HF) (ds : List PyData) (ls : Lw) (s : Nat) : Prop :=
  (ls.map (·.1)).Nodup ∧ (∀ q ∈ ls, 0 ≤ q.1 ∧ q.1 < (ds.length : Int)) ∧ (∀ ch es, FallD ds ls ch es → ∃ a g t zs, (a0 ≤ a ∧ (kp → KeyN n zs)) ∧ RG n S es a g t zs (hg.getD (gw ps (s + fb ls ch)) default)) ∧ (∀ q ∈ ls, RowE q.2) ∧ ∃ k, ∀ q ∈ ls, kd S q.1 = k
def TInv (n S : Nat) (ds0 : List PyData) (es : List Ev) (ps : List (Int × Int)) (hg : List HF) : Prop :=
  ∀ q, q ≤ es.length → TQ n S (hd0 ds0) (kn0 n S ds0) ps hg (rep ds0 [] (es.take q)).1 (rep ds0 [] (es.take q)).2 (sev (es.take q))
theorem gw_app {ps : List (Int × Int)} {x : Int × Int} {e : Nat} (h : (e : Int) < x.1) : gw (ps ++ [x]) e = gw ps e := by
  unfold gw
  rw [List.countP_append, List.countP_cons, List.countP_nil, decide_eq_false (by omega)]
  rfl
theorem gw_le (ps : List (Int × Int)) (e : Nat) : gw ps e ≤ ps.length := List.countP_le_length
theorem TInv.more {n S : Nat} {ds0 : List PyData} {es : List Ev} {ps : List (Int × Int)} {hg : List HF} (T : TInv n S ds0 es ps hg) (hl : hg.length = ps.length + 1) {x : Int × Int} (hx : (es.length : Int) < x.1) (h : HF) : TInv n S ds0 es (ps ++ [x]) (hg ++ [h]) := by
  intro q hq
  obtain ⟨t1, t2, t3, t4⟩ := T q hq
  refine ⟨t1, t2, fun ch es' f => ?_, t4⟩
  obtain ⟨a, g, t, zs, ha, R⟩ := t3 ch es' f
  refine ⟨a, g, t, zs, ha, ?_⟩
  have h1 := fb_le (rep ds0 [] (es.take q)).2 ch
  have h2 := sev_loose ds0 (es.take q)
  rw [List.length_take] at h2
  rw [gw_app (by omega), List.getD_eq_getElem?_getD, List.getElem?_append_left (by have := gw_le ps (sev (es.take q) + fb (rep ds0 [] (es.take q)).2 ch); omega), ← List.getD_eq_getElem?_getD]
  exact R
theorem TInv.app {n S : Nat} {ds0 : List PyData} {es xs : List Ev} {ps : List (Int × Int)} {hg : List HF} (T : TInv n S ds0 es ps hg)
    (h : ∀ k, 0 < k → k ≤ xs.length → TQ n S (hd0 ds0) (kn0 n S ds0) ps hg (rep ds0 [] (es ++ xs.take k)).1 (rep ds0 [] (es ++ xs.take k)).2 (sev (es ++ xs.take k))) : TInv n S ds0 (es ++ xs) ps hg := by
  intro q hq
  rw [List.length_append] at hq
  by_cases c : q ≤ es.length
  · have e : (es ++ xs).take q = es.take q := by rw [List.take_append_of_le_length c]
    rw [e]
    exact T q c
  · have e : (es ++ xs).take q = es ++ xs.take (q - es.length) := by
      rw [List.take_append, List.take_of_length_le (by omega)]
    rw [e]
    exact h _ (by omega) (by omega)
/-! ### the ends of groups -/
def endsOf : Nat → List Gr → List Int
  | _, [] => []
  | s, w :: ws => ((s + w.2.2.length : Nat) : Int) :: endsOf (s + w.2.2.length) ws
theorem ends_len : ∀ (ws : List Gr) (s : Nat), (endsOf s ws).length = ws.length
  | [], _ => rfl
  | w :: ws, s => by
    show (endsOf _ ws).length + 1 = _
    rw [ends_len ws]
    rfl
theorem ends_big : ∀ {ws : List Gr} {s e : Nat}, e < s → (endsOf s ws).countP (fun x => decide (x ≤ (e : Int))) = 0
  | [], s, e, _ => rfl
  | w :: ws, s, e, h => by
    show (((s + w.2.2.length : Nat) : Int) :: endsOf (s + w.2.2.length) ws).countP _ = 0
    rw [List.countP_cons, ends_big (by omega), decide_eq_false (by omega)]
    rfl
theorem ends_count : ∀ {ws : List Gr} {s i : Nat}, (∀ w ∈ ws, 0 < w.2.2.length) → (endsOf s ws).countP (fun x => decide (x ≤ ((s + i : Nat) : Int))) = nG ws i
  | [], s, i, _ => rfl
  | w :: ws, s, i, h => by
    have hw := h w List.mem_cons_self
    show (((s + w.2.2.length : Nat) : Int) :: endsOf (s + w.2.2.length) ws).countP _ = if w.2.2.length ≤ i then nG ws (i - w.2.2.length) + 1 else 0
    rw [List.countP_cons]
    by_cases c : w.2.2.length ≤ i
    · rw [if_pos c, decide_eq_true (by omega), if_pos rfl]
      have := ends_count (ws := ws) (s := s + w.2.2.length) (i := i - w.2.2.length) fun x hx => h x (List.mem_cons_of_mem _ hx)
      rw [show s + w.2.2.length + (i - w.2.2.length) = s + i by omega] at this
      rw [this]
    · rw [if_neg c, decide_eq_false (by omega)]
      by_cases c2 : ws = []
      · rw [c2]; rfl
      · rw [ends_big (by omega)]
        rfl
theorem next_pos : ∀ {ws : List Gr} {t : Nat} {g : Int}, nextG ws t g → ∀ w ∈ ws, 0 < w.2.2.length
  | [], _, _, _, w, hw => by simp at hw
  | x :: ws, t, g, h, w, hw => by
    obtain ⟨_, _, h3, _, h5⟩ := h
    rcases List.mem_cons.mp hw with e | e
    · rw [e]; exact h3
    · exact next_pos h5 w e
theorem next_app : ∀ {ws vs : List Gr} {t : Nat} {g : Int}, nextG ws t g → nextG vs (t + slotsN ws) (g + (ws.length : Nat)) → nextG (ws ++ vs) t g
  | [], vs, t, g, _, h => by
    have e : g + ((([] : List Gr).length : Nat) : Int) = g := Int.add_zero g
    rw [e] at h
    exact h
  | w :: ws, vs, t, g, h, h' => by
    obtain ⟨h1, h2, h3, h4, h5⟩ := h
    refine ⟨h1, h2, h3, h4, next_app h5 ?_⟩
    rw [slots_cons, List.length_cons] at h'
    have e1 : t + (w.2.2.length + slotsN ws) = t + w.2.2.length + slotsN ws := by omega
    have e2 : g + ((ws.length + 1 : Nat) : Int) = g + 1 + (ws.length : Nat) := by omega
    rw [e1, e2] at h'
    exact h'
theorem logG_app (S : Nat) : ∀ (ws vs : List Gr), logG S (ws ++ vs) = logG S ws ++ logG S vs
  | [], vs => rfl
  | w :: ws, vs => by
    show (List.range w.2.2.length).map (lwG S w) ++ logG S (ws ++ vs) = (List.range w.2.2.length).map (lwG S w) ++ logG S ws ++ logG S vs
    rw [logG_app S ws vs, List.append_assoc]
theorem ends_app : ∀ (ws vs : List Gr) (s : Nat), endsOf s (ws ++ vs) = endsOf s ws ++ endsOf (s + slotsN ws) vs
  | [], vs, s => rfl
  | w :: ws, vs, s => by
    show ((s + w.2.2.length : Nat) : Int) :: endsOf (s + w.2.2.length) (ws ++ vs) = ((s + w.2.2.length : Nat) : Int) :: endsOf (s + w.2.2.length) ws ++ endsOf (s + slotsN (w :: ws)) vs
    rw [ends_app ws vs, slots_cons, show s + w.2.2.length + slotsN ws = s + (w.2.2.length + slotsN ws) by omega]
    rfl
end Pf

set_option Elab.async false
set_option linter.all false
set_option maxRecDepth 100000
set_option maxHeartbeats 1000000
namespace Pf
open PySem PySem.Spec PyProof.Rows L2
theorem gw_map (ps : List (Int × Int)) (e : Nat) : gw ps e = (ps.map (·.1)).countP fun x => decide (x ≤ (e : Int)) := by
  unfold gw
  rw [List.countP_map]
  rfl
theorem gw_all {ps : List (Int × Int)} {e : Nat} (h : ∀ x ∈ ps, x.1 ≤ (e : Int)) : gw ps e = ps.length := by
  unfold gw
  exact List.countP_eq_length.mpr fun x hx => decide_eq_true (h x hx)
section
variable {n S : Nat} {ds : List PyData} {a g : Int} {t : Nat} {zs : List Gr} {F : HF} {ps : List (Int × Int)} {hg : List HF} {s k : Nat} {a0 : Int} {kp : Prop}
theorem gw_ends {ws : List Gr} {old : List Int} (hp : ∀ w ∈ ws, 0 < w.2.2.length) (en : ps.map (·.1) = old ++ endsOf s ws) (ol : ∀ e ∈ old, e ≤ (s : Int)) (i : Nat) : gw ps (s + i) = old.length + nG ws i := by
  rw [gw_map, en, List.countP_append, ends_count hp, List.countP_eq_length.mpr fun x hx => decide_eq_true (by have := ol x hx; omega)]
theorem log_row {ws : List Gr} {t : Nat} {g : Int} (hn : nextG ws t g) {q : Int × PyData} (hq : q ∈ logG S ws) : ∃ (gg : Int) (i m : Nat) (c : Ch), q.2 = rowD (rowN gg i m c) ∧ c.2.length = 8 ∧ 0 ≤ c.1 ∧ i < m ∧ g ≤ gg := by
  induction ws generalizing t g with
  | nil => cases hq
  | cons w ws ih =>
    obtain ⟨h1, h2, h3, h4, h5⟩ := hn
    rcases List.mem_append.mp (show q ∈ (List.range w.2.2.length).map (lwG S w) ++ logG S ws from hq) with z | z
    · obtain ⟨i, hi, rfl⟩ := List.mem_map.mp z
      have hi' := List.mem_range.mp hi
      have hc := h4 (w.2.2.getD i (0, [])) (by rw [List.getD_eq_getElem?_getD, List.getElem?_eq_getElem hi']; exact List.getElem_mem hi')
      exact ⟨w.1, i, w.2.2.length, _, rfl, hc.1, hc.2, hi', by omega⟩
    · obtain ⟨gg, i, m, c, r1, r2, r3, r4, r5⟩ := ih h5 z
      exact ⟨gg, i, m, c, r1, r2, r3, r4, by omega⟩
theorem RG.l8 (R : RG n S ds a g t zs F) : ∀ c ∈ sortC (lastC (n : Int) zs), c.2.length = 8 := by
  have inn : ∀ (xs cs : List Ch), (∀ c ∈ xs, c.2.length = 8) → (∀ c ∈ cs, c.2.length = 8) → ∀ c ∈ inC (n : Int) cs xs, c.2.length = 8 := by
    intro xs
    induction xs with
    | nil => intro cs _ h; exact h
    | cons x xs ih =>
      intro cs hx h
      show ∀ c ∈ inC (n : Int) (if x.1 < (n : Int) then putC cs x.1 x.2 else cs) xs, _
      split
      · exact ih _ (fun c hc => hx c (List.mem_cons_of_mem _ hc)) (putC_all h (hx x List.mem_cons_self))
      · exact ih _ (fun c hc => hx c (List.mem_cons_of_mem _ hc)) h
  have outer : ∀ (zs : List Gr) (cs : List Ch), (∀ z ∈ zs, ∀ c ∈ z.2.2, c.2.length = 8) → (∀ c ∈ cs, c.2.length = 8) → ∀ c ∈ zs.foldl (fun cs z => inC (n : Int) cs z.2.2) cs, c.2.length = 8 := by
    intro zs
    induction zs with
    | nil => intro cs _ h; exact h
    | cons z zs ih =>
      intro cs hz h
      exact ih _ (fun z' hz' => hz z' (List.mem_cons_of_mem _ hz')) (inn _ _ (hz z List.mem_cons_self) h)
  intro c hc
  exact outer zs [] (fun z hz c hc => (rows_key R.rows z hz c hc).1) (fun c hc => by cases hc) c ((sortC_perm _).subset hc)
theorem tq_log (R : RG n S ds a g t zs F) (la : lastI (ringD S ds) < g + (zs.length : Nat)) {ws : List Gr} (hn : nextG ws (t + slotsN zs) (g + (zs.length : Nat))) (hs : slotsN zs + slotsN ws ≤ S) {old : List Int} (en : ps.map (·.1) = old ++ endsOf s ws) (ol : ∀ e ∈ old, e ≤ (s : Int))
    (hh : ∀ j, j ≤ ws.length → ∀ i < n, hg.getD (old.length + j) default i = grF (ws.take j) F i) (hk : k ≤ slotsN ws) (ha : a0 ≤ a) (hk0 : kp → KeyN n (zs ++ ws)) : TQ n S a0 kp ps hg ds ((logG S ws).take k) s := by
  have S0 := R.S0
  have len := R.len
  refine ⟨take_nodup (log_nodup S0 hn (by omega)) k, fun q hq => ?_, fun ch es f => ?_, fun q hq => ?_, 1, fun q hq => ?_⟩
  · obtain ⟨j, _, _, e⟩ := log_keys S0 hn (List.mem_of_mem_take hq)
    have := Nat.mod_lt (t + slotsN zs + j) S0
    omega
  · have hfl := fb_le ((logG S ws).take k) ch
    rw [List.length_take, log_len] at hfl
    refine ⟨a, g, t, _, ⟨ha, fun z => (hk0 z).sub fun x hx => (List.mem_append.mp hx).elim (fun y => List.mem_append_left _ y) fun y => List.mem_append_right _ (List.mem_of_mem_take y)⟩, (R.fallL la hn hs f (i := fb ((logG S ws).take k) ch) (by omega) hk (fun j q hj hq => ?_) (fun hi q hq => ?_)).congr fun i hi => ?_⟩
    · exact fb_at hj (by rw [List.getElem?_take, if_pos (by omega)]; exact hq)
    · exact fb_end (ls := (logG S ws).take k) (by rw [List.getElem?_take, if_pos hi]; exact hq)
    · rw [gw_ends (next_pos hn) en ol]
      exact (hh _ (nG_le _ _) i hi).symm
  · obtain ⟨gg, i, m, c, e, h8, _⟩ := log_row hn (List.mem_of_mem_take hq)
    refine ⟨_, e, ?_⟩
    show c.2.length + 4 ≤ 12
    omega
  · obtain ⟨j, _, _, e⟩ := log_keys S0 hn (List.mem_of_mem_take hq)
    have := Nat.mod_lt (t + slotsN zs + j) S0
    unfold kd
    rw [if_neg (by omega), if_pos (by omega)]
theorem tq_home (R : RG n S ds a g t zs F) (hp : ∀ x ∈ ps, x.1 ≤ (s : Int)) (hF : ∀ i < n, hg.getD ps.length default i = F i) (ha : a0 ≤ a) (hk0 : kp → KeyN n zs) : TQ n S a0 kp ps hg ds ((hmL S (sortC (lastC (n : Int) zs))).take k) s := by
  have len := R.len
  refine ⟨take_nodup (hm_nodup R.lnd) k, fun q hq => ?_, fun ch es f => ⟨a, g, t, zs, ⟨ha, hk0⟩, (R.fallH f).congr fun i hi => ?_⟩, fun q hq => ?_, 2, fun q hq => ?_⟩
  · obtain ⟨c, hc, e2⟩ := List.mem_map.mp (List.mem_of_mem_take hq)
    have := R.lin c hc
    rw [← e2]
    show 0 ≤ 2 + (S : Int) + c.1 ∧ 2 + (S : Int) + c.1 < _
    omega
  · rw [gw_all fun x hx => by have := hp x hx; omega]
    exact (hF i hi).symm
  · obtain ⟨c, hc, e2⟩ := List.mem_map.mp (List.mem_of_mem_take hq)
    refine ⟨c.2, by rw [← e2], ?_⟩
    have := R.l8 c hc
    omega
  · obtain ⟨c, hc, e2⟩ := List.mem_map.mp (List.mem_of_mem_take hq)
    have := R.lin c hc
    rw [← e2]
    show kd S (2 + (S : Int) + c.1) = 2
    unfold kd
    rw [if_neg (by omega), if_neg (by omega)]
theorem tq_head (R : RG n S ds a g t zs F) {ng : Int} {ns : Nat} (hl : lastI (ringD S ds) < ng) (hb : ∀ i < n, cellsOf (ds.getD (2 + S + i) .none) = F i) (hp : ∀ x ∈ ps, x.1 ≤ (s : Int)) (hF : ∀ i < n, hg.getD ps.length default i = F i) (ha : a0 ≤ a) (hk0 : kp → KeyN n zs) :
    TQ n S a0 kp ps hg ds (([((a + 1) % 2, rowD [a + 1, ng, (ns : Int)])] : Lw).take k) s := by
  have len := R.len
  refine ⟨take_nodup (f := fun q : Int × PyData => q.1) (ls := [((a + 1) % 2, rowD [a + 1, ng, (ns : Int)])]) (List.pairwise_singleton _ _) k, fun q hq => ?_, fun ch es f => ?_, fun q hq => ?_, 0, fun q hq => ?_⟩
  · rw [List.mem_singleton.mp (List.mem_of_mem_take hq)]
    show 0 ≤ (a + 1) % 2 ∧ (a + 1) % 2 < _
    omega
  · have e : gw ps (s + fb (([((a + 1) % 2, rowD [a + 1, ng, (ns : Int)])] : Lw).take k) ch) = ps.length := gw_all fun x hx => by have := hp x hx; omega
    rcases R.fallN hl hb f with z | z
    · exact ⟨_, _, _, _, ⟨ha, hk0⟩, z.congr fun i hi => by rw [e]; exact (hF i hi).symm⟩
    · exact ⟨_, _, _, _, ⟨by omega, fun _ _ h => by cases h⟩, z.congr fun i hi => by rw [e]; exact (hF i hi).symm⟩
  · rw [List.mem_singleton.mp (List.mem_of_mem_take hq)]
    exact ⟨_, rfl, by show 3 ≤ 12; decide⟩
  · rw [List.mem_singleton.mp (List.mem_of_mem_take hq)]
    show kd S ((a + 1) % 2) = 0
    unfold kd
    rw [if_pos (by omega)]
theorem wrs_take (ls : Lw) (k : Nat) : (wrs ls).take k = wrs (ls.take k) := by
  unfold wrs
  rw [List.map_take]
theorem wrs_len (ls : Lw) : (wrs ls).length = ls.length := by unfold wrs; rw [List.length_map]
/-- what bringing home does -/
theorem bring_step {ds0 : List PyData} {es : List Ev} {ng : Int} {ns : Nat} (R : RG n S ds a g t zs F) (hl : lastI (ringD S ds) < ng) (rp : rep ds0 [] es = (ds, [])) (se : sev es = es.length) (T : TInv n S ds0 es ps hg) (hp : ∀ x ∈ ps, x.1 ≤ (es.length : Int)) (hF : ∀ i < n, hg.getD ps.length default i = F i) (ha : Pf.hd0 ds0 ≤ a) (hk0 : kn0 n S ds0 → KeyN n zs) :
    TInv n S ds0 (es ++ (wrs (hmL S (sortC (lastC (n : Int) zs))) ++ [Ev.b] ++ wrs [((a + 1) % 2, rowD [a + 1, ng, (ns : Int)])] ++ [Ev.b])) ps hg ∧
    ∃ ds', rep ds0 [] (es ++ (wrs (hmL S (sortC (lastC (n : Int) zs))) ++ [Ev.b] ++ wrs [((a + 1) % 2, rowD [a + 1, ng, (ns : Int)])] ++ [Ev.b])) = (ds', []) ∧ ds' = settleD (settleD ds (hmL S (sortC (lastC (n : Int) zs)))) [((a + 1) % 2, rowD [a + 1, ng, (ns : Int)])] ∧ RG n S ds' (a + 1) ng ns [] F ∧ lastI (ringD S ds') < ng := by
  obtain ⟨R1, ering, hb⟩ := R.settleH
  have hl1 : lastI (ringD S (settleD ds (hmL S (sortC (lastC (n : Int) zs))))) < ng := by rw [ering]; exact hl
  obtain ⟨R2, hl2⟩ := R1.settleN (ns := ns) hl1 hb
  generalize hhw : hmL S (sortC (lastC (n : Int) zs)) = hw at R1 hb hl1 R2 hl2 ⊢
  -- home plates
  have T1 : TInv n S ds0 (es ++ wrs hw) ps hg := T.app fun k _ _ => by
    rw [wrs_take, rep_app, rp, rep_wrs, sev_wrs, se, ← hhw]
    exact tq_home R hp hF ha hk0
  have r1 : rep ds0 [] (es ++ wrs hw) = (ds, hw) := by
    rw [rep_app, rp, rep_wrs]
    rfl
  have l1 : (es ++ wrs hw).length = es.length + hw.length := by rw [List.length_append, wrs_len]
  have r2 : rep ds0 [] (es ++ wrs hw ++ [Ev.b]) = (settleD ds hw, []) := by
    rw [rep_app, r1]
    rfl
  have T2 : TInv n S ds0 (es ++ wrs hw ++ [Ev.b]) ps hg := T1.app fun k h0 h1 => by
    have ek : ([Ev.b] : List Ev).take k = [Ev.b] := List.take_of_length_le (by show 1 ≤ k; omega)
    rw [ek, r2, sev_b]
    have := tq_home (k := 0) (s := (es ++ wrs hw).length + 1) R1 (fun x hx => by have := hp x hx; omega) hF ha hk0
    rw [List.take_zero] at this
    exact this
  have s2 : sev (es ++ wrs hw ++ [Ev.b]) = (es ++ wrs hw).length + 1 := sev_b _
  have T3 : TInv n S ds0 (es ++ wrs hw ++ [Ev.b] ++ wrs [((a + 1) % 2, rowD [a + 1, ng, (ns : Int)])]) ps hg := T2.app fun k h0 h1 => by
    rw [wrs_take, rep_app, r2, rep_wrs, sev_wrs, s2]
    exact tq_head R1 hl1 hb (fun x hx => by have := hp x hx; omega) hF ha hk0
  have r3 : rep ds0 [] (es ++ wrs hw ++ [Ev.b] ++ wrs [((a + 1) % 2, rowD [a + 1, ng, (ns : Int)])]) = (settleD ds hw, [((a + 1) % 2, rowD [a + 1, ng, (ns : Int)])]) := by
    rw [rep_app, r2, rep_wrs]
    rfl
  have r4 : rep ds0 [] (es ++ wrs hw ++ [Ev.b] ++ wrs [((a + 1) % 2, rowD [a + 1, ng, (ns : Int)])] ++ [Ev.b]) = (settleD (settleD ds hw) [((a + 1) % 2, rowD [a + 1, ng, (ns : Int)])], []) := by
    rw [rep_app, r3]
    rfl
  have T4 : TInv n S ds0 (es ++ wrs hw ++ [Ev.b] ++ wrs [((a + 1) % 2, rowD [a + 1, ng, (ns : Int)])] ++ [Ev.b]) ps hg := T3.app fun k h0 h1 => by
    have ek : ([Ev.b] : List Ev).take k = [Ev.b] := List.take_of_length_le (by show 1 ≤ k; omega)
    rw [ek, r4, sev_b]
    have := tq_home (k := 0) (s := (es ++ wrs hw ++ [Ev.b] ++ wrs [((a + 1) % 2, rowD [a + 1, ng, (ns : Int)])]).length + 1) R2 (fun x hx => by have := hp x hx; rw [List.length_append, List.length_append, l1]; omega) hF (show Pf.hd0 ds0 ≤ a + 1 by omega) (kp := kn0 n S ds0) (fun _ _ h => by cases h)
    rw [List.take_zero] at this
    exact this
  have eapp : es ++ (wrs hw ++ [Ev.b] ++ wrs [((a + 1) % 2, rowD [a + 1, ng, (ns : Int)])] ++ [Ev.b]) = es ++ wrs hw ++ [Ev.b] ++ wrs [((a + 1) % 2, rowD [a + 1, ng, (ns : Int)])] ++ [Ev.b] := by simp only [List.append_assoc]
  rw [eapp]
  exact ⟨T4, _, r4, rfl, R2, hl2⟩
end
/-! ### what always holds of a store -/
def dof (ps : List (Int × Int)) (k : Nat) : Nat := if k = 0 then 0 else (ps.getD (k - 1) (0, 0)).2.toNat
theorem dof_app {ps : List (Int × Int)} {x : Int × Int} {k : Nat} (h : k ≤ ps.length) : dof (ps ++ [x]) k = dof ps k := by
  unfold dof
  by_cases c : k = 0
  · rw [if_pos c, if_pos c]
  · rw [if_neg c, if_neg c, List.getD_eq_getElem?_getD, List.getD_eq_getElem?_getD, List.getElem?_append_left (by omega)]
theorem dof_last {ps : List (Int × Int)} {x : Int × Int} : dof (ps ++ [x]) (ps.length + 1) = x.2.toNat := by
  unfold dof
  rw [if_neg (by omega), Nat.add_sub_cancel, List.getD_eq_getElem?_getD, List.getElem?_append_right (Nat.le_refl _), Nat.sub_self]
  rfl
structure Ph (n S : Nat) (m : MD) (s : Nat) (hg : List HF) (g : Int) (t : Nat) (zs : List Gr) (F : HF) (ws : List Gr) (old : List Int) : Prop where
  R : RG n S m.ds m.hn g t zs F
  la : lastI (ringD S m.ds) < g + (zs.length : Nat)
  nx : nextG ws (t + slotsN zs) (g + (zs.length : Nat))
  sl : slotsN zs + slotsN ws ≤ S
  ls : m.ls = logG S ws
  zz : m.zs = zs ++ ws
  ng : m.ng = g + ((zs ++ ws).length : Nat)
  ns : m.ns = t + slotsN (zs ++ ws)
  en : m.ps.map (·.1) = old ++ endsOf s ws
  ol : ∀ e ∈ old, e ≤ (s : Int)
  hh : ∀ j, j ≤ ws.length → ∀ i < n, hg.getD (old.length + j) default i = grF (ws.take j) F i
structure SI (n S : Nat) (ds0 : List PyData) (m : MD) (es : List Ev) (hg hs : List HF) : Prop where
  mn : m.n = n
  mS : m.S = S
  n60 : n ≤ 60
  S60 : S ≤ 60
  ev : m.evs = es.map evD
  rp : rep ds0 [] es = (m.ds, m.ls)
  ph : ∃ g t zs F ws old, Ph n S m (sev es) hg g t zs F ws old
  tr : TInv n S ds0 es m.ps hg
  hgl : hg.length = m.ps.length + 1
  pe : ∀ x ∈ m.ps, x.1 ≤ (es.length : Int)
  pl : m.ps.length ≤ es.length
  rnd : (m.rn.map (·.1)).Nodup
  rnk : ∀ c ∈ m.rn, c.2.length = 8 ∧ 0 ≤ c.1 ∧ c.1 < (n : Int)
  rnl : m.rn.length ≤ S
  hp : 0 < hs.length
  hm : m.hm = canonC n (hs.getD (hs.length - 1) default)
  ho : ∀ i < n, chF m.rn (hg.getD m.ps.length default) i = hs.getD (hs.length - 1) default i
  de : m.de = ((hs.length - 1 : Nat) : Int)
  gs : ∀ k, k ≤ m.ps.length → ∀ i < n, hg.getD k default i = hs.getD (dof m.ps k) default i
  dm : (m.ps.map (·.2)).Pairwise (· ≤ ·)
  db : ∀ x ∈ m.ps, 0 ≤ x.2 ∧ x.2 ≤ ((hs.length - 1 : Nat) : Int)
  r0 : m.rn = [] → dof m.ps m.ps.length = hs.length - 1
  se : m.se = ((dof m.ps (gw m.ps (sev es)) : Nat) : Int)
  a0 : Pf.hd0 ds0 ≤ m.hn
  ek : ∀ e ∈ es, EvK n S e
  te : ∀ q, q ≤ es.length → (es.take q).countP (lastE S) = gw m.ps q
  tf : es.countP (firstE S) = m.ps.length
  zk : kn0 n S ds0 → KeyN n m.zs
theorem te_app {S : Nat} {es xs : List Ev} {ps : List (Int × Int)} (te : ∀ q, q ≤ es.length → (es.take q).countP (lastE S) = gw ps q) (pe : ∀ x ∈ ps, x.1 ≤ (es.length : Int)) (hx : ∀ e ∈ xs, lastE S e = false) :
    ∀ q, q ≤ (es ++ xs).length → ((es ++ xs).take q).countP (lastE S) = gw ps q := by
  intro q hq
  by_cases c : q ≤ es.length
  · rw [List.take_append_of_le_length c]
    exact te q c
  · have h1 := te es.length (Nat.le_refl _)
    rw [List.take_length] at h1
    rw [List.take_append, List.take_of_length_le (by omega), List.countP_append, h1, gw_all pe, gw_all fun x hx => by have := pe x hx; omega,
      List.countP_eq_zero.mpr fun e he => by rw [hx e (List.mem_of_mem_take he)]; decide]
    rfl
theorem wrs_mem {ls : Lw} {e : Ev} (h : e ∈ wrs ls) : ∃ q ∈ ls, e = .w q.1 q.2 := by
  obtain ⟨q, hq, rfl⟩ := List.mem_map.mp h
  exact ⟨q, hq, rfl⟩
end Pf

set_option Elab.async false
set_option linter.all false
set_option maxRecDepth 100000
set_option maxHeartbeats 2000000
namespace Pf
open PySem PySem.Spec PyProof.Rows L2
theorem nodup_le : ∀ {n : Nat} {cs : List Int}, cs.Nodup → (∀ c ∈ cs, 0 ≤ c ∧ c < (n : Int)) → cs.length ≤ n
  | 0, cs, _, h => by
    cases cs with
    | nil => exact Nat.le_refl _
    | cons c cs =>
      have := h c List.mem_cons_self
      omega
  | n + 1, cs, hn, h => by
    by_cases c : (n : Int) ∈ cs
    · have h1 := nodup_le (n := n) (hn.erase (n : Int)) fun x hx => by
        obtain ⟨h2, h3⟩ := (List.Nodup.mem_erase_iff hn).mp hx
        have := h x h3
        omega
      rw [List.length_erase_of_mem c] at h1
      omega
    · have := nodup_le (n := n) hn fun x hx => by
        have h2 := h x hx
        have h3 : x ≠ (n : Int) := fun z => c (z ▸ hx)
        omega
      omega
theorem evs_wrs (ls : Lw) : (wrs ls).map evD = ls.map fun q => wrD q.1 q.2 := by
  unfold wrs
  rw [List.map_map]
  rfl
theorem ps_last {ps : List (Int × Int)} {d : Int} (h : 0 < ps.length) : (match ps.getLast? with | none => d | some q => q.2) = (ps.getD (ps.length - 1) (0, 0)).2 := by
  rw [List.getLast?_eq_getElem?, List.getD_eq_getElem?_getD, List.getElem?_eq_getElem (by omega)]
  rfl
theorem se_last {ps : List (Int × Int)} {d : Int} (hd : ps = [] → d = 0) (h0 : ∀ x ∈ ps, 0 ≤ x.2) : (match ps.getLast? with | none => d | some q => q.2) = ((dof ps ps.length : Nat) : Int) := by
  by_cases c : ps.length = 0
  · have := List.eq_nil_of_length_eq_zero c
    subst this
    exact hd rfl
  · rw [ps_last (by omega)]
    unfold dof
    rw [if_neg c, List.getD_eq_getElem?_getD, List.getElem?_eq_getElem (by omega)]
    have := h0 _ (List.getElem_mem (show ps.length - 1 < ps.length by omega))
    show ps[ps.length - 1].2 = ((ps[ps.length - 1].2.toNat : Nat) : Int)
    omega
section
variable {n S : Nat} {ds0 : List PyData} {m : MD} {es : List Ev} {hg hs : List HF}
theorem SI.se0 (A : SI n S ds0 m es hg hs) : m.ps = [] → m.se = 0 := fun z => by
  rw [A.se, z]
  rfl
theorem SI.S0 (A : SI n S ds0 m es hg hs) : 0 < S := by
  obtain ⟨g, t, zs, F, ws, old, P⟩ := A.ph
  exact P.R.S0
theorem SI.len (A : SI n S ds0 m es hg hs) : m.ds.length = 2 + S + n := by
  obtain ⟨g, t, zs, F, ws, old, P⟩ := A.ph
  exact P.R.len
theorem SI.zsl (A : SI n S ds0 m es hg hs) : slotsN m.zs ≤ S ∧ m.zs.length ≤ S ∧ ∀ z ∈ m.zs, ∀ c ∈ z.2.2, c.2.length = 8 ∧ 0 ≤ c.1 := by
  obtain ⟨g, t, zs, F, ws, old, P⟩ := A.ph
  have h1 := P.sl
  have h2 := rows_len P.R.rows
  have h3 : ws.length ≤ slotsN ws := by
    have go : ∀ {ws : List Gr}, (∀ w ∈ ws, 0 < w.2.2.length) → ws.length ≤ slotsN ws := by
      intro ws
      induction ws with
      | nil => intro _; exact Nat.le_refl _
      | cons w ws ih =>
        intro h
        have := ih fun x hx => h x (List.mem_cons_of_mem _ hx)
        have := h w List.mem_cons_self
        rw [slots_cons, List.length_cons]
        omega
    exact go (next_pos P.nx)
  rw [P.zz]
  refine ⟨by rw [slotsN_app]; omega, by rw [List.length_append]; omega, fun z hz => ?_⟩
  rcases List.mem_append.mp hz with e | e
  · exact rows_key P.R.rows z e
  · have go : ∀ {ws : List Gr} {t : Nat} {g : Int}, nextG ws t g → ∀ z ∈ ws, ∀ c ∈ z.2.2, c.2.length = 8 ∧ 0 ≤ c.1 := by
      intro ws
      induction ws with
      | nil => intro _ _ _ z hz; simp at hz
      | cons w ws ih =>
        intro t g h z hz
        obtain ⟨_, _, _, h4, h5⟩ := h
        rcases List.mem_cons.mp hz with e | e
        · rw [e]; exact h4
        · exact ih h5 z e
    exact go P.nx z e
theorem SI.lsIn (A : SI n S ds0 m es hg hs) : ∀ q ∈ m.ls, 0 ≤ q.1 ∧ q.1 < ((m.ds.length : Nat) : Int) := by
  obtain ⟨g, t, zs, F, ws, old, P⟩ := A.ph
  intro q hq
  rw [P.ls] at hq
  obtain ⟨j, _, _, e⟩ := log_keys A.S0 P.nx hq
  have := Nat.mod_lt (t + slotsN zs + j) A.S0
  rw [A.len]
  omega
theorem SI.lsl (A : SI n S ds0 m es hg hs) : m.ls.length ≤ S := by
  obtain ⟨g, t, zs, F, ws, old, P⟩ := A.ph
  rw [P.ls, log_len]
  have := P.sl
  omega
theorem SI.okw (A : SI n S ds0 m es hg hs) : OKW m := by
  obtain ⟨z1, z2, z3⟩ := A.zsl
  have h1 := A.n60
  have h2 := A.S60
  have h3 := A.lsl
  exact ⟨by rw [A.len, A.mS, A.mn], by rw [A.mS]; exact A.S0, by rw [A.mS]; exact h2, by rw [A.mn]; exact h1, A.lsIn, by omega, fun z hz c hc => (z3 z hz c hc).2, by omega⟩
theorem SI.evl (A : SI n S ds0 m es hg hs) : m.evs.length = es.length := by rw [A.ev, List.length_map]
theorem SI.pok (A : SI n S ds0 m es hg hs) (h : es.length ≤ 600) : PushOk m := by
  have h1 := A.evl
  have h2 := A.pl
  have h3 := A.rnl
  have h4 := A.zsl.2.1
  have h5 := A.S60
  exact ⟨A.okw, by omega, by omega, A.rnd, fun c hc => (A.rnk c hc).1, by rw [A.mS]; exact h3, by omega⟩
theorem SI.gwl (A : SI n S ds0 m es hg hs) {e : Nat} (h : es.length ≤ e) : gw m.ps e = m.ps.length := gw_all fun x hx => by have := A.pe x hx; omega
/-- a barrier -/
theorem SI.bar (A : SI n S ds0 m es hg hs) : SI n S ds0 m.barrier (es ++ [Ev.b]) hg hs := by
  obtain ⟨g, t, zs, F, ws, old, P⟩ := A.ph
  obtain ⟨R', la'⟩ := P.R.settleL P.la P.nx P.sl
  have hpl : old.length + ws.length = m.ps.length := by
    have := congrArg List.length P.en
    rw [List.length_map, List.length_append, ends_len] at this
    exact this.symm
  have el : (es ++ [Ev.b]).length = es.length + 1 := by rw [List.length_append]; rfl
  have rp' : rep ds0 [] (es ++ [Ev.b]) = (settleD m.ds m.ls, []) := by
    rw [rep_app, A.rp]
    rfl
  have hF : ∀ i < n, hg.getD m.ps.length default i = grF ws F i := fun i hi => by
    rw [← hpl, P.hh ws.length (Nat.le_refl _) i hi, List.take_length]
  have R2 : RG n S (settleD m.ds m.ls) m.hn g t (zs ++ ws) (grF ws F) := by rw [P.ls]; exact R'
  refine ⟨A.mn, A.mS, A.n60, A.S60, ?_, rp', ⟨g, t, zs ++ ws, grF ws F, [], m.ps.map (·.1), ?_⟩, A.tr.app fun k h0 h1 => ?_, A.hgl, fun x hx => ?_, ?_, A.rnd, A.rnk, A.rnl, A.hp, A.hm, A.ho, A.de, A.gs, A.dm, A.db, A.r0, ?_, A.a0, fun e he => ?_, ?_, ?_, A.zk⟩
  · show m.evs ++ [barD] = _
    rw [A.ev, List.map_append]
    rfl
  · refine ⟨R2, ?_, trivial, ?_, rfl, ?_, ?_, ?_, ?_, fun e he => ?_, fun j hj i hi => ?_⟩
    · show lastI (ringD S (settleD m.ds m.ls)) < _
      rw [P.ls]
      exact la'
    · show slotsN (zs ++ ws) + 0 ≤ S
      rw [slotsN_app]
      have := P.sl
      omega
    · show m.zs = zs ++ ws ++ []
      rw [List.append_nil]
      exact P.zz
    · rw [List.append_nil]
      exact P.ng
    · rw [List.append_nil]
      exact P.ns
    · show m.ps.map (·.1) = m.ps.map (·.1) ++ []
      rw [List.append_nil]
    · obtain ⟨x, hx, rfl⟩ := List.mem_map.mp he
      have := A.pe x hx
      rw [sev_b]
      omega
    · have : j = 0 := by simpa using hj
      rw [this, List.length_map, Nat.add_zero, List.take_zero]
      exact hF i hi
  · have ek : ([Ev.b] : List Ev).take k = [Ev.b] := List.take_of_length_le (by show 1 ≤ k; omega)
    rw [ek, rp', sev_b]
    have := tq_home (k := 0) (s := es.length + 1) R2 (fun x hx => by have := A.pe x hx; omega) hF A.a0 (fun z => by rw [← P.zz]; exact A.zk z)
    rw [List.take_zero] at this
    exact this
  · have := A.pe x hx
    rw [el]
    omega
  · have := A.pl
    show m.ps.length ≤ _
    rw [el]
    omega
  · show (match m.ps.getLast? with | none => m.se | some q => q.2) = ((dof m.ps (gw m.ps (sev (es ++ [Ev.b]))) : Nat) : Int)
    rw [sev_b, A.gwl (by omega)]
    exact se_last A.se0 fun x hx => (A.db x hx).1
  · rcases List.mem_append.mp he with z | z
    · exact A.ek e z
    · rw [List.mem_singleton.mp z]
      trivial
  · exact te_app A.te A.pe fun e he => by rw [List.mem_singleton.mp he]; rfl
  · rw [List.countP_append]
    exact A.tf
/-- bringing home, of what is settled -/
theorem bring_mk (F : HF) (g : Int) (t : Nat) (mn : m.n = n) (mS : m.S = S) (n60 : n ≤ 60) (S60 : S ≤ 60) (ev : m.evs = es.map evD) (rp : rep ds0 [] es = (m.ds, [])) (ls : m.ls = []) (R : RG n S m.ds m.hn g t m.zs F) (hl : lastI (ringD S m.ds) < m.ng) (hs' : sev es = es.length)
    (tr : TInv n S ds0 es m.ps hg) (hgl : hg.length = m.ps.length + 1) (pe : ∀ x ∈ m.ps, x.1 ≤ (es.length : Int)) (pl : m.ps.length ≤ es.length) (rnd : (m.rn.map (·.1)).Nodup) (rnk : ∀ c ∈ m.rn, c.2.length = 8 ∧ 0 ≤ c.1 ∧ c.1 < (n : Int)) (rnl : m.rn.length ≤ S) (hp : 0 < hs.length)
    (hm : m.hm = canonC n (hs.getD (hs.length - 1) default)) (ho : ∀ i < n, chF m.rn (hg.getD m.ps.length default) i = hs.getD (hs.length - 1) default i) (de : m.de = ((hs.length - 1 : Nat) : Int)) (gs : ∀ k, k ≤ m.ps.length → ∀ i < n, hg.getD k default i = hs.getD (dof m.ps k) default i)
    (dm : (m.ps.map (·.2)).Pairwise (· ≤ ·)) (db : ∀ x ∈ m.ps, 0 ≤ x.2 ∧ x.2 ≤ ((hs.length - 1 : Nat) : Int)) (r0 : m.rn = [] → dof m.ps m.ps.length = hs.length - 1) (se : m.ps = [] → m.se = 0) (hF : ∀ i < n, hg.getD m.ps.length default i = F i)
    (a0 : Pf.hd0 ds0 ≤ m.hn) (ek : ∀ e ∈ es, EvK n S e) (te : ∀ q, q ≤ es.length → (es.take q).countP (lastE S) = gw m.ps q) (tf : es.countP (firstE S) = m.ps.length) (zk : kn0 n S ds0 → KeyN n m.zs) :
    ∃ xs, SI n S ds0 m.bring (es ++ xs) hg hs ∧ xs.length ≤ n + 3 ∧ m.bring.ps = m.ps ∧ m.bring.ls = [] ∧ sev (es ++ xs) = (es ++ xs).length := by
  obtain ⟨T4, ds', r4, ed, R4, hl4⟩ := bring_step (ns := m.ns) R hl rp hs' tr pe hF a0 zk
  have hlast : m.last = sortC (lastC (n : Int) m.zs) := by unfold MD.last; rw [mn]
  have hll : (sortC (lastC (n : Int) m.zs)).length ≤ n := by
    have := nodup_le R.lnd (n := n) fun c hc => by
      obtain ⟨x, hx, rfl⟩ := List.mem_map.mp hc
      exact R.lin x hx
    rw [List.length_map] at this
    exact this
  have hkw : ∀ e ∈ wrs (hmL S (sortC (lastC (n : Int) m.zs))) ++ [Ev.b] ++ wrs [((m.hn + 1) % 2, rowD [m.hn + 1, m.ng, (m.ns : Int)])] ++ [Ev.b], EvK n S e ∧ lastE S e = false ∧ firstE S e = false := fun e he => by
    rcases List.mem_append.mp he with he | he
    · rcases List.mem_append.mp he with he | he
      · rcases List.mem_append.mp he with he | he
        · obtain ⟨q, hq, rfl⟩ := wrs_mem he
          obtain ⟨c, hc, rfl⟩ := List.mem_map.mp hq
          have h1 := R.lin c hc
          refine ⟨.inr (.inl ⟨by show 2 + (S : Int) ≤ 2 + (S : Int) + c.1; omega, by show 2 + (S : Int) + c.1 < _; omega, _, rfl, R.l8 c hc⟩), ?_, ?_⟩
          · exact logE_out (.inr (by show 2 + (S : Int) ≤ 2 + (S : Int) + c.1; omega))
          · exact logE_out (.inr (by show 2 + (S : Int) ≤ 2 + (S : Int) + c.1; omega))
        · rw [List.mem_singleton.mp he]
          exact ⟨trivial, rfl, rfl⟩
      · obtain ⟨q, hq, rfl⟩ := wrs_mem he
        rw [List.mem_singleton.mp hq]
        refine ⟨.inl ⟨by show 0 ≤ (m.hn + 1) % 2; omega, by show (m.hn + 1) % 2 < 2; omega, _, _, _, rfl⟩, ?_, ?_⟩
        · exact logE_out (.inl (by show (m.hn + 1) % 2 < 2; omega))
        · exact logE_out (.inl (by show (m.hn + 1) % 2 < 2; omega))
    · rw [List.mem_singleton.mp he]
      exact ⟨trivial, rfl, rfl⟩
  generalize hhw : hmL S (sortC (lastC (n : Int) m.zs)) = hw at T4 r4 ed hkw
  have hwl : hw.length ≤ n := by rw [← hhw]; unfold hmL; rw [List.length_map]; exact hll
  have el : (wrs hw ++ [Ev.b] ++ wrs [((m.hn + 1) % 2, rowD [m.hn + 1, m.ng, (m.ns : Int)])] ++ [Ev.b]).length = hw.length + 3 := by
    rw [List.length_append, List.length_append, List.length_append, wrs_len, wrs_len]
    rfl
  have e1 : (m.homeW m.last).ls = hw := by
    show m.ls ++ m.last.map _ = hw
    rw [ls, hlast, ← hhw, ← mS]
    rfl
  have eds : m.bring.ds = ds' := by
    show settleD (settleD m.ds (m.homeW m.last).ls) [((m.hn + 1) % 2, rowD [m.hn + 1, m.ng, (m.ns : Int)])] = ds'
    rw [e1, ed]
  have eev : m.bring.evs = (es ++ (wrs hw ++ [Ev.b] ++ wrs [((m.hn + 1) % 2, rowD [m.hn + 1, m.ng, (m.ns : Int)])] ++ [Ev.b])).map evD := by
    show ((((m.evs ++ m.last.map fun c => wrD (2 + (m.S : Int) + c.1) (rowD c.2)) ++ [barD]) ++ [wrD ((m.hn + 1) % 2) (rowD [m.hn + 1, m.ng, (m.ns : Int)])]) ++ [barD]) = _
    rw [ev, List.map_append, List.map_append, List.map_append, List.map_append, evs_wrs, evs_wrs]
    have e2 : (m.last.map fun c => wrD (2 + (m.S : Int) + c.1) (rowD c.2)) = hw.map fun q => wrD q.1 q.2 := by
      rw [hlast, ← hhw, ← mS]
      unfold hmL
      rw [List.map_map]
      rfl
    rw [e2]
    simp only [List.append_assoc]
    rfl
  have s4 : sev (es ++ (wrs hw ++ [Ev.b] ++ wrs [((m.hn + 1) % 2, rowD [m.hn + 1, m.ng, (m.ns : Int)])] ++ [Ev.b])) = (es ++ (wrs hw ++ [Ev.b] ++ wrs [((m.hn + 1) % 2, rowD [m.hn + 1, m.ng, (m.ns : Int)])] ++ [Ev.b])).length := by
    rw [← List.append_assoc, sev_b, List.length_append (as := es ++ _)]
    rfl
  have ese : m.bring.se = ((dof m.ps m.ps.length : Nat) : Int) := by
    show (match m.ps.getLast? with | none => (match m.ps.getLast? with | none => m.se | some q => q.2) | some q => q.2) = _
    rw [← se_last se fun x hx => (db x hx).1]
    cases m.ps.getLast? <;> rfl
  refine ⟨_, ⟨mn, mS, n60, S60, eev, by rw [r4, eds]; rfl, ⟨m.ng, m.ns, [], F, [], m.ps.map (·.1), ?_⟩, T4, hgl, fun x hx => ?_, ?_, rnd, rnk, rnl, hp, hm, ho, de, gs, dm, db, r0, ?_, ?_, fun e he => ?_, te_app te pe fun e he => (hkw e he).2.1, ?_, fun _ _ h => by cases h⟩, by rw [el]; omega, rfl, rfl, s4⟩
  · refine ⟨by rw [eds]; exact R4, by rw [eds]; show _ < m.ng + (0 : Int); rw [Int.add_zero]; exact hl4, trivial, by show 0 + 0 ≤ S; omega, rfl, rfl, ?_, rfl, ?_, fun e he => ?_, fun j hj i hi => ?_⟩
    · show m.ng = m.ng + (0 : Int)
      rw [Int.add_zero]
    · show m.ps.map (·.1) = m.ps.map (·.1) ++ []
      rw [List.append_nil]
    · obtain ⟨x, hx, rfl⟩ := List.mem_map.mp he
      have := pe x hx
      rw [s4, List.length_append]
      omega
    · have : j = 0 := by simpa using hj
      rw [this, List.length_map, Nat.add_zero, List.take_zero]
      exact hF i hi
  · have := pe x hx
    rw [List.length_append]
    omega
  · show m.ps.length ≤ _
    rw [List.length_append]
    omega
  · rw [ese, s4]
    show _ = ((dof m.ps (gw m.ps _) : Nat) : Int)
    rw [gw_all fun x hx => by have := pe x hx; rw [List.length_append]; omega]
  · show Pf.hd0 ds0 ≤ m.hn + 1
    omega
  · rcases List.mem_append.mp he with z | z
    · exact ek e z
    · exact (hkw e z).1
  · have hz : ∀ {l : List Ev}, (∀ e ∈ l, EvK n S e ∧ lastE S e = false ∧ firstE S e = false) → l.countP (firstE S) = 0 := fun h => List.countP_eq_zero.mpr fun e he => by rw [(h e he).2.2]; decide
    rw [List.countP_append, hz hkw]
    exact tf
/-- laying -/
theorem SI.lay (A : SI n S ds0 m es hg hs) : ∃ xs, SI n S ds0 m.lay (es ++ xs) hg hs ∧ xs.length ≤ n + 4 ∧ m.lay.ps = m.ps := by
  unfold MD.lay
  split
  · exact ⟨[], by rw [List.append_nil]; exact A, Nat.zero_le _, rfl⟩
  · have B := A.bar
    obtain ⟨g, t, zs, F, ws, old, P⟩ := B.ph
    have hs' := sev_b es
    have el : (es ++ [Ev.b]).length = es.length + 1 := by rw [List.length_append]; rfl
    have hws : ws = [] := by
      have h1 := P.ls
      have h2 : m.barrier.ls = [] := rfl
      rw [h2] at h1
      have h3 := congrArg List.length h1
      rw [log_len] at h3
      cases ws with
      | nil => rfl
      | cons w ws =>
        have h4 := next_pos P.nx w List.mem_cons_self
        rw [slots_cons] at h3
        have h5 : ([] : Lw).length = 0 := rfl
        omega
    subst hws
    have hzz : m.barrier.zs = zs := by have := P.zz; rw [List.append_nil] at this; exact this
    have hpl : old.length = m.ps.length := by
      have h1 := congrArg List.length P.en
      rw [List.length_map, List.length_append, ends_len] at h1
      have h2 : m.barrier.ps = m.ps := rfl
      rw [h2] at h1
      exact h1.symm
    have hF : ∀ i < n, hg.getD m.barrier.ps.length default i = F i := fun i hi => by
      have := P.hh 0 (Nat.zero_le _) i hi
      rw [Nat.add_zero, hpl] at this
      exact this
    have hng : lastI (ringD S m.barrier.ds) < m.barrier.ng := by
      have h1 := P.ng
      rw [List.append_nil] at h1
      rw [h1]
      exact P.la
    obtain ⟨xs, C, hx, hp2, _⟩ := bring_mk (m := m.barrier) F g t B.mn B.mS B.n60 B.S60 B.ev B.rp rfl (by rw [hzz]; exact P.R) hng (by rw [hs', el]) B.tr B.hgl B.pe B.pl B.rnd B.rnk B.rnl B.hp B.hm B.ho B.de B.gs B.dm B.db B.r0 B.se0 hF B.a0 B.ek B.te B.tf B.zk
    refine ⟨[Ev.b] ++ xs, by rw [← List.append_assoc]; exact C, ?_, hp2⟩
    rw [List.length_append]
    show 1 + xs.length ≤ _
    omega
end
end Pf

set_option Elab.async false
set_option linter.all false
set_option maxRecDepth 100000
set_option maxHeartbeats 2000000
namespace Pf
open PySem PySem.Spec PyProof.Rows L2
section
variable {n S : Nat} {ds0 : List PyData} {m : MD} {es : List Ev} {hg hs : List HF}
theorem chF_sort {rn : List Ch} (h : (rn.map (·.1)).Nodup) (F : HF) (i : Nat) : chF (sortC rn) F i = chF rn F i := by
  show overV _ _ _ = overV _ _ _
  rw [over_get (((sortC_perm _).map _).nodup_iff.mpr h), over_get h, getC_perm h (sortC_perm _)]
theorem chF_congr {cs : List Ch} {F G : HF} {i : Nat} (h : F i = G i) : chF cs F i = chF cs G i := by
  show overV _ _ _ = overV _ _ _
  rw [h]
theorem SI.rnn (A : SI n S ds0 m es hg hs) : m.rn.length ≤ n := by
  have := nodup_le A.rnd (n := n) fun c hc => by
    obtain ⟨x, hx, rfl⟩ := List.mem_map.mp hc
    exact (A.rnk x hx).2
  rw [List.length_map] at this
  exact this
/-- a group written -/
theorem SI.log (A : SI n S ds0 m es hg hs) (hrn : m.rn ≠ []) (hfit : slotsN m.zs + m.rn.length ≤ S) : ∃ xs, SI n S ds0 m.pushed (es ++ xs) (hg ++ [hs.getD (hs.length - 1) default]) hs ∧ xs.length ≤ n ∧ m.pushed.ps = m.ps ++ [(((es ++ xs).length : Int), m.de)] := by
  obtain ⟨g, t, zs, F, ws, old, P⟩ := A.ph
  have hcl : (sortC m.rn).length = m.rn.length := (sortC_perm _).length_eq
  have hpos : 0 < m.rn.length := List.length_pos_iff.mpr hrn
  obtain ⟨w, ew⟩ : ∃ w : Gr, w = (m.ng, m.ns, sortC m.rn) := ⟨_, rfl⟩
  have ew2 : w.2.2 = sortC m.rn := by rw [ew]
  have hpl : old.length + ws.length = m.ps.length := by
    have := congrArg List.length P.en
    rw [List.length_map, List.length_append, ends_len] at this
    exact this.symm
  have hz : slotsN zs + slotsN ws + m.rn.length ≤ S := by
    have := hfit
    rw [P.zz, slotsN_app] at this
    exact this
  have hsw : slotsN [w] = m.rn.length := by rw [slots_cons, ew2, hcl]; rfl
  have hsw2 : slotsN (ws ++ [w]) = slotsN ws + m.rn.length := by rw [slotsN_app, hsw]
  have nx' : nextG (ws ++ [w]) (t + slotsN zs) (g + (zs.length : Nat)) := by
    refine next_app P.nx ⟨?_, ?_, by rw [ew2, hcl]; exact hpos, fun c hc => ?_, trivial⟩
    · rw [ew]
      show m.ng = _
      rw [P.ng, List.length_append]
      omega
    · rw [ew]
      show m.ns = _
      rw [P.ns, slotsN_app]
      omega
    · rw [ew2] at hc
      have := A.rnk c ((sortC_perm _).subset hc)
      exact ⟨this.1, this.2.1⟩
  have hll : m.ls.length = slotsN ws := by rw [P.ls, log_len]
  have hlen : es.length = sev es + slotsN ws := by
    have h : sev es + m.ls.length = es.length := by
      have h := sev_loose ds0 es
      rw [A.rp] at h
      exact h
    omega
  obtain ⟨nw, enw⟩ : ∃ nw : Lw, nw = (List.range (sortC m.rn).length).map (lw m (sortC m.rn)) := ⟨_, rfl⟩
  have nwl : nw.length = m.rn.length := by rw [enw, List.length_map, List.length_range, hcl]
  have elog : logG S (ws ++ [w]) = logG S ws ++ nw := by
    rw [logG_app, enw]
    congr 1
    show (List.range w.2.2.length).map (lwG S w) ++ [] = _
    rw [List.append_nil, ew2, ew, ← A.mS]
    rfl
  have rp' : ∀ k, rep ds0 [] (es ++ wrs (nw.take k)) = (m.ds, m.ls ++ nw.take k) := fun k => by rw [rep_app, A.rp, rep_wrs]
  have rpf : rep ds0 [] (es ++ wrs nw) = (m.ds, m.ls ++ nw) := by rw [rep_app, A.rp, rep_wrs]
  have el : (es ++ wrs nw).length = es.length + m.rn.length := by rw [List.length_append, wrs_len, nwl]
  have en' : (m.ps ++ [(((es ++ wrs nw).length : Int), m.de)]).map (·.1) = old ++ endsOf (sev es) (ws ++ [w]) := by
    rw [List.map_append, P.en, ends_app, List.append_assoc]
    congr 1
    congr 1
    show [(((es ++ wrs nw).length : Nat) : Int)] = [((sev es + slotsN ws + w.2.2.length : Nat) : Int)]
    rw [el, ew2, hcl, hlen]
  have hlast : ∀ i < n, hs.getD (hs.length - 1) default i = grF (ws ++ [w]) F i := fun i hi => by
    rw [grF_app, ← A.ho i hi, ← hpl]
    show _ = chF w.2.2 (grF ws F) i
    rw [ew2, chF_sort A.rnd]
    refine chF_congr ?_
    rw [P.hh ws.length (Nat.le_refl _) i hi, List.take_length]
  have hh' : ∀ j, j ≤ (ws ++ [w]).length → ∀ i < n, (hg ++ [hs.getD (hs.length - 1) default]).getD (old.length + j) default i = grF ((ws ++ [w]).take j) F i := fun j hj i hi => by
    rw [List.length_append] at hj
    have hgl := A.hgl
    by_cases c : j ≤ ws.length
    · rw [List.getD_eq_getElem?_getD, List.getElem?_append_left (by omega), ← List.getD_eq_getElem?_getD, P.hh j c i hi, List.take_append_of_le_length c]
    · have ej : j = ws.length + 1 := by
        have : ([w] : List Gr).length = 1 := rfl
        omega
      have e2 : old.length + j - hg.length = 0 := by omega
      rw [List.getD_eq_getElem?_getD, List.getElem?_append_right (by omega), e2]
      show hs.getD (hs.length - 1) default i = _
      rw [hlast i hi, List.take_of_length_le (by rw [List.length_append]; show ws.length + 1 ≤ j; omega)]
  have sl' : slotsN zs + slotsN (ws ++ [w]) ≤ S := by rw [hsw2]; omega
  have hkz : kn0 n S ds0 → KeyN n (zs ++ (ws ++ [w])) := fun z => by
    rw [← List.append_assoc, ← P.zz]
    refine (A.zk z).app fun x hx c hc => ?_
    rw [List.mem_singleton.mp hx, ew2] at hc
    exact (A.rnk c ((sortC_perm _).subset hc)).2.2
  have T0 := A.tr.more A.hgl (x := (((es ++ wrs nw).length : Int), m.de)) (by show (es.length : Int) < (((es ++ wrs nw).length : Nat) : Int); rw [el]; omega) (hs.getD (hs.length - 1) default)
  have T1 : TInv n S ds0 (es ++ wrs nw) (m.ps ++ [(((es ++ wrs nw).length : Int), m.de)]) (hg ++ [hs.getD (hs.length - 1) default]) := T0.app fun k h0 h1 => by
    rw [wrs_len, nwl] at h1
    rw [wrs_take, rp', sev_wrs]
    have := tq_log (k := slotsN ws + k) P.R P.la nx' sl' en' P.ol hh' (by rw [hsw2]; omega) A.a0 hkz
    have e3 : (logG S (ws ++ [w])).take (slotsN ws + k) = m.ls ++ nw.take k := by
      rw [elog, ← log_len S ws, List.take_length_add_append, P.ls]
    rw [e3] at this
    exact this
  have edp : m.pushed.ps = m.ps ++ [(((es ++ wrs nw).length : Int), m.de)] := by
    have e9 : (m.logW (sortC m.rn) (sortC m.rn).length).evs.length = (es ++ wrs nw).length := by
      show (m.evs ++ (List.range (sortC m.rn).length).map fun j => wrD (lw m (sortC m.rn) j).1 (lw m (sortC m.rn) j).2).length = _
      rw [List.length_append, List.length_map, List.length_range, hcl, A.evl, el]
    show m.ps ++ [((((m.logW (sortC m.rn) (sortC m.rn).length).evs.length : Nat) : Int), m.de)] = _
    rw [e9]
  have els : m.pushed.ls = m.ls ++ nw := by
    rw [enw]
    rfl
  have pne : 0 ≤ m.de := by rw [A.de]; omega
  have S0 := A.S0
  have hng0 : 0 ≤ m.ng := by have h1 := P.ng; have h2 := P.R.g0; omega
  have hnw : ∀ j q, nw[j]? = some q → j < m.rn.length ∧ EvK n S (.w q.1 q.2) ∧ (∀ f, logE S f (.w q.1 q.2) = f ((j : Int), ((m.rn.length : Nat) : Int))) := fun j q hj => by
    have hjl := (List.getElem?_eq_some_iff.mp hj).1
    rw [nwl] at hjl
    rw [enw, List.getElem?_map, List.getElem?_range (by rw [hcl]; exact hjl)] at hj
    have eq : q = lw m (sortC m.rn) j := (Option.some.inj hj).symm
    have hc := A.rnk ((sortC m.rn).getD j (0, [])) ((sortC_perm _).subset (by rw [List.getD_eq_getElem?_getD, List.getElem?_eq_getElem (by rw [hcl]; exact hjl)]; exact List.getElem_mem _))
    have hm0 : 0 ≤ (((m.ns : Nat) : Int) + (j : Nat)) % ((m.S : Nat) : Int) := Int.emod_nonneg _ (by rw [A.mS]; omega)
    have hm1 : (((m.ns : Nat) : Int) + (j : Nat)) % ((m.S : Nat) : Int) < ((m.S : Nat) : Int) := Int.emod_lt_of_pos _ (by rw [A.mS]; omega)
    have e1 : q.1 = 2 + (((m.ns : Nat) : Int) + (j : Nat)) % ((m.S : Nat) : Int) := by rw [eq]; rfl
    rw [A.mS] at hm0 hm1 e1
    have e2 : q.2 = rowD (rowN m.ng j m.rn.length ((sortC m.rn).getD j (0, []))) := by rw [eq, ← hcl]; rfl
    have i1 : 2 ≤ q.1 := by rw [e1]; omega
    have i2 : q.1 < 2 + (S : Int) := by rw [e1]; omega
    refine ⟨hjl, .inr (.inr ⟨i1, i2, m.ng, j, m.rn.length, _, e2, hng0, hjl, hc.1, hc.2.1⟩), fun f => ?_⟩
    rw [e2]
    exact logE_in i1 i2
  have hcount : ∀ (f : Int × Int → Bool) k, k ≤ m.rn.length → (wrs (nw.take k)).countP (logE S f) = (List.range k).countP fun j : Nat => f ((j : Int), ((m.rn.length : Nat) : Int)) := fun f k => by
    induction k with
    | zero => intro _; rfl
    | succ k ih =>
      intro hk
      obtain ⟨q, hq⟩ : ∃ q, nw[k]? = some q := ⟨_, List.getElem?_eq_getElem (by omega)⟩
      have e1 : nw.take (k + 1) = nw.take k ++ [q] := by rw [List.take_add_one, hq]; rfl
      have e2 : wrs (nw.take k ++ [q]) = wrs (nw.take k) ++ [.w q.1 q.2] := by unfold wrs; rw [List.map_append]; rfl
      rw [e1, e2, List.countP_append, ih (by omega), List.range_succ, List.countP_append, List.countP_cons, List.countP_cons, (hnw k q hq).2.2 f]
      rfl
  refine ⟨wrs nw, ⟨A.mn, A.mS, A.n60, A.S60, ?_, by rw [rpf, els]; rfl, ⟨g, t, zs, F, ws ++ [w], old, ?_⟩, by rw [edp]; exact T1, by rw [List.length_append, edp, List.length_append, A.hgl]; rfl, fun x hx => ?_, ?_, List.nodup_nil, fun c hc => (by cases hc), Nat.zero_le _, A.hp, A.hm, fun i hi => ?_, A.de, fun k hk i hi => ?_, ?_, fun x hx => ?_, fun _ => ?_, ?_, A.a0, fun e he => ?_, fun q hq => ?_, ?_, fun z => ?_⟩, by rw [wrs_len, nwl]; exact A.rnn, edp⟩
  · show m.evs ++ (List.range (sortC m.rn).length).map (fun j => wrD (lw m (sortC m.rn) j).1 (lw m (sortC m.rn) j).2) = _
    rw [A.ev, List.map_append, evs_wrs, enw, List.map_map]
    rfl
  · refine ⟨P.R, P.la, nx', sl', by rw [els, elog, P.ls], ?_, ?_, ?_, by rw [edp, sev_wrs]; exact en', fun e he => by rw [sev_wrs]; exact P.ol e he, hh'⟩
    · show m.zs ++ [(m.ng, m.ns, sortC m.rn)] = _
      rw [P.zz, ew, List.append_assoc]
    · show m.ng + 1 = _
      rw [P.ng, List.length_append, List.length_append, List.length_append]
      show _ = g + ((zs.length + (ws.length + 1) : Nat) : Int)
      omega
    · show m.ns + (sortC m.rn).length = _
      rw [P.ns, ← List.append_assoc, slotsN_app (zs ++ ws), hsw, hcl, Nat.add_assoc]
  · rw [edp] at hx
    rcases List.mem_append.mp hx with e | e
    · have := A.pe x e
      rw [el]
      omega
    · rw [List.mem_singleton.mp e]
      exact Int.le_refl _
  · have := A.pl
    rw [edp, List.length_append, el]
    show m.ps.length + 1 ≤ _
    omega
  · rw [edp, List.length_append]
    show (hg ++ [hs.getD (hs.length - 1) default]).getD (m.ps.length + 1) default i = _
    rw [← A.hgl, List.getD_eq_getElem?_getD, List.getElem?_append_right (Nat.le_refl _), Nat.sub_self]
    rfl
  · rw [edp, List.length_append] at hk
    have hk' : k ≤ m.ps.length + 1 := hk
    rw [edp]
    by_cases c : k ≤ m.ps.length
    · rw [List.getD_eq_getElem?_getD, List.getElem?_append_left (by rw [A.hgl]; omega), ← List.getD_eq_getElem?_getD, A.gs k c i hi, dof_app c]
    · have ek : k = m.ps.length + 1 := by omega
      rw [ek, dof_last, ← A.hgl, List.getD_eq_getElem?_getD, List.getElem?_append_right (Nat.le_refl _), Nat.sub_self]
      show hs.getD (hs.length - 1) default i = hs.getD m.de.toNat default i
      rw [A.de, Int.toNat_natCast]
  · rw [edp, List.map_append]
    refine List.pairwise_append.mpr ⟨A.dm, List.pairwise_singleton _ _, fun a ha b hb => ?_⟩
    obtain ⟨x, hx, rfl⟩ := List.mem_map.mp ha
    have : b = m.de := List.mem_singleton.mp hb
    rw [this, A.de]
    exact (A.db x hx).2
  · rw [edp] at hx
    rcases List.mem_append.mp hx with e | e
    · exact A.db x e
    · rw [List.mem_singleton.mp e]
      show 0 ≤ m.de ∧ m.de ≤ _
      rw [A.de]
      omega
  · rw [edp, show (m.ps ++ [(((es ++ wrs nw).length : Int), m.de)]).length = m.ps.length + 1 from List.length_append]
    rw [dof_last]
    show m.de.toNat = _
    rw [A.de, Int.toNat_natCast]
  · show m.se = _
    rw [sev_wrs, edp, gw_app (by show ((sev es : Nat) : Int) < (((es ++ wrs nw).length : Nat) : Int); rw [el]; omega), dof_app (gw_le _ _)]
    exact A.se
  · rcases List.mem_append.mp he with z | z
    · exact A.ek e z
    · obtain ⟨q, hq, rfl⟩ := wrs_mem z
      obtain ⟨j, hj⟩ := List.getElem?_of_mem hq
      exact (hnw j q hj).2.1
  · rw [edp]
    have hte := A.te es.length (Nat.le_refl _)
    rw [List.take_length, A.gwl (Nat.le_refl _)] at hte
    have hgw : ∀ e : Nat, gw (m.ps ++ [(((es ++ wrs nw).length : Int), m.de)]) e = gw m.ps e + if (es ++ wrs nw).length ≤ e then 1 else 0 := fun e => by
      unfold gw
      rw [List.countP_append, List.countP_cons, List.countP_nil]
      by_cases c : (es ++ wrs nw).length ≤ e
      · rw [if_pos c, decide_eq_true (show (((es ++ wrs nw).length : Nat) : Int) ≤ (e : Int) by omega)]
        rfl
      · rw [if_neg c, decide_eq_false (show ¬ (((es ++ wrs nw).length : Nat) : Int) ≤ (e : Int) by omega)]
        rfl
    rw [hgw]
    by_cases c : q ≤ es.length
    · rw [List.take_append_of_le_length c, A.te q c, if_neg (by omega)]
      rfl
    · rw [List.take_append, List.take_of_length_le (by omega), List.countP_append, hte, A.gwl (by omega), wrs_take]
      show _ + (wrs (nw.take (q - es.length))).countP (logE S _) = _
      rw [hcount _ _ (by omega)]
      congr 1
      have hrl : ∀ k, k ≤ m.rn.length → ((List.range k).countP fun j : Nat => decide (((j : Int)) + 1 = ((m.rn.length : Nat) : Int))) = if m.rn.length ≤ k then 1 else 0 := fun k => by
        induction k with
        | zero => intro _; rw [if_neg (by omega)]; rfl
        | succ k ih =>
          intro hk
          rw [List.range_succ, List.countP_append, ih (by omega), List.countP_cons, List.countP_nil, if_neg (by omega)]
          by_cases c2 : m.rn.length ≤ k + 1
          · rw [if_pos c2, decide_eq_true (by omega)]
            rfl
          · rw [if_neg c2, decide_eq_false (by omega)]
            rfl
      have h9 := hrl (q - es.length) (by omega)
      have e9 : (if m.rn.length ≤ q - es.length then 1 else 0) = if (es ++ wrs nw).length ≤ q then 1 else 0 := by
        by_cases c2 : m.rn.length ≤ q - es.length
        · rw [if_pos c2, if_pos (by omega)]
        · rw [if_neg c2, if_neg (by omega)]
      rw [← e9]
      exact h9
  · rw [edp, List.countP_append, A.tf, List.length_append]
    congr 1
    have h1 := hcount (fun x => decide (x.1 = 0)) m.rn.length (Nat.le_refl _)
    rw [List.take_of_length_le (by omega)] at h1
    have h2 : ∀ k, ((List.range (k + 1)).countP fun j : Nat => decide (((j : Int)) = 0)) = 1 := fun k => by
      induction k with
      | zero => rfl
      | succ k ih =>
        rw [List.range_succ, List.countP_append, ih, List.countP_cons, List.countP_nil, decide_eq_false (by omega)]
        rfl
    have h3 := h2 (m.rn.length - 1)
    rw [show m.rn.length - 1 + 1 = m.rn.length by omega] at h3
    exact h1.trans h3
  · show KeyN n (m.zs ++ [(m.ng, m.ns, sortC m.rn)])
    rw [P.zz, ← ew, List.append_assoc]
    exact hkz z
/-- pushing -/
theorem SI.push (A : SI n S ds0 m es hg hs) : ∃ xs ys ps', SI n S ds0 m.push (es ++ xs) (hg ++ ys) hs ∧ xs.length ≤ 2 * n + 4 ∧ m.push.ps = m.ps ++ ps' ∧ m.push.rn = [] := by
  suffices h : ∃ xs ys ps', SI n S ds0 m.push (es ++ xs) (hg ++ ys) hs ∧ xs.length ≤ 2 * n + 4 ∧ m.push.ps = m.ps ++ ps' by
    obtain ⟨xs, ys, ps', h1, h2, h3⟩ := h
    exact ⟨xs, ys, ps', h1, h2, h3, push_rn m⟩
  · unfold MD.push
    split
    · exact ⟨[], [], [], by rw [List.append_nil, List.append_nil]; exact A, Nat.zero_le _, (List.append_nil _).symm⟩
    · rename_i hne
      have hrn : m.rn ≠ [] := fun z => hne (by rw [z]; rfl)
      have hfr := room_fit m (by rw [A.mS]; exact A.rnl)
      obtain ⟨q1, q2, q3, q4⟩ := room_facts m
      have key : ∀ {m1 : MD} {es1 : List Ev}, m1 = m.room → SI n S ds0 m1 es1 hg hs → ∃ xs, SI n S ds0 m1.pushed (es1 ++ xs) (hg ++ [hs.getD (hs.length - 1) default]) hs ∧ xs.length ≤ n ∧ m1.pushed.ps = m1.ps ++ [(((es1 ++ xs).length : Int), m1.de)] := fun {m1 es1} e B => by
        rw [A.mS] at hfr
        refine B.log ?_ ?_
        · rw [e, q1]; exact hrn
        · rw [e, q1]; exact hfr
      unfold MD.room at key hfr ⊢
      split
      · rename_i hfit
        rw [if_pos hfit] at key
        obtain ⟨xs, B, hx, hp⟩ := key rfl A
        exact ⟨xs, _, _, B, by omega, hp⟩
      · rename_i hfit
        rw [if_neg hfit] at key
        obtain ⟨xl, L, hxl, hpl⟩ := A.lay
        obtain ⟨xs, B, hx, hp⟩ := key rfl L
        refine ⟨xl ++ xs, _, _, by rw [← List.append_assoc]; exact B, by rw [List.length_append]; omega, by rw [hp, hpl]⟩
theorem over_any : ∀ (xs cs : List Ch) (k : Int), ((overC cs xs).any fun t => decide (t.1 = k)) = ((cs.any fun t => decide (t.1 = k)) || xs.any fun t => decide (t.1 = k))
  | [], cs, k => by
    show (cs.any _) = (cs.any _ || false)
    rw [Bool.or_false]
  | c :: xs, cs, k => by
    show ((overC (putC cs c.1 c.2) xs).any _) = _
    rw [over_any xs]
    have hp : ((putC cs c.1 c.2).any fun t => decide (t.1 = k)) = ((cs.any fun t => decide (t.1 = k)) || decide (c.1 = k)) := by
      have hk := putC_keys cs c.1 c.2
      have e1 : ∀ ds : List Ch, (ds.any fun t => decide (t.1 = k)) = (ds.map (·.1)).any fun x => decide (x = k) := fun ds => by rw [List.any_map]; rfl
      rw [e1, hk]
      split
      · rename_i h
        rw [← e1]
        by_cases e : c.1 = k
        · rw [← e, h]
          rfl
        · rw [decide_eq_false e, Bool.or_false]
      · rw [List.any_append, ← e1, List.any_cons, List.any_nil, Bool.or_false]
    rw [hp, List.any_cons, Bool.or_assoc]
theorem over_nodup : ∀ (xs cs : List Ch), (cs.map (·.1)).Nodup → ((overC cs xs).map (·.1)).Nodup
  | [], _, h => h
  | c :: xs, cs, h => over_nodup xs _ (putC_nodup h)
theorem over_len : ∀ {xs cs : List Ch}, (xs.map (·.1)).Nodup → (overC cs xs).length = cs.length + (freshC cs xs).length
  | [], cs, _ => rfl
  | c :: xs, cs, hn => by
    have hn' : c.1 ∉ xs.map (·.1) ∧ (xs.map (·.1)).Nodup := List.nodup_cons.mp hn
    show (overC (putC cs c.1 c.2) xs).length = _
    rw [over_len hn'.2]
    have e1 : freshC (putC cs c.1 c.2) xs = freshC cs xs := by
      unfold freshC
      refine List.filter_congr fun x hx => ?_
      have := over_any [c] cs x.1
      have e2 : overC cs [c] = putC cs c.1 c.2 := rfl
      rw [e2] at this
      rw [this, List.any_cons, List.any_nil, Bool.or_false, decide_eq_false, Bool.or_false]
      intro z
      exact hn'.1 (List.mem_map.mpr ⟨x, hx, z.symm⟩)
    have e3 : (freshC cs (c :: xs)) = (if (cs.any fun t => decide (t.1 = c.1)) = true then [] else [c]) ++ freshC cs xs := by
      unfold freshC
      cases hb : (cs.any fun t => decide (t.1 = c.1))
      · rw [List.filter_cons_of_pos (by rw [hb]; rfl)]
        rfl
      · rw [List.filter_cons_of_neg (by rw [hb]; decide)]
        rfl
    rw [e1, e3, List.length_append]
    unfold putC
    split
    · rw [List.length_map]
      show cs.length + _ = cs.length + (0 + _)
      omega
    · rw [List.length_append]
      show cs.length + 1 + _ = cs.length + (1 + _)
      omega
theorem over_all {Pr : Ch → Prop} : ∀ {xs cs : List Ch}, (∀ c ∈ cs, Pr c) → (∀ c ∈ xs, Pr c) → ∀ c ∈ overC cs xs, Pr c
  | [], _, h, _ => h
  | x :: xs, cs, h, g => over_all (xs := xs) (putC_all h (g x List.mem_cons_self)) fun c hc => g c (List.mem_cons_of_mem _ hc)
theorem overV_put (k : Int) (l : List Int) (i : Int) (v : List Int) {cs : List Ch} (h : (cs.map (·.1)).Nodup) : overV (putC cs k l) i v = if i = k then l else overV cs i v := by
  rw [over_get (putC_nodup h), over_get h, getC_put]
  split
  · rfl
  · rfl
theorem overV_over : ∀ {xs cs : List Ch} {i : Int} {v : List Int}, (cs.map (·.1)).Nodup → overV (overC cs xs) i v = overV xs i (overV cs i v)
  | [], _, _, _, _ => rfl
  | c :: xs, cs, i, v, h => by
    show overV (overC (putC cs c.1 c.2) xs) i v = overV xs i (if c.1 = i then c.2 else overV cs i v)
    rw [overV_over (putC_nodup h), overV_put _ _ _ _ h]
    by_cases e : i = c.1
    · rw [if_pos e, if_pos e.symm]
    · rw [if_neg e, if_neg fun z => e z.symm]
/-- changes put over the running group -/
theorem SI.over (A : SI n S ds0 m es hg hs) {cs : List Ch} (hc : (cs.map (·.1)).Nodup) (hk : ∀ c ∈ cs, c.2.length = 8 ∧ 0 ≤ c.1 ∧ c.1 < (n : Int)) (h0 : 0 < cs.length) (hfit : m.rn.length + (freshC m.rn cs).length ≤ S) :
    SI n S ds0 (m.over cs) es hg (hs ++ [chF cs (hs.getD (hs.length - 1) default)]) := by
  have hp := A.hp
  have hl : (hs ++ [chF cs (hs.getD (hs.length - 1) default)]).length - 1 = hs.length := by rw [List.length_append]; rfl
  have hlast : (hs ++ [chF cs (hs.getD (hs.length - 1) default)]).getD hs.length default = chF cs (hs.getD (hs.length - 1) default) := by
    rw [List.getD_eq_getElem?_getD, List.getElem?_append_right (Nat.le_refl _), Nat.sub_self]
    rfl
  have hne : m.rn = [] → overC m.rn cs ≠ [] := fun _ z => by
    have h1 := over_len (cs := m.rn) hc
    rw [z] at h1
    have h2 : ([] : List Ch).length = 0 := rfl
    cases cs with
    | nil => simp at h0
    | cons c cs =>
      have h3 := over_any (c :: cs) m.rn c.1
      rw [z, List.any_nil, List.any_cons, decide_eq_true rfl, Bool.true_or, Bool.or_true] at h3
      cases h3
  have hne2 : overC m.rn cs ≠ [] := fun z => by
    by_cases c : m.rn = []
    · exact hne c z
    · have h1 := over_len (cs := m.rn) hc
      rw [z] at h1
      have h2 : ([] : List Ch).length = 0 := rfl
      have := List.length_pos_iff.mpr c
      omega
  refine ⟨A.mn, A.mS, A.n60, A.S60, A.ev, A.rp, ?_, A.tr, A.hgl, A.pe, A.pl, over_nodup _ _ A.rnd, over_all A.rnk hk, by show (overC m.rn cs).length ≤ S; rw [over_len hc]; exact hfit, by rw [List.length_append]; exact Nat.succ_pos _, ?_, fun i hi => ?_, ?_, fun k hk i hi => ?_, A.dm, fun x hx => ?_, fun z => absurd z hne2, A.se, A.a0, A.ek, A.te, A.tf, A.zk⟩
  · obtain ⟨g, t, zs, F, ws, old, P⟩ := A.ph
    exact ⟨g, t, zs, F, ws, old, ⟨P.R, P.la, P.nx, P.sl, P.ls, P.zz, P.ng, P.ns, P.en, P.ol, P.hh⟩⟩
  · show overC m.hm cs = _
    rw [hl, hlast, A.hm, over_canon _ _ fun c hc => (hk c hc).2]
  · rw [hl, hlast]
    show overV (overC m.rn cs) i _ = overV cs i _
    rw [overV_over A.rnd]
    exact congrArg _ (A.ho i hi)
  · show m.de + 1 = _
    rw [hl, A.de]
    omega
  · have hk' : k ≤ m.ps.length := hk
    rw [A.gs k hk' i hi]
    have hb : dof m.ps k ≤ hs.length - 1 := by
      unfold dof
      by_cases c : k = 0
      · rw [if_pos c]; omega
      · rw [if_neg c, List.getD_eq_getElem?_getD, List.getElem?_eq_getElem (by omega)]
        have := A.db _ (List.getElem_mem (show k - 1 < m.ps.length by omega))
        show (m.ps[k - 1]).2.toNat ≤ _
        omega
    show _ = (hs ++ _).getD (dof m.ps k) default i
    rw [List.getD_eq_getElem?_getD (l := hs ++ _), List.getElem?_append_left (by omega), ← List.getD_eq_getElem?_getD]
  · have := A.db x hx
    rw [hl]
    omega
end
end Pf

set_option Elab.async false
set_option linter.all false
set_option maxRecDepth 100000
set_option maxHeartbeats 2000000
namespace Pf
open PySem PySem.Spec PyProof.Rows L2
section
variable {n S : Nat} {ds0 : List PyData} {m : MD} {es : List Ev} {hg hs : List HF}
/-- a sync -/
theorem SI.sync (A : SI n S ds0 m es hg hs) : ∃ xs ys ps', SI n S ds0 m.push.barrier (es ++ xs) (hg ++ ys) hs ∧ xs.length ≤ 2 * n + 5 ∧ m.push.barrier.ps = m.ps ++ ps' ∧ sev (es ++ xs) = (es ++ xs).length ∧ dof m.push.barrier.ps m.push.barrier.ps.length = hs.length - 1 := by
  obtain ⟨xs, ys, ps', B, hx, hp, hr⟩ := A.push
  have C := B.bar
  refine ⟨xs ++ [Ev.b], ys, ps', by rw [← List.append_assoc]; exact C, by rw [List.length_append]; show xs.length + 1 ≤ _; omega, hp, ?_, C.r0 hr⟩
  rw [← List.append_assoc, sev_b, List.length_append (as := es ++ xs)]
  rfl
theorem freshC_nil (cs : List Ch) : freshC [] cs = cs := by
  unfold freshC
  exact List.filter_eq_self.mpr fun c _ => rfl
/-- a deed -/
theorem SI.put (A : SI n S ds0 m es hg hs) {cs : List Ch} (hc : (cs.map (·.1)).Nodup) (hk : ∀ c ∈ cs, c.2.length = 8 ∧ 0 ≤ c.1 ∧ c.1 < (n : Int)) (hl : cs.length ≤ S) :
    ∃ xs ys ps', SI n S ds0 (m.put cs) (es ++ xs) (hg ++ ys) (if cs.length = 0 then hs else hs ++ [chF cs (hs.getD (hs.length - 1) default)]) ∧ xs.length ≤ 2 * n + 4 ∧ (m.put cs).ps = m.ps ++ ps' := by
  unfold MD.put
  by_cases h0 : cs.length = 0
  · rw [if_pos h0, if_pos h0]
    exact ⟨[], [], [], by rw [List.append_nil, List.append_nil]; exact A, Nat.zero_le _, (List.append_nil _).symm⟩
  · rw [if_neg h0, if_neg h0]
    unfold MD.fit
    by_cases hf : m.rn.length + (freshC m.rn cs).length ≤ m.S
    · rw [if_pos hf]
      rw [A.mS] at hf
      exact ⟨[], [], [], by rw [List.append_nil, List.append_nil]; exact A.over hc hk (by omega) hf, Nat.zero_le _, (List.append_nil _).symm⟩
    · rw [if_neg hf]
      obtain ⟨xs, ys, ps', B, hx, hp, hr⟩ := A.push
      exact ⟨xs, ys, ps', B.over hc hk (by omega) (by rw [hr, freshC_nil]; show 0 + _ ≤ S; omega), hx, hp⟩
theorem dof_mono (A : SI n S ds0 m es hg hs) {j k : Nat} (h : j ≤ k) (hk : k ≤ m.ps.length) : dof m.ps j ≤ dof m.ps k := by
  unfold dof
  by_cases c : j = 0
  · rw [if_pos c]; exact Nat.zero_le _
  · rw [if_neg c, if_neg (by omega)]
    by_cases e : j = k
    · rw [e]; exact Nat.le_refl _
    · have := List.pairwise_iff_getElem.mp A.dm (j - 1) (k - 1) (by rw [List.length_map]; omega) (by rw [List.length_map]; omega) (by omega)
      rw [List.getElem_map, List.getElem_map] at this
      rw [List.getD_eq_getElem?_getD, List.getD_eq_getElem?_getD, List.getElem?_eq_getElem (by omega), List.getElem?_eq_getElem (by omega)]
      show (m.ps[j - 1]).2.toNat ≤ (m.ps[k - 1]).2.toNat
      omega
theorem dof_le (A : SI n S ds0 m es hg hs) {k : Nat} (hk : k ≤ m.ps.length) : dof m.ps k ≤ hs.length - 1 := by
  unfold dof
  by_cases c : k = 0
  · rw [if_pos c]; exact Nat.zero_le _
  · rw [if_neg c, List.getD_eq_getElem?_getD, List.getElem?_eq_getElem (by omega)]
    have := A.db _ (List.getElem_mem (show k - 1 < m.ps.length by omega))
    show (m.ps[k - 1]).2.toNat ≤ _
    omega
theorem gw_mono (ps : List (Int × Int)) {e f : Nat} (h : e ≤ f) : gw ps e ≤ gw ps f := by
  unfold gw
  exact List.countP_mono_left fun x _ z => decide_eq_true (by have := of_decide_eq_true z; omega)
/-- what comes up behind a fall -/
theorem SI.fall (A : SI n S ds0 m es hg hs) {q : Nat} (hq : q ≤ es.length) {ch : Int → Int} {fs : List PyData} (f : FallD (rep ds0 [] (es.take q)).1 (rep ds0 [] (es.take q)).2 ch fs) :
    ∃ a g t zs, RG n S fs a g t zs (hs.getD (dof m.ps (gw m.ps (sev (es.take q) + fb (rep ds0 [] (es.take q)).2 ch))) default) := by
  obtain ⟨a, g, t, zs, _, R⟩ := (A.tr q hq).2.2.1 ch fs f
  exact ⟨a, g, t, zs, R.congr fun i hi => A.gs _ (gw_le _ _) i hi⟩
/-- the same, the groups being of home plates alone -/
theorem SI.fallK (A : SI n S ds0 m es hg hs) {q : Nat} (hq : q ≤ es.length) {ch : Int → Int} {fs : List PyData} (f : FallD (rep ds0 [] (es.take q)).1 (rep ds0 [] (es.take q)).2 ch fs) (hk : kn0 n S ds0) :
    ∃ a g t zs, KeyN n zs ∧ RG n S fs a g t zs (hs.getD (dof m.ps (gw m.ps (sev (es.take q) + fb (rep ds0 [] (es.take q)).2 ch))) default) := by
  obtain ⟨a, g, t, zs, ⟨_, h⟩, R⟩ := (A.tr q hq).2.2.1 ch fs f
  exact ⟨a, g, t, zs, h hk, R.congr fun i hi => A.gs _ (gw_le _ _) i hi⟩
/-- the same, the head's number never below that of the beginning -/
theorem SI.fallA (A : SI n S ds0 m es hg hs) {q : Nat} (hq : q ≤ es.length) {ch : Int → Int} {fs : List PyData} (f : FallD (rep ds0 [] (es.take q)).1 (rep ds0 [] (es.take q)).2 ch fs) :
    ∃ a g t zs, Pf.hd0 ds0 ≤ a ∧ RG n S fs a g t zs (hs.getD (dof m.ps (gw m.ps (sev (es.take q) + fb (rep ds0 [] (es.take q)).2 ch))) default) := by
  obtain ⟨a, g, t, zs, ⟨h, _⟩, R⟩ := (A.tr q hq).2.2.1 ch fs f
  exact ⟨a, g, t, zs, h, R.congr fun i hi => A.gs _ (gw_le _ _) i hi⟩
theorem SI.loose (A : SI n S ds0 m es hg hs) {q : Nat} (hq : q ≤ es.length) : ((rep ds0 [] (es.take q)).2.map (·.1)).Nodup ∧ (∀ x ∈ (rep ds0 [] (es.take q)).2, 0 ≤ x.1 ∧ x.1 < ((rep ds0 [] (es.take q)).1.length : Int)) := ⟨(A.tr q hq).1, (A.tr q hq).2.1⟩
end
theorem ng_init (bg : V) (n S : Nat) (ds : List PyData) (a g : Int) (t : Nat) : lastI (ringD S ds) < (initM bg n S ds a g t).ng := by
  show lastI (ringD S ds) < if lastI (ringD S ds) + 1 > g then lastI (ringD S ds) + 1 else g
  split <;> omega
/-- what is opened -/
theorem SI.open' {n S : Nat} {ds : List PyData} {a g : Int} {t : Nat} {zs : List Gr} {F : HF} (bg : V) (R : RG n S ds a g t zs F) (n60 : n ≤ 60) (S60 : S ≤ 60) :
    OKW (initM bg n S ds a g t) ∧ ∃ xs, SI n S ds (initM bg n S ds a g t).bring xs [F] [F] ∧ xs.length ≤ n + 3 ∧ (initM bg n S ds a g t).bring.ps = [] ∧ (initM bg n S ds a g t).bring.hm = canonC n F := by
  have hz : (initM bg n S ds a g t).zs = zs := R.rd
  have hh : (initM bg n S ds a g t).hm = canonC n F := by
    show homeC (fun i => ds.getD (2 + S + i) .none) n (rgs (ringD S ds) S (S + 1) 0 t g) = _
    rw [R.rd, home_canon _ _ _ R.keys]
    exact canon_congr R.hF
  have sl := R.sl
  refine ⟨⟨R.len, R.S0, S60, n60, fun q hq => (by cases hq), Nat.zero_le _, ?_, ?_⟩, ?_⟩
  · rw [hz]; exact R.keys
  · rw [hz]; omega
  · obtain ⟨xs, A, hx, hp, _⟩ := bring_mk (n := n) (S := S) (m := initM bg n S ds a g t) (ds0 := ds) (es := []) (hg := [F]) (hs := [F]) F g t rfl rfl n60 S60 rfl rfl rfl (by rw [hz]; exact R) (ng_init bg n S ds a g t) rfl
      (fun q hq => by
        have hq0 : q = 0 := by simpa using hq
        subst hq0
        have := tq_home (ps := []) (hg := [F]) (s := 0) (k := 0) R (fun x hx => (by cases hx)) (fun i _ => rfl) (Int.le_of_eq R.hd0) R.kn.mp
        rw [List.take_zero] at this
        exact this) rfl (fun x hx => (by cases hx)) (Nat.le_refl _) List.nodup_nil (fun c hc => (by cases hc)) (Nat.zero_le _) (by show 0 < 1; decide) hh (fun i _ => rfl) rfl (fun k hk i hi => by
        have hk0 : k = 0 := Nat.le_zero.mp hk
        subst hk0
        rfl) List.Pairwise.nil (fun x hx => (by cases hx)) (fun _ => rfl) (fun _ => rfl) (fun i _ => rfl) (Int.le_of_eq R.hd0) (fun e he => (by cases he)) (fun q hq => by
        have hq0 : q = 0 := by simpa using hq
        subst hq0
        rfl) rfl (fun z => by rw [hz]; exact R.kn.mp z)
    exact ⟨xs, A, hx, hp, hh⟩
/-! ### a fresh disk -/
theorem lsF_nodup {S : Nat} {cs : List Ch} (hc : (cs.map (·.1)).Nodup) (h0 : ∀ c ∈ cs, 0 ≤ c.1) : ((lsF S cs).map (·.1)).Nodup := by
  refine List.nodup_cons.mpr ⟨fun z => ?_, hm_nodup hc⟩
  obtain ⟨q, hq, e⟩ := List.mem_map.mp z
  obtain ⟨c, hc', e2⟩ := List.mem_map.mp hq
  have := h0 c hc'
  rw [← e2] at e
  have e' : 2 + (S : Int) + c.1 = 0 := e
  omega
theorem dsF_RG {n S : Nat} {cs : List Ch} {F : HF} (hS : 0 < S) (hc : (cs.map (·.1)).Nodup) (h0 : ∀ c ∈ cs, c.2.length = 8 ∧ 0 ≤ c.1 ∧ c.1 < (n : Int)) (hF : ∀ i < n, ((i : Int), F i) ∈ cs) : RG n S (dsF n S cs) 0 0 0 [] F ∧ lastI (ringD S (dsF n S cs)) = -1 := by
  have nd := lsF_nodup (S := S) hc fun c hc => (h0 c hc).2.1
  have hq : ∀ q ∈ lsF S cs, 0 ≤ q.1 := fun q hq => by
    rcases List.mem_cons.mp (show q ∈ (0, rowD [0, 0, 0]) :: hmL S cs from hq) with z | z
    · rw [z]; exact Int.le_refl _
    · obtain ⟨c, hc', e2⟩ := List.mem_map.mp z
      have := (h0 c hc').2.1
      rw [← e2]
      show 0 ≤ 2 + (S : Int) + c.1
      omega
  have f := settle_fall (ds := List.replicate (2 + S + n) (.tuple [])) nd hq
  have len : (dsF n S cs).length = 2 + S + n := by unfold dsF; rw [settleD_len, List.length_replicate]
  have hr : ∀ p, p < 2 + S + n → (List.replicate (2 + S + n) (PyData.tuple [])).getD p .none = .tuple [] := fun p hp => by
    rw [List.getD_eq_getElem?_getD, List.getElem?_replicate, if_pos hp]
    rfl
  have out : ∀ p : Nat, 0 < p → p < 2 + S → (dsF n S cs).getD p .none = .tuple [] := fun p hp hp2 => by
    rw [← hr p (by omega)]
    refine f.same fun z => ?_
    rcases List.mem_cons.mp (show (p : Int) ∈ (0 : Int) :: (hmL S cs).map (·.1) from z) with y | y
    · omega
    · obtain ⟨q, hq, e⟩ := List.mem_map.mp y
      obtain ⟨c, hc', e2⟩ := List.mem_map.mp hq
      have := (h0 c hc').2.1
      rw [← e2] at e
      have e' : 2 + (S : Int) + c.1 = (p : Int) := e
      omega
  have h00 : (dsF n S cs).getD 0 .none = rowD [0, 0, ((0 : Nat) : Int)] :=
    (f.one nd (q := (0, rowD [0, 0, 0])) List.mem_cons_self (p := 0) rfl (by rw [List.length_replicate]; omega)).1 (all_one (q := (0, rowD [0, 0, 0])) List.mem_cons_self)
  have ringv : ∀ s, s < S → (ringD S (dsF n S cs)).getD s .none = .tuple [] := fun s hs => by rw [ring_at hs]; exact out _ (by omega) (by omega)
  have hla : lastI (ringD S (dsF n S cs)) = -1 := by
    have h1 : lastI (ringD S (dsF n S cs)) < 0 := last_lt.mpr ⟨by decide, fun v hv l hl => by
      obtain ⟨s, hs, rfl⟩ := ring_mem hv
      rw [out _ (by omega) (by omega)] at hl
      cases hl⟩
    have h3 : ¬ lastI (ringD S (dsF n S cs)) < -1 := fun z => absurd (last_lt.mp z).1 (by decide)
    omega
  refine ⟨⟨len, hS, Int.le_refl _, Int.le_refl _, h00, fun z => ?_, ?_, fun i hi => ?_⟩, hla⟩
  · have e1 : (dsF n S cs).getD ((0 + 1 : Int) % 2).toNat .none = .tuple [] := out 1 (by omega) (by omega)
    rw [e1] at z
    have : headB ((0 + 1 : Int) % 2) (.tuple []) = false := rfl
    rw [this] at z
    cases z
  · show (match wg (ringD S (dsF n S cs)) S 0 0 with | none => [] | some cs' => if 0 + cs'.length ≤ S then ((0 : Int), (0 : Nat), cs') :: rgs (ringD S (dsF n S cs)) S S (0 + cs'.length) (0 + cs'.length) (0 + 1) else []) = []
    cases ew : wg (ringD S (dsF n S cs)) S 0 0 with
    | none => rfl
    | some cs' =>
      obtain ⟨l, e1, e2⟩ := wg_num ew
      rw [Nat.zero_mod, ringv 0 hS] at e1
      cases e1
  · have hm := hF i hi
    have hq2 : (2 + (S : Int) + (i : Int), rowD (F i)) ∈ lsF S cs := List.mem_cons_of_mem _ (List.mem_map.mpr ⟨_, hm, rfl⟩)
    have h1 := (f.one nd hq2 (p := 2 + S + i) (by show 2 + (S : Int) + (i : Int) = _; omega) (by rw [List.length_replicate]; omega)).1 (by
      have := all_one hq2
      have e3 : ((2 + S + i : Nat) : Int) = 2 + (S : Int) + (i : Int) := by omega
      rw [e3]
      exact this)
    show cellsOf ((dsF n S cs).getD (2 + S + i) .none) = F i
    have e4 : (dsF n S cs).getD (2 + S + i) .none = rowD (F i) := h1
    rw [e4]
    unfold cellsOf
    rw [row_cells (h0 _ hm).1, if_pos rfl, hdN_row]
/-- a fresh store -/
theorem SI.fresh {n S : Nat} {cs : List Ch} {F : HF} (bg : V) (n60 : n ≤ 60) (S60 : S ≤ 60) (hS : 0 < S) (hc : (cs.map (·.1)).Nodup) (h0 : ∀ c ∈ cs, c.2.length = 8 ∧ 0 ≤ c.1 ∧ c.1 < (n : Int)) (hF : ∀ i < n, ((i : Int), F i) ∈ cs) :
    SI n S (dsF n S cs) (initM bg n S (dsF n S cs) 0 0 0) [] [F] [F] ∧ readH ((dsF n S cs).getD 0 .none) ((dsF n S cs).getD 1 .none) = some [0, 0, ((0 : Nat) : Int)] := by
  obtain ⟨R, hla⟩ := dsF_RG hS hc h0 hF
  have hz : (initM bg n S (dsF n S cs) 0 0 0).zs = [] := R.rd
  have hh : (initM bg n S (dsF n S cs) 0 0 0).hm = canonC n F := by
    show homeC (fun i => (dsF n S cs).getD (2 + S + i) .none) n (rgs (ringD S (dsF n S cs)) S (S + 1) 0 0 0) = _
    rw [R.rd, home_canon _ _ _ R.keys]
    exact canon_congr R.hF
  refine ⟨⟨rfl, rfl, n60, S60, rfl, rfl, ⟨0, 0, [], F, [], [], ?_⟩, fun q hq => ?_, rfl, fun x hx => (by cases hx), Nat.le_refl _, List.nodup_nil, fun c hc => (by cases hc), Nat.zero_le _, by show 0 < 1; decide, hh, fun i _ => rfl, rfl, fun k hk i hi => ?_, List.Pairwise.nil, fun x hx => (by cases hx), fun _ => rfl, rfl, Int.le_of_eq R.hd0, fun e he => (by cases he), fun q hq => by
    have hq0 : q = 0 := by simpa using hq
    subst hq0
    rfl, rfl, fun _ => by rw [hz]; exact fun _ h => by cases h⟩, R.read⟩
  · refine ⟨R, by show lastI (ringD S (dsF n S cs)) < 0 + 0; rw [hla]; decide, trivial, Nat.zero_le _, rfl, hz, ?_, ?_, rfl, fun e he => (by cases he), fun j hj i hi => ?_⟩
    · show (if lastI (ringD S (dsF n S cs)) + 1 > 0 then lastI (ringD S (dsF n S cs)) + 1 else 0) = 0 + 0
      rw [hla]
      rfl
    · show 0 + slotsN (rgs (ringD S (dsF n S cs)) S (S + 1) 0 0 0) = 0 + 0
      rw [R.rd]
      rfl
    · have hj0 : j = 0 := by simpa using hj
      subst hj0
      rfl
  · have hq0 : q = 0 := by simpa using hq
    subst hq0
    have := tq_home (ps := []) (hg := [F]) (s := 0) (k := 0) R (fun x hx => (by cases hx)) (fun i _ => rfl) (Int.le_of_eq R.hd0) R.kn.mp
    rw [List.take_zero] at this
    exact this
  · have hk0 : k = 0 := Nat.le_zero.mp hk
    subst hk0
    rfl
end Pf

set_option Elab.async false
set_option linter.all false
set_option maxRecDepth 100000
set_option maxHeartbeats 4000000
namespace Pf
open PySem PySem.Spec PyProof.Rows L2
structure Df (P : Program) (w : World) (K : PySem.W.Frag) (mg : Str → Option Value) (base : Heap) (CX : CXT) (k : Nat) (x : Str) (ps : List Str) (sp : Sp) (f : Addr) (fd : FuncData) : Prop where
  G : FnOk P w K mg base CX k f fd ps sp
  kp : PySem.W.keepIn K (.ref f) = true
  g : mg x = some (.ref f)
  b : Binds K fd ps []
structure Me (P : Program) (w : World) (K : PySem.W.Frag) (mg : Str → Option Value) (base : Heap) (k : Nat) (C : Addr) (x : Str) (ps : List Str) (sp : Sp) (f : Addr) (fd : FuncData) : Prop where
  G : FnOk P w K mg base CX0 k f fd ps sp
  m : Meth K C x f
  b : Binds K fd ps []
/-! ### falls, as values and as data -/
theorem late_dp {K : PySem.W.Frag} {G : Hp} : ∀ {lv : List (Int × V)} {ls : Lw} {p : Int}, LvD K G lv ls → DpAll K G (lateV lv p) (lateD ls p)
  | [], [], p, _ => .nil
  | [], q :: ls, p, h => by have := h.1; simp at this
  | q :: lv, [], p, h => by have := h.1; simp at this
  | (a, v) :: lv, (b, e) :: ls, p, h => by
    obtain ⟨h1, h2⟩ := h
    rw [List.map_cons, List.map_cons] at h1 h2
    have e1 : a = b := (List.cons.inj h1).1
    subst e1
    cases h2 with
    | cons g1 g2 =>
      have ih := late_dp (lv := lv) (ls := ls) (p := p) ⟨(List.cons.inj h1).2, g2⟩
      unfold lateV lateD at ih ⊢
      by_cases c : a = p
      · rw [List.filter_cons_of_pos (by simpa using c), List.filter_cons_of_pos (by simpa using c)]
        exact .cons g1 ih
      · rw [List.filter_cons_of_neg (by simpa using c), List.filter_cons_of_neg (by simpa using c)]
        exact ih
theorem vers_dp {K : PySem.W.Frag} {G : Hp} {sv : List V} {ds : List PyData} {lv : List (Int × V)} {ls : Lw} {p : Int} (h : LvD K G lv ls) (g : DpAll K G sv ds) (h0 : 0 ≤ p) (h1 : p < (ds.length : Nat)) : DpAll K G (versV sv lv p) (versD ds ls p) := by
  have hl := late_dp (p := p) h
  have hll := dps_len hl
  have h2 := dget g (show p.toNat < ds.length by omega)
  unfold versV versD
  rw [hll]
  split
  · exact .cons h2 .nil
  · exact .cons h2 (dps_app hl (.cons .non .nil))
def chooseD (ls : Lw) (p m : Int) : Bool := decide (loI (lateD ls p).length ≤ m) && decide (m ≤ ((lateD ls p).length : Nat))
theorem choose_dp {K : PySem.W.Frag} {G : Hp} {lv : List (Int × V)} {ls : Lw} {p m : Int} (h : LvD K G lv ls) : chooseB lv p m = chooseD ls p m := by
  unfold chooseB chooseD
  rw [dps_len (late_dp (p := p) h)]
theorem choose_in {ls : Lw} {p m : Int} (h : chooseD ls p m = true) : -1 ≤ m ∧ m ≤ (lateD ls p).length ∧ (lateD ls p = [] → m = 0) := by
  have h' : (decide (loI (lateD ls p).length ≤ m) && decide (m ≤ ((lateD ls p).length : Nat))) = true := h
  rw [Bool.and_eq_true] at h'
  have h1 := of_decide_eq_true h'.1
  have h2 := of_decide_eq_true h'.2
  unfold loI at h1
  refine ⟨?_, h2, fun z => ?_⟩
  · split at h1 <;> omega
  · rw [z] at h1 h2
    have : (([] : List PyData).length : Nat) = 0 := rfl
    rw [if_neg (by omega)] at h1
    omega
theorem pick_dp {K : PySem.W.Frag} {G : Hp} {sv : List V} {ds : List PyData} {lv : List (Int × V)} {ls : Lw} {p m : Int} (h : LvD K G lv ls) (g : DpAll K G sv ds) (h0 : 0 ≤ p) (h1 : p < (ds.length : Nat)) (hc : chooseD ls p m = true) : Dp K G (pickV (versV sv lv p) m) (pickD (versD ds ls p) m) := by
  have hv := vers_dp h g h0 h1
  have hat := choose_at (sv := sv) (lv := lv) (p := p) (m := m) (by rw [choose_dp h]; exact hc)
  obtain ⟨m0, m1, m2⟩ := choose_in hc
  have hl := vers_len sv lv p
  have hll := dps_len (late_dp (p := p) h)
  unfold pickD
  by_cases hm : 0 ≤ m
  · rw [if_pos hm]
    have hlt : m.toNat < (versD ds ls p).length := by
      rw [← dps_len hv, hl]
      split <;> omega
    have := dget hv hlt
    have e : pickV (versV sv lv p) m = (versV sv lv p).getD m.toNat .non := by
      unfold pickV atI ixN
      rw [if_pos hm, if_pos (by have := dps_len hv; omega)]
      show ((versV sv lv p)[m.toNat]?).getD .non = _
      rw [List.getD_eq_getElem?_getD]
    rw [e]
    exact this
  · rw [if_neg hm]
    have hne : ¬ (lateV lv p).length = 0 := fun z => by
      rw [hll] at z
      have := m2 (List.eq_nil_of_length_eq_zero z)
      omega
    have e : pickV (versV sv lv p) m = .non := by
      have em : m = -1 := by omega
      subst em
      unfold pickV atI ixN
      rw [if_neg hm, if_pos (by rw [hl, if_neg hne]; omega)]
      show ((versV sv lv p)[((-1 : Int) + ((versV sv lv p).length : Nat)).toNat]?).getD .non = _
      have e2 : versV sv lv p = (sv.getD p.toNat .non :: lateV lv p) ++ [.non] := by
        unfold versV
        rw [if_neg hne]
        rfl
      rw [e2, List.length_append, List.length_cons]
      have e3 : ((-1 : Int) + (((lateV lv p).length + 1 + [V.non].length : Nat) : Int)).toNat = (lateV lv p).length + 1 := by
        show ((-1 : Int) + (((lateV lv p).length + 1 + 1 : Nat) : Int)).toNat = _
        omega
      rw [e3, List.getElem?_append_right (by rw [List.length_cons]; exact Nat.le_refl _), List.length_cons, Nat.sub_self]
      rfl
    rw [e]
    exact .non
def fallC (ds : List PyData) (ls : Lw) (cs : List (Int × Int)) : List PyData := cs.foldl (fun s c => s.set c.1.toNat (pickD (versD ds ls c.1) c.2)) ds
def chOf (cs : List (Int × Int)) (p : Int) : Int := ((cs.find? fun c => decide (c.1 = p)).map (·.2)).getD 0
theorem fall_dp {K : PySem.W.Frag} {G : Hp} {sv : List V} {ds : List PyData} {lv : List (Int × V)} {ls : Lw} (h : LvD K G lv ls) (g : DpAll K G sv ds) {cs : List (Int × Int)} (hc : ∀ c ∈ cs, 0 ≤ c.1 ∧ c.1 < ((ds.length : Nat) : Int) ∧ chooseD ls c.1 c.2 = true) : DpAll K G (fallV sv lv cs) (fallC ds ls cs) := by
  unfold fallV fallC
  suffices go : ∀ (s : List V) (e : List PyData), DpAll K G s e → DpAll K G (cs.foldl (fun s c => s.set c.1.toNat (pickV (versV sv lv c.1) c.2)) s) (cs.foldl (fun s c => s.set c.1.toNat (pickD (versD ds ls c.1) c.2)) e) from go sv ds g
  induction cs with
  | nil => intro s e h; exact h
  | cons c cs ih =>
    intro s e he
    obtain ⟨c0, c1, c2⟩ := hc c List.mem_cons_self
    exact ih (fun x hx => hc x (List.mem_cons_of_mem _ hx)) _ _ (dps_set _ he (pick_dp h g c0 c1 c2))
theorem chOf_cons (c : Int × Int) (cs : List (Int × Int)) (p : Int) : chOf (c :: cs) p = if c.1 = p then c.2 else chOf cs p := by
  unfold chOf
  by_cases e : c.1 = p
  · simp [List.find?_cons, e]
  · simp [List.find?_cons, e]
theorem chOf_no {cs : List (Int × Int)} {p : Int} (h : p ∉ cs.map (·.1)) : chOf cs p = 0 := by
  unfold chOf
  rw [List.find?_eq_none.mpr fun c hc z => h (List.mem_map.mpr ⟨c, hc, of_decide_eq_true z⟩)]
  rfl
theorem chOf_mem : ∀ {cs : List (Int × Int)} {c : Int × Int}, (cs.map (·.1)).Nodup → c ∈ cs → chOf cs c.1 = c.2
  | x :: cs, c, hn, h => by
    have hn' : x.1 ∉ cs.map (·.1) ∧ (cs.map (·.1)).Nodup := List.nodup_cons.mp hn
    rw [chOf_cons]
    rcases List.mem_cons.mp h with z | z
    · rw [z, if_pos rfl]
    · rw [if_neg fun e => hn'.1 (by rw [e]; exact List.mem_map.mpr ⟨c, z, rfl⟩)]
      exact chOf_mem hn'.2 z
theorem fall_is {ds : List PyData} {ls : Lw} {cs : List (Int × Int)} (hn : (cs.map (·.1)).Nodup) (hc : ∀ c ∈ cs, 0 ≤ c.1 ∧ c.1 < ((ds.length : Nat) : Int) ∧ chooseD ls c.1 c.2 = true) : FallD ds ls (chOf cs) (fallC ds ls cs) := by
  have len : ∀ (cs : List (Int × Int)) (e : List PyData), (cs.foldl (fun s c => s.set c.1.toNat (pickD (versD ds ls c.1) c.2)) e).length = e.length := by
    intro cs
    induction cs with
    | nil => intro e; rfl
    | cons c cs ih => intro e; rw [List.foldl_cons, ih, List.length_set]
  have get : ∀ (cs : List (Int × Int)), (cs.map (·.1)).Nodup → (∀ c ∈ cs, 0 ≤ c.1) → ∀ (e : List PyData) (p : Nat), p < e.length → (cs.foldl (fun s c => s.set c.1.toNat (pickD (versD ds ls c.1) c.2)) e).getD p .none = if (p : Int) ∈ cs.map (·.1) then pickD (versD ds ls p) (chOf cs p) else e.getD p .none := by
    intro cs
    induction cs with
    | nil => intro _ _ e p hp; rfl
    | cons c cs ih =>
      intro hn h0 e p hp
      have hn' : c.1 ∉ cs.map (·.1) ∧ (cs.map (·.1)).Nodup := List.nodup_cons.mp hn
      have hc0 := h0 c List.mem_cons_self
      rw [List.foldl_cons, ih hn'.2 (fun x hx => h0 x (List.mem_cons_of_mem _ hx)) _ p (by rw [List.length_set]; exact hp), chOf_cons]
      by_cases e1 : c.1 = (p : Int)
      · have h1 : (p : Int) ∉ cs.map (·.1) := by rw [← e1]; exact hn'.1
        rw [if_neg h1, if_pos (by rw [List.map_cons, e1]; exact List.mem_cons_self), if_pos e1]
        have : c.1.toNat = p := by omega
        rw [this, List.getD_eq_getElem?_getD, List.getElem?_set_self hp, e1]
        rfl
      · rw [if_neg e1]
        have : c.1.toNat ≠ p := by omega
        have e3 : (e.set c.1.toNat (pickD (versD ds ls c.1) c.2)).getD p .none = e.getD p .none := by
          rw [List.getD_eq_getElem?_getD, List.getD_eq_getElem?_getD, List.getElem?_set_ne this]
        rw [e3]
        by_cases h1 : (p : Int) ∈ cs.map (·.1)
        · rw [if_pos h1, if_pos (show (p : Int) ∈ (c :: cs).map (·.1) from List.mem_cons_of_mem _ h1)]
        · rw [if_neg h1, if_neg (show ¬ (p : Int) ∈ (c :: cs).map (·.1) from fun z => (List.mem_cons.mp z).elim (fun y => e1 y.symm) h1)]
  have val : ∀ p : Nat, p < ds.length → (p : Int) ∈ cs.map (·.1) → chooseD ls p (chOf cs p) = true := fun p hp h => by
    obtain ⟨c, hcm, e⟩ := List.mem_map.mp h
    have := (hc c hcm).2.2
    rw [← e, chOf_mem hn hcm]
    exact this
  refine ⟨len _ _, fun p hp => ?_, fun p hp => ?_, fun p hp => ?_, fun p hp hl => ?_⟩
  · show (cs.foldl _ ds).getD p .none = _
    rw [get cs hn (fun c h => (hc c h).1) ds p hp]
    by_cases h : (p : Int) ∈ cs.map (·.1)
    · rw [if_pos h]
    · rw [if_neg h, chOf_no h]
      unfold pickD versD
      rw [if_pos (Int.le_refl _)]
      split <;> rfl
  · by_cases h : (p : Int) ∈ cs.map (·.1)
    · exact (choose_in (val p hp h)).1
    · rw [chOf_no h]; decide
  · by_cases h : (p : Int) ∈ cs.map (·.1)
    · exact (choose_in (val p hp h)).2.1
    · rw [chOf_no h]; omega
  · by_cases h : (p : Int) ∈ cs.map (·.1)
    · exact (choose_in (val p hp h)).2.2 hl
    · exact chOf_no h
/-! ### traces done again -/
def inR (N : Nat) (es : List Ev) : Prop := ∀ p e, Ev.w p e ∈ es → 0 ≤ p ∧ p < (N : Int)
theorem rep_more (ds : List PyData) (ls : Lw) (es : List Ev) (i : Nat) (x : Ev) (h : es[i]? = some x) : rep ds ls (es.take (i + 1)) = rep (rep ds ls (es.take i)).1 (rep ds ls (es.take i)).2 [x] := by
  rw [List.take_add_one, h, rep_app]
  rfl
theorem rep_in {N : Nat} {es : List Ev} {ds0 : List PyData} (h : inR N es) {i : Nat} : ∀ q ∈ (rep ds0 [] (es.take i)).2, 0 ≤ q.1 ∧ q.1 < ((N : Nat) : Int) := by
  have go : ∀ (xs : List Ev) (ds : List PyData) (ls : Lw), (∀ p e, Ev.w p e ∈ xs → 0 ≤ p ∧ p < ((N : Nat) : Int)) → (∀ q ∈ ls, 0 ≤ q.1 ∧ q.1 < ((N : Nat) : Int)) → ∀ q ∈ (rep ds ls xs).2, 0 ≤ q.1 ∧ q.1 < ((N : Nat) : Int) := by
    intro xs
    induction xs with
    | nil => intro ds ls _ h; exact h
    | cons x xs ih =>
      intro ds ls hx h
      cases x with
      | b => exact ih _ [] (fun p e hp => hx p e (List.mem_cons_of_mem _ hp)) (fun q hq => by cases hq)
      | w p e =>
        refine ih _ (ls ++ [(p, e)]) (fun p e hp => hx p e (List.mem_cons_of_mem _ hp)) fun q hq => ?_
        rcases List.mem_append.mp hq with z | z
        · exact h q z
        · rw [List.mem_singleton.mp z]
          exact hx p e List.mem_cons_self
  exact go _ _ _ (fun p e hp => h p e (List.mem_of_mem_take hp)) (fun q hq => by cases hq)
section
variable {P : Program} {w : World} {K : PySem.W.Frag} {mg : Str → Option Value} {base : Heap} {CS CD : Addr}
def spDa (K : PySem.W.Frag) (CD : Addr) : Sp := fun vs H Q _ => ∃ (d : Addr) (v : V) (q : Nat) (ds0 : List PyData) (es : List Ev), vs = [.ref d, v, .int (q : Nat)] ∧ DkAt K CD H d ds0 [] ∧ Dp K (Tp H) v (.tuple (es.map evD)) ∧ q ≤ es.length ∧ es.length ≤ 900 ∧ inR ds0.length es ∧ 2 ≤ ds0.length ∧ ds0.length ≤ 1000 ∧
  ∀ x H', Same H H' → H x = none → DkAt K CD H' x (rep ds0 [] (es.take q)).1 (rep ds0 [] (es.take q)).2 → Q (.ref x) H'
end
end Pf

set_option Elab.async false
set_option linter.all false
set_option maxRecDepth 100000
set_option maxHeartbeats 4000000
namespace Pf
open PySem PySem.Spec PyProof.Rows L2
def Obj1 (H : Hp) (c : Addr) : Prop := (∃ C dx fs, H c = some (.ins C dx fs)) ∨ ∃ kvs, H c = some (.dK kvs)
theorem DrawAt.fr {K : PySem.W.Frag} {H H' : Hp} {a sc : Addr} {ns : List Int} {cs : List Addr} (D : DrawAt K H a sc ns) (f : Fr cs H H') (na : a ∉ cs) (ob : ∀ c ∈ cs, Obj1 H c) : DrawAt K H' a sc ns := by
  obtain ⟨⟨i, e⟩, hs, hl⟩ := D
  have nl : ∀ {p : Addr} {o : HO}, H p = some o → (∀ C dx fs, o ≠ .ins C dx fs) → (∀ kvs, o ≠ .dK kvs) → p ∉ cs := fun {p o} e h1 h2 z => by
    rcases ob p z with ⟨C, dx, fs, q⟩ | ⟨kvs, q⟩
    · rw [q] at e; exact h1 C dx fs (Option.some.inj e).symm
    · rw [q] at e; exact h2 kvs (Option.some.inj e).symm
  refine ⟨⟨i, f.at e na⟩, ?_, hl⟩
  have key : ∀ {p : Addr} {o : HO}, Off [a] H p = some o → (∀ C dx fs, o ≠ .ins C dx fs) → (∀ kvs, o ≠ .dK kvs) → Off [a] H' p = some o := fun {p o} e h1 h2 => by
    by_cases hb : p ∈ [a]
    · rw [off_in hb] at e; cases e
    · rw [off_out hb] at e ⊢
      exact f.at e (nl e h1 h2)
  rcases hs with (h | ⟨o, h⟩) | h
  · exact .inl (.inl (key h (fun _ _ _ z => by cases z) (fun _ z => by cases z)))
  · exact .inl (.inr ⟨o, key h (fun _ _ _ z => by cases z) (fun _ z => by cases z)⟩)
  · exact .inr h
theorem StAt.obs {K : PySem.W.Frag} {CS CD : Addr} {H : Hp} {st d h r : Addr} {m : MD} (A : StAt K CS CD H st d h r m) : Obj1 H st ∧ Obj1 H d ∧ Obj1 H h ∧ Obj1 H r := by
  obtain ⟨dx, beg, tr, gv, pv, e1, _⟩ := A.ex
  obtain ⟨sv, lv, ⟨dx2, a, b, ts, e2, _⟩, _⟩ := A.dk
  obtain ⟨ts3, e3, _⟩ := A.hd
  obtain ⟨ts4, e4, _⟩ := A.rd
  exact ⟨.inl ⟨_, _, _, e1⟩, .inl ⟨_, _, _, e2⟩, .inr ⟨_, e3⟩, .inr ⟨_, e4⟩⟩
theorem But.free {cs : List Addr} {H H' : Hp} {p : Addr} (s : But cs H H') (h : H' p = none) (n : p ∉ cs) : H p = none := by
  cases e : H p with
  | none => rfl
  | some o => rw [s.at e n] at h; cases h
theorem DrawAt.ne {K : PySem.W.Frag} {H : Hp} {a sc x : Addr} {ns : List Int} (D : DrawAt K H a sc ns) (h : H x = none) : x ≠ a := fun z => by
  obtain ⟨i, e⟩ := D.1
  rw [z, e] at h
  cases h
theorem DrawAt.frb {K : PySem.W.Frag} {H H' : Hp} {a sc : Addr} {ns : List Int} (D : DrawAt K H a sc ns) (s : But [a] H H') : Fr [a] H H' := Fr.but s fun c hc u e => by
  obtain ⟨i, e2⟩ := D.1
  rw [List.mem_singleton.mp hc, e2] at e
  cases e
  rfl
theorem but_trans {cs : List Addr} {H H1 H2 : Hp} (s : But cs H H1) (g : But cs H1 H2) : But cs H H2 := fun b o e => by
  have hb : b ∉ cs := fun y => by rw [off_in y] at e; cases e
  rw [off_out hb] at e
  exact g.at (s.at e hb) hb
theorem but_same {cs : List Addr} {H H1 H2 : Hp} (s : But cs H H1) (g : Same H1 H2) : But cs H H2 := but_trans s (.of g)
theorem but_new {cs : List Addr} {H H1 : Hp} {p : Addr} {o : HO} (s : But cs H H1) (hp : H p = none) : But cs H (upd H1 p o) := fun b u e => by
  have hb : b ∉ cs := fun y => by rw [off_in y] at e; cases e
  rw [off_out hb] at e
  rw [upd_ne (ne_of_none e hp)]
  exact s.at e hb
/-! ### lists of pairs, made into dicts -/
theorem paired_mono {α β : Type} {R S : α → β → Prop} (h : ∀ a b, R a b → S a b) : ∀ {xs : List α} {ys : List β}, Paired R xs ys → Paired S xs ys
  | _, _, .nil => .nil
  | _, _, .cons q t => .cons (h _ _ q) (paired_mono h t)
theorem paired_app {α β : Type} {R : α → β → Prop} {x : α} {y : β} (h : R x y) : ∀ {xs : List α} {ys : List β}, Paired R xs ys → Paired R (xs ++ [x]) (ys ++ [y])
  | _, _, .nil => .cons h .nil
  | _, _, .cons q t => .cons q (paired_app h t)
theorem merge_go : ∀ (kvs acc : List (Key × V)), ((acc ++ kvs).map (·.1)).Nodup → mergeK acc kvs = acc ++ kvs
  | [], acc, _ => (List.append_nil acc).symm
  | kv :: kvs, acc, h => by
    have e : putK acc kv.1 kv.2 = acc ++ [kv] := by
      unfold putK
      have hno : (acc.any fun x => decide (x.1 = kv.1)) = false := by
        rw [List.any_eq_false]
        intro x hx z
        have z' : x.1 = kv.1 := of_decide_eq_true z
        rw [List.map_append] at h
        exact (List.nodup_append.mp h).2.2 _ (List.mem_map.mpr ⟨x, hx, rfl⟩) _ (List.mem_map.mpr ⟨kv, List.mem_cons_self, rfl⟩) z'
      rw [hno, if_neg (by decide)]
    show mergeK (putK acc kv.1 kv.2) kvs = _
    rw [e, merge_go kvs (acc ++ [kv]) (by rw [List.append_assoc]; exact h), List.append_assoc]
    rfl
theorem merge_nd {kvs : List (Key × V)} (h : (kvs.map (·.1)).Nodup) : mergeK [] kvs = kvs := merge_go kvs [] h
/-- a list of pairs of whole numbers and cells -/
def DB (K : PySem.W.Frag) (H : Hp) (D : Addr) (cs : List Ch) : Prop := ∃ (qs : List Addr) (trs : List Tr), H D = some (.lst (qs.map V.ref)) ∧ tc trs = cs ∧ Paired (fun q kv => SqT K (Tp H) q [kV kv.1, kv.2]) qs (tk trs) ∧ ∀ t ∈ trs, Dp K (Tp H) t.2.1 (rowD t.2.2)
theorem paired_len {α β : Type} {R : α → β → Prop} : ∀ {xs : List α} {ys : List β}, Paired R xs ys → xs.length = ys.length
  | _, _, .nil => rfl
  | _, _, .cons q t => by simp [paired_len t]
theorem DB.nil {K : PySem.W.Frag} {H : Hp} {D : Addr} (h : H D = some (.lst [])) : DB K H D [] := ⟨[], [], h, rfl, .nil, fun _ z => by cases z⟩
theorem DB.more {K : PySem.W.Frag} {H H' : Hp} {D q : Addr} {cs : List Ch} {k : Int} {v : V} {l : List Int} (B : DB K H D cs) (s : Same (Tp H) (Tp H')) (hq : SqT K (Tp H') q [.int k, v]) (hv : Dp K (Tp H') v (rowD l)) (hD : ∀ acc, H D = some (.lst acc) → H' D = some (.lst (acc ++ [.ref q]))) : DB K H' D (cs ++ [(k, l)]) := by
  obtain ⟨qs, trs, e, et, hp, ht⟩ := B
  refine ⟨qs ++ [q], trs ++ [(k, v, l)], by rw [hD _ e, List.map_append]; rfl, by unfold tc at et ⊢; rw [List.map_append, et]; rfl, ?_, fun t h => ?_⟩
  · unfold tk at hp ⊢
    rw [List.map_append]
    exact paired_app (y := ((Sum.inl k, v) : Key × V)) hq (paired_mono (fun p kv z => same_seqT s z) hp)
  · rcases List.mem_append.mp h with z | z
    · exact dp_same s _ _ (ht t z)
    · rw [List.mem_singleton.mp z]
      exact hv
theorem tk_nodup {ts : List Tr} (h : ((tc ts).map (·.1)).Nodup) : ((tk ts).map (·.1)).Nodup := by
  rw [tk_keys, ← tc_keys]
  exact List.pairwise_map.mpr (h.imp fun z e => z (Sum.inl.inj e))
theorem DB.dict {K : PySem.W.Frag} {H : Hp} {D : Addr} {cs : List Ch} (B : DB K H D cs) (hn : (cs.map (·.1)).Nodup) {R : V → Hp → Prop} (k : ∀ c ts, H c = none → tc ts = cs → (∀ t ∈ ts, Dp K (Tp H) t.2.1 (rowD t.2.2)) → R (.ref c) (upd H c (.dK (tk ts)))) :
    ∃ (a : Addr) (ps : List Addr) (kvs : List (Key × V)), [V.ref D] = [.ref a] ∧ SqL K H a (ps.map V.ref) ∧ Paired (fun p kv => SqT K H p [kV kv.1, kv.2]) ps kvs ∧ ∀ p, H p = none → R (.ref p) (upd H p (.dK (mergeK [] kvs))) := by
  obtain ⟨qs, trs, e, et, hp, ht⟩ := B
  refine ⟨D, qs, tk trs, rfl, SqL.of e, paired_mono (fun p kv z => same_seqT tp_le z) hp, fun p hpn => ?_⟩
  rw [merge_nd (tk_nodup (by rw [et]; exact hn))]
  exact k p trs hpn et ht
/-- a list of pairs of whole numbers -/
def DI (K : PySem.W.Frag) (H : Hp) (D : Addr) (cs : List (Int × Int)) : Prop := ∃ qs : List Addr, H D = some (.lst (qs.map V.ref)) ∧ Paired (fun q kv => SqT K (Tp H) q [kV kv.1, kv.2]) qs (chV cs)
theorem DI.more {K : PySem.W.Frag} {H H' : Hp} {D q : Addr} {cs : List (Int × Int)} {k v : Int} (B : DI K H D cs) (s : Same (Tp H) (Tp H')) (hq : SqT K (Tp H') q [.int k, .int v]) (hD : ∀ acc, H D = some (.lst acc) → H' D = some (.lst (acc ++ [.ref q]))) : DI K H' D (cs ++ [(k, v)]) := by
  obtain ⟨qs, e, hp⟩ := B
  refine ⟨qs ++ [q], by rw [hD _ e, List.map_append]; rfl, ?_⟩
  unfold chV at hp ⊢
  rw [List.map_append]
  exact paired_app (y := ((Sum.inl k, V.int v) : Key × V)) hq (paired_mono (fun p kv z => same_seqT s z) hp)
theorem DI.dict {K : PySem.W.Frag} {H : Hp} {D : Addr} {cs : List (Int × Int)} (B : DI K H D cs) (hn : (cs.map (·.1)).Nodup) {R : V → Hp → Prop} (k : ∀ c, H c = none → R (.ref c) (upd H c (.dK (chV cs)))) :
    ∃ (a : Addr) (ps : List Addr) (kvs : List (Key × V)), [V.ref D] = [.ref a] ∧ SqL K H a (ps.map V.ref) ∧ Paired (fun p kv => SqT K H p [kV kv.1, kv.2]) ps kvs ∧ ∀ p, H p = none → R (.ref p) (upd H p (.dK (mergeK [] kvs))) := by
  obtain ⟨qs, e, hp⟩ := B
  refine ⟨D, qs, chV cs, rfl, SqL.of e, paired_mono (fun p kv z => same_seqT tp_le z) hp, fun p hpn => ?_⟩
  have hn2 : ((chV cs).map (·.1)).Nodup := by
    unfold chV
    rw [List.map_map]
    exact List.pairwise_map.mpr ((List.pairwise_map.mp hn).imp fun z e => z (Sum.inl.inj e))
  rw [merge_nd hn2]
  exact k p hpn
/-! ### falls of stores -/
section
variable {P : Program} {w : World} {K : PySem.W.Frag} {mg : Str → Option Value} {base : Heap} {CS CD : Addr}
def spFd (K : PySem.W.Frag) (CS CD : Addr) : Sp := fun vs H Q _ => ∃ (st d h r bd c : Addr) (m : MD) (ds0 : List PyData) (es : List Ev) (q : Nat) (cs : List (Int × Int)), vs = [.ref st, .int (q : Nat), .ref c] ∧ StAt K CS CD H st d h r m ∧ m.bg = .ref bd ∧ DkAt K CD H bd ds0 [] ∧ m.evs = es.map evD ∧ q ≤ es.length ∧ es.length ≤ 900 ∧ inR ds0.length es ∧ 2 ≤ ds0.length ∧ ds0.length ≤ 1000 ∧
  H c = some (.dK (chV cs)) ∧ (cs.map (·.1)).Nodup ∧ (∀ z ∈ cs, 0 ≤ z.1 ∧ z.1 < ((ds0.length : Nat) : Int) ∧ chooseD (rep ds0 [] (es.take q)).2 z.1 z.2 = true) ∧
  ∀ x H', Same H H' → H x = none → DkAt K CD H' x (fallC (rep ds0 [] (es.take q)).1 (rep ds0 [] (es.take q)).2 cs) [] → Q (.ref x) H'
theorem fallC_len (ds : List PyData) (ls : Lw) (cs : List (Int × Int)) : (fallC ds ls cs).length = ds.length := by
  unfold fallC
  suffices h : ∀ e : List PyData, (cs.foldl (fun s c => s.set c.1.toNat (pickD (versD ds ls c.1) c.2)) e).length = e.length from h ds
  induction cs with
  | nil => intro e; rfl
  | cons c cs ih => intro e; rw [List.foldl_cons, ih, List.length_set]
end
end Pf

set_option Elab.async false
set_option linter.all false
set_option maxRecDepth 100000
set_option maxHeartbeats 4000000
namespace Pf
open PySem PySem.Spec PyProof.Rows L2
/-! ### d != e, of dicts from whole numbers to cells -/
def findC (ds : List Ch) (k : Int) : Option (List Int) := (ds.find? fun d => decide (d.1 = k)).map (·.2)
def allC (cs ds : List Ch) : Bool := cs.all fun c => match findC ds c.1 with
  | none => false
  | some l => decide (c.2 = l)
def eqC (cs ds : List Ch) : Bool := cs.length == ds.length && allC cs ds
theorem find_tk : ∀ (ts : List Tr) (k : Int), (∀ v, valV (tk ts) (Sum.inl k) = some v → ∃ t ∈ ts, t.2.1 = v ∧ findC (tc ts) k = some t.2.2) ∧ (valV (tk ts) (Sum.inl k) = none → findC (tc ts) k = none)
  | [], k => ⟨fun v h => absurd (show (none : Option V) = some v from h) (by simp), fun _ => rfl⟩
  | x :: ts, k => by
    obtain ⟨h1, h2⟩ := find_tk ts k
    by_cases e : x.1 = k
    · have e1 : valV (tk (x :: ts)) (Sum.inl k) = some x.2.1 := valV_pos (p := (Sum.inl x.1, x.2.1)) (by rw [e])
      have e2 : findC (tc (x :: ts)) k = some x.2.2 := by
        unfold findC tc
        rw [List.map_cons, List.find?_cons_of_pos (by simp [e])]
        rfl
      refine ⟨fun v h => ?_, fun h => by rw [e1] at h; cases h⟩
      rw [e1] at h
      exact ⟨x, List.mem_cons_self, Option.some.inj h, e2⟩
    · have e1 : valV (tk (x :: ts)) (Sum.inl k) = valV (tk ts) (Sum.inl k) := valV_neg (p := (Sum.inl x.1, x.2.1)) (fun z => e (by injection z))
      have e2 : findC (tc (x :: ts)) k = findC (tc ts) k := by
        unfold findC tc
        rw [List.map_cons, List.find?_cons_of_neg (by simp [e])]
      refine ⟨fun v h => ?_, fun h => ?_⟩
      · rw [e1] at h
        obtain ⟨t, t1, t2, t3⟩ := h1 v h
        exact ⟨t, List.mem_cons_of_mem _ t1, t2, by rw [e2]; exact t3⟩
      · rw [e1] at h
        rw [e2]
        exact h2 h
def rNeC (K : PySem.W.Frag) : R2 := fun x y H Q => ∃ (a b : Addr) (ts us : List Tr), x = .ref a ∧ y = .ref b ∧ H a = some (.dK (tk ts)) ∧ H b = some (.dK (tk us)) ∧ (∀ t ∈ ts, Dp K H t.2.1 (rowD t.2.2)) ∧ (∀ t ∈ us, Dp K H t.2.1 (rowD t.2.2)) ∧ Q (.bl (!eqC (tc ts) (tc us))) H
section
variable {X : Cx}
theorem hits_of {pins : List (Addr × Obj)} {σ : L2.St} {H : Hp} {s : Shared} {A : Around} (I : Inv X pins σ H s) (hu : A.units + 64 < cLine) {us : List Tr} {ws : List (Key × Value)} (rw' : KV (tk us) ws) (hus : ∀ t ∈ us, Dp X.K H t.2.1 (rowD t.2.2)) :
    ∀ {ts : List Tr} {vs : List (Key × Value)}, KV (tk ts) vs → (∀ t ∈ ts, Dp X.K H t.2.1 (rowD t.2.2)) → PySem.W.KeqHits A.in1 s ws vs (allC (tc ts) (tc us))
  | [], _, r, _ => by
    cases r
    exact .nil
  | t :: ts, vs, r, h => by
    have r' : KV ((Sum.inl t.1, t.2.1) :: tk ts) vs := r
    cases r' with
    | @cons p q ps qs h1 h2 =>
      obtain ⟨k, v⟩ := q
      obtain ⟨hk, hv⟩ := h1
      have hk' : Sum.inl t.1 = k := hk
      subst hk'
      have ih := hits_of I hu rw' hus h2 (fun z hz => h z (List.mem_cons_of_mem _ hz))
      have rv := rw'.val (Sum.inl t.1)
      obtain ⟨f1, f2⟩ := find_tk us t.1
      have ea : allC (tc (t :: ts)) (tc us) = ((match findC (tc us) t.1 with | none => false | some l => decide (t.2.2 = l)) && allC (tc ts) (tc us)) := rfl
      rw [ea]
      cases e1 : valV (tk us) (Sum.inl t.1) with
      | none =>
        rw [e1] at rv
        rw [f2 e1]
        have e2 : valueAt ws (Sum.inl t.1) = none := by
          cases e : valueAt ws (Sum.inl t.1) with
          | none => rfl
          | some y => rw [e] at rv; exact rv.elim
        exact .miss e2
      | some y =>
        rw [e1] at rv
        obtain ⟨u, hu1, hu2, hu3⟩ := f1 y e1
        rw [hu3]
        cases e : valueAt ws (Sum.inl t.1) with
        | none => rw [e] at rv; exact rv.elim
        | some y' =>
          rw [e] at rv
          obtain ⟨as, ra⟩ := Dp.reads I _ _ v (h t List.mem_cons_self) hv
          obtain ⟨bs, rb⟩ := Dp.reads I _ _ y' (hu2 ▸ hus u hu1) rv
          have hq : SeqAt.EqAt A.in1 s v y' (PyData.eqv (rowD t.2.2) (rowD u.2.2)) := SeqAt.eqAt_reads _ _ A.in1 s v y' as bs ra rb (SeqAt.canLay_of_shaped (shaped_ints t.2.2)) (SeqAt.canLay_of_shaped (shaped_ints u.2.2)) (by
            have hd : PyData.depth (rowD t.2.2) = 1 := by
              show PyData.depth (.tuple (t.2.2.map PyData.int)) = 1
              simp only [PyData.depth, dep_ints]
            rw [hd]
            show A.units + 1 + 1 < cLine
            omega)
          have eq0 : PyData.eqv (rowD t.2.2) (rowD u.2.2) = decide (t.2.2 = u.2.2) := eqv_ints _ _
          rw [eq0] at hq
          exact .hit e hq ih
theorem op_neC (hu : X.A.units + 64 < cLine) : OpR X (compareOp .NotEq) (rNeC X.K) := by
  intro pins s σ H x y v u Q I rx ry h
  obtain ⟨a, b, ts, us, rfl, rfl, ha, hb, hts, hus, q⟩ := h
  cases rx
  cases ry
  obtain ⟨_, la, va, ra, da⟩ := dk_of I.hok ha
  obtain ⟨_, lb, vb, rb, db⟩ := dk_of I.hok hb
  refine PySem.W.keq_ne la lb da db (by omega) (fun _ => hits_of I hu rb hus ra hts) ⟨.bl _, H, I, rfl, ?_⟩
  have l1 : va.length = (tc ts).length := by
    have h1 : (tk ts).length = va.length := Paired.length ra
    rw [← h1]
    unfold tk tc
    rw [List.length_map, List.length_map]
  have l2 : vb.length = (tc us).length := by
    have h1 : (tk us).length = vb.length := Paired.length rb
    rw [← h1]
    unfold tk tc
    rw [List.length_map, List.length_map]
  rw [l1, l2]
  exact q
end
end Pf

set_option Elab.async false
set_option linter.all false
set_option maxRecDepth 100000
set_option maxHeartbeats 4000000
namespace Pf
open PySem PySem.Spec PyProof.Rows L2
/-! ### a store in the law's hands -/
theorem bg_lay (m : MD) : m.lay.bg = m.bg := by
  unfold MD.lay
  split <;> rfl
theorem bg_push (m : MD) : m.push.bg = m.bg := by
  unfold MD.push
  split
  · rfl
  · show m.room.bg = m.bg
    unfold MD.room
    split
    · rfl
    · exact bg_lay m
theorem bg_put (m : MD) (cs : List Ch) : (m.put cs).bg = m.bg := by
  unfold MD.put
  split
  · rfl
  · show (m.fit cs).bg = m.bg
    unfold MD.fit
    split
    · rfl
    · exact bg_push m
structure SB (K : PySem.W.Frag) (CS CD : Addr) (H : Hp) (st d h r bd : Addr) (n S : Nat) (ds0 : List PyData) (m : MD) (es : List Ev) (hg hs : List HF) : Prop where
  A : StAt K CS CD H st d h r m
  bg : m.bg = .ref bd
  db : DkAt K CD H bd ds0 []
  nb : bd ≠ d
  si : SI n S ds0 m es hg hs
section
variable {K : PySem.W.Frag} {CS CD : Addr} {H H' : Hp} {st d h r bd : Addr} {n S : Nat} {ds0 : List PyData} {m : MD} {es : List Ev} {hg hs : List HF}
theorem SB.fr (B : SB K CS CD H st d h r bd n S ds0 m es hg hs) {xs : List Addr} (f : Fr xs H H') (n1 : st ∉ xs) (n2 : d ∉ xs) (n3 : h ∉ xs) (n4 : r ∉ xs) (n5 : bd ∉ xs) : SB K CS CD H' st d h r bd n S ds0 m es hg hs :=
  ⟨B.A.fr f n1 n2 n3 n4, B.bg, B.db.fr f n5, B.nb, B.si⟩
theorem SB.same (B : SB K CS CD H st d h r bd n S ds0 m es hg hs) (s : Same H H') : SB K CS CD H' st d h r bd n S ds0 m es hg hs :=
  B.fr (xs := []) (.of s) (by simp) (by simp) (by simp) (by simp) (by simp)
theorem SB.nbs (B : SB K CS CD H st d h r bd n S ds0 m es hg hs) (hC : CS ≠ CD) : bd ∉ [st, d, h, r] := by
  obtain ⟨dx, beg, tr, gv, pv, e1, _⟩ := B.A.ex
  obtain ⟨sv, lv, ⟨dx2, a, b, ts, e2, _⟩, _⟩ := B.db
  obtain ⟨ts3, e3, _⟩ := B.A.hd
  obtain ⟨ts4, e4, _⟩ := B.A.rd
  intro z
  simp only [List.mem_cons, List.not_mem_nil, or_false] at z
  rcases z with z | z | z | z
  · rw [z, e1] at e2
    injection e2 with e2
    injection e2 with e2
    exact hC e2
  · exact B.nb z
  · rw [z, e3] at e2; cases e2
  · rw [z, e4] at e2; cases e2
/-- the store changed by a call of its own -/
theorem SB.step (B : SB K CS CD H st d h r bd n S ds0 m es hg hs) (hC : CS ≠ CD) {r' : Addr} {m' : MD} {es' : List Ev} {hg' hs' : List HF} (f : Fr [st, d, h, r] H H') (A' : StAt K CS CD H' st d h r' m') (hb : m'.bg = m.bg) (si : SI n S ds0 m' es' hg' hs') : SB K CS CD H' st d h r' bd n S ds0 m' es' hg' hs' :=
  ⟨A', by rw [hb]; exact B.bg, B.db.fr f (B.nbs hC), B.nb, si⟩
theorem SB.obs (B : SB K CS CD H st d h r bd n S ds0 m es hg hs) : ∀ c ∈ [st, d, h, r], Obj1 H c := by
  obtain ⟨h1, h2, h3, h4⟩ := B.A.obs
  intro c hc
  simp only [List.mem_cons, List.not_mem_nil, or_false] at hc
  rcases hc with rfl | rfl | rfl | rfl <;> assumption
theorem SB.out (B : SB K CS CD H st d h r bd n S ds0 m es hg hs) {a : Addr} {xs : List V} (e : H a = some (.lst xs)) : a ≠ st ∧ a ≠ d ∧ a ≠ h ∧ a ≠ r ∧ a ≠ bd := by
  obtain ⟨dx, beg, tr, gv, pv, e1, _⟩ := B.A.ex
  obtain ⟨sv, lv, ⟨dx2, a2, b2, ts2, e2, _⟩, _⟩ := B.A.dk
  obtain ⟨sv', lv', ⟨dx3, a3, b3, ts3, e5, _⟩, _⟩ := B.db
  obtain ⟨ts3, e3, _⟩ := B.A.hd
  obtain ⟨ts4, e4, _⟩ := B.A.rd
  refine ⟨fun z => ?_, fun z => ?_, fun z => ?_, fun z => ?_, fun z => ?_⟩
  · rw [z, e1] at e; cases e
  · rw [z, e2] at e; cases e
  · rw [z, e3] at e; cases e
  · rw [z, e4] at e; cases e
  · rw [z, e5] at e; cases e
theorem SB.lst (B : SB K CS CD H st d h r bd n S ds0 m es hg hs) {a : Addr} {xs : List V} (e : H a = some (.lst xs)) (f : Fr [a] H H') : SB K CS CD H' st d h r bd n S ds0 m es hg hs := by
  obtain ⟨n1, n2, n3, n4, n5⟩ := B.out e
  exact B.fr f (by simp [n1.symm]) (by simp [n2.symm]) (by simp [n3.symm]) (by simp [n4.symm]) (by simp [n5.symm])
theorem SB.draw (B : SB K CS CD H st d h r bd n S ds0 m es hg hs) {a sc : Addr} {ss : List Int} (D : DrawAt K H a sc ss) (f : But [a] H H') : SB K CS CD H' st d h r bd n S ds0 m es hg hs := by
  obtain ⟨i, e⟩ := D.1
  exact B.lst e (D.frb f)
theorem SB.drawAt (B : SB K CS CD H st d h r bd n S ds0 m es hg hs) {a sc : Addr} {ss : List Int} (D : DrawAt K H a sc ss) (f : Fr [st, d, h, r] H H') : DrawAt K H' a sc ss := by
  obtain ⟨i, e⟩ := D.1
  obtain ⟨n1, n2, n3, n4, n5⟩ := B.out e
  exact D.fr f (by simp [n1, n2, n3, n4]) B.obs
theorem SB.len (B : SB K CS CD H st d h r bd n S ds0 m es hg hs) : ds0.length = 2 + S + n := by
  have h1 := B.si.len
  have h2 := congrArg Prod.fst B.si.rp
  have h3 := rep_len es ds0 []
  rw [h2] at h3
  have h4 : m.ds.length = ds0.length := h3
  omega
theorem SI.inR (A : SI n S ds0 m es hg hs) : inR ds0.length es := by
  intro p e hp
  obtain ⟨i, hi⟩ := List.getElem?_of_mem hp
  have hil := (List.getElem?_eq_some_iff.mp hi).1
  have h1 := (A.tr (i + 1) (by omega)).2.1
  rw [rep_more ds0 [] es i _ hi] at h1
  have h2 := h1 (p, e) (by
    show (p, e) ∈ (rep ds0 [] (es.take i)).2 ++ [(p, e)]
    exact List.mem_append_right _ List.mem_cons_self)
  have h3 := rep_len [Ev.w p e] (rep ds0 [] (es.take i)).1 (rep ds0 [] (es.take i)).2
  have h4 := rep_len (es.take i) ds0 []
  rw [h3, h4] at h2
  exact h2
end
theorem sev_mono (es : List Ev) {p q : Nat} (h : p ≤ q) : sev (es.take p) ≤ sev (es.take q) := by
  have e : es.take q = es.take p ++ (es.take q).drop p := by
    have := (List.take_append_drop p (es.take q)).symm
    rw [List.take_take, Nat.min_eq_left h] at this
    exact this
  rw [e]
  unfold sev
  rw [sevG_app]
  exact (sevG_le _ _ _ (by have := (sevG_le (es.take p) 0 0 (Nat.le_refl _)).2; exact this)).1
theorem find_self : ∀ {cs : List Ch}, (cs.map (·.1)).Nodup → ∀ c ∈ cs, findC cs c.1 = some c.2
  | x :: cs, hn, c, h => by
    have hn' : x.1 ∉ cs.map (·.1) ∧ (cs.map (·.1)).Nodup := List.nodup_cons.mp hn
    unfold findC
    rcases List.mem_cons.mp h with z | z
    · rw [z]
      simp
    · have hne : x.1 ≠ c.1 := fun e => hn'.1 (by rw [e]; exact List.mem_map.mpr ⟨c, z, rfl⟩)
      rw [List.find?_cons_of_neg (by simpa using hne)]
      exact find_self hn'.2 c z
theorem eqC_self {cs : List Ch} (h : (cs.map (·.1)).Nodup) : eqC cs cs = true := by
  unfold eqC allC
  rw [Bool.and_eq_true]
  refine ⟨by simp, List.all_eq_true.mpr fun c hc => ?_⟩
  rw [find_self h c hc]
  exact decide_eq_true rfl
/-- the dict of the cells of each plate, as it is made -/
def rowC (n : Nat) (x : Nat → List Int) : List Ch := canonC n x
theorem canon_more (n : Nat) (x : HF) : canonC (n + 1) x = canonC n x ++ [((n : Int), x n)] := by
  unfold canonC
  rw [List.range_succ, List.map_append]
  rfl
theorem rep8 (y : Int) : (List.replicate (8 : Int).toNat [V.int y]).flatten = (List.replicate 8 y).map V.int := rfl
theorem DB.cells {K : PySem.W.Frag} {H : Hp} {D u v p : Addr} {cs : List Ch} {k y : Int} {acc : List V} (B : DB K H D cs) (hD : H D = some (.lst acc)) (hu : H u = none) (hv : (upd H u (.tup [.int y])) v = none) (hp : (upd (upd H u (.tup [.int y])) v (.tup (List.replicate (8 : Int).toNat [V.int y]).flatten)) p = none) :
    (upd (upd (upd H u (.tup [.int y])) v (.tup (List.replicate (8 : Int).toNat [V.int y]).flatten)) p (.tup [.int k, .ref v])) D = some (.lst acc) ∧
    DB K (upd (upd (upd (upd H u (.tup [.int y])) v (.tup (List.replicate (8 : Int).toNat [V.int y]).flatten)) p (.tup [.int k, .ref v])) D (.lst (acc ++ [.ref p]))) D (cs ++ [(k, List.replicate 8 y)]) := by
  have s1 := same_upd (o := .tup [.int y]) hu
  have s2 := same_upd (o := .tup (List.replicate (8 : Int).toNat [V.int y]).flatten) hv
  have s3 := same_upd (o := .tup [.int k, .ref v]) hp
  have s123 := (s1.trans s2).trans s3
  have eD := s123 _ _ hD
  have nvp : v ≠ p := fun z => by rw [← z, upd_same] at hp; cases hp
  have nDp : D ≠ p := fun z => by rw [z, upd_same] at eD; cases eD
  have nDv : D ≠ v := fun z => by rw [z, upd_ne nvp, upd_same] at eD; cases eD
  refine ⟨eD, B.more (q := p) (v := .ref v) ((tp_same s123).trans (tp_put fun o e => by rw [eD] at e; cases e; rfl)) ?_ ?_ fun acc' e => ?_⟩
  · exact SqT.of (tp_at (by rw [upd_ne nDp.symm, upd_same]) rfl)
  · have hvv : (upd (upd (upd (upd H u (.tup [.int y])) v (.tup (List.replicate (8 : Int).toNat [V.int y]).flatten)) p (.tup [.int k, .ref v])) D (.lst (acc ++ [.ref p]))) v = some (.tup ((List.replicate 8 y).map V.int)) := by
      rw [upd_ne nDv.symm, upd_ne nvp, upd_same, rep8]
    exact .tup (SqT.of (tp_at hvv rfl)) (dps_ints _)
  · rw [hD] at e
    cases e
    rw [upd_same]
end Pf

set_option Elab.async false
set_option linter.all false
set_option maxRecDepth 100000
set_option maxHeartbeats 4000000
namespace Pf
open PySem PySem.Spec PyProof.Rows L2
abbrev tCells (K : PySem.W.Frag) (i : Nat) (y : TE) : TE := tTup (tCons (tVar i) (tCons (tOp (rRepT K) (tTup (tCons y tNil)) (tC (.int 8))) tNil))
theorem ch_all {n : Nat} {ts : List Tr} {F : HF} (et : tc ts = canonC n F) : (ts.map (·.1)).Nodup ∧ ts.length = n ∧ (∀ i < n, ((i : Nat) : Int) ∈ ts.map (·.1)) ∧ ∀ t ∈ ts, 0 ≤ t.1 ∧ t.1 < (n : Int) ∧ t.2.2 = F t.1.toNat := by
  have h1 : (ts.map (·.1)) = (canonC n F).map (·.1) := by rw [← tc_keys, et]
  refine ⟨by rw [h1]; exact canon_nodup n F, ?_, fun i hi => ?_, fun t ht => ?_⟩
  · have := congrArg List.length et
    unfold tc at this
    rw [List.length_map, canon_len] at this
    exact this
  · rw [h1, canon_keys]
    exact List.mem_map.mpr ⟨i, List.mem_range.mpr hi, rfl⟩
  · have h2 : (t.1, t.2.2) ∈ tc ts := List.mem_map.mpr ⟨t, ht, rfl⟩
    rw [et] at h2
    obtain ⟨i, hi, e⟩ := List.mem_map.mp h2
    have hi' := List.mem_range.mp hi
    have e1 : ((i : Nat) : Int) = t.1 := (Prod.mk.inj e).1
    have e2 : F i = t.2.2 := (Prod.mk.inj e).2
    refine ⟨by omega, by omega, ?_⟩
    rw [← e2, ← e1, Int.toNat_natCast]
theorem cells_same {G H : Hp} {D u v p : Addr} {y k : Int} {o : HO} (s : Same G H) (hD : G D = none) (hu : H u = none) (hv : (upd H u (.tup [.int y])) v = none) (hp : (upd (upd H u (.tup [.int y])) v (.tup (List.replicate (8 : Int).toNat [V.int y]).flatten)) p = none) :
    Same G (upd (upd (upd (upd H u (.tup [.int y])) v (.tup (List.replicate (8 : Int).toNat [V.int y]).flatten)) p (.tup [.int k, .ref v])) D o) := fun b x e => by
  rw [upd_ne (ne_of_none e hD)]
  exact same_upd hp _ _ (same_upd hv _ _ (same_upd hu _ _ (s _ _ e)))
theorem DB.acc {K : PySem.W.Frag} {H : Hp} {D : Addr} {cs : List Ch} (B : DB K H D cs) : ∃ acc, H D = some (.lst acc) ∧ acc.length = cs.length := by
  obtain ⟨qs, trs, e, et, hp, _⟩ := B
  refine ⟨_, e, ?_⟩
  have h1 := paired_len hp
  unfold tk at h1
  rw [List.length_map] at h1 ⊢
  rw [h1, ← et]
  unfold tc
  rw [List.length_map]
theorem chF_canon {n : Nat} {ts : List Tr} {G F : HF} (et : tc ts = canonC n G) {i : Nat} (hi : i < n) : chF (sortC (tc ts)) F i = G i := by
  have hn : ((tc ts).map (·.1)).Nodup := by rw [et]; exact canon_nodup _ _
  rw [chF_sort hn]
  show overV _ _ _ = _
  rw [over_get hn, (getC_mem hn).mpr (show ((i : Int), G i) ∈ tc ts by rw [et]; exact List.mem_map.mpr ⟨i, List.mem_range.mpr hi, rfl⟩)]
  rfl
theorem dof_pre {ps qs : List (Int × Int)} {k : Nat} (h : k ≤ ps.length) : dof (ps ++ qs) k = dof ps k := by
  unfold dof
  by_cases c : k = 0
  · rw [if_pos c, if_pos c]
  · rw [if_neg c, if_neg c, List.getD_eq_getElem?_getD, List.getD_eq_getElem?_getD, List.getElem?_append_left (by omega)]
theorem SI.barOk {n S : Nat} {ds0 : List PyData} {m : MD} {es : List Ev} {hg hs : List HF} (A : SI n S ds0 m es hg hs) (h : es.length ≤ 900) : BarOk m := by
  have h1 := A.evl
  have h2 := A.pl
  have h3 := A.len
  have h4 := A.n60
  have h5 := A.S60
  exact ⟨A.lsIn, by omega, by omega, by omega⟩
theorem DI.fr {K : PySem.W.Frag} {H H' : Hp} {D : Addr} {cs : List (Int × Int)} {xs : List Addr} (B : DI K H D cs) (f : Fr xs H H') (n : D ∉ xs) : DI K H' D cs := by
  obtain ⟨qs, e, hp⟩ := B
  exact ⟨qs, f.at e n, paired_mono (fun p kv z => same_seqT f.tp z) hp⟩
theorem paired_get {α β : Type} {R : α → β → Prop} : ∀ {xs : List α} {ys : List β} {i : Nat} {x : α}, Paired R xs ys → xs[i]? = some x → ∃ y, ys[i]? = some y ∧ R x y
  | _, _, _, _, .nil, h => by simp at h
  | _, _, 0, _, .cons a t, h => by
    have := Option.some.inj h
    subst this
    exact ⟨_, rfl, a⟩
  | _, _, i + 1, _, .cons a t, h => paired_get (i := i) t h
theorem ints_read {K : PySem.W.Frag} {G : Hp} : ∀ {ns : List Int} {vs : List V}, DpAll K G vs (ns.map PyData.int) → vs = ns.map V.int
  | [], _, h => by cases h; rfl
  | n :: ns, _, h => by
    cases h with
    | cons h1 h2 =>
      cases h1
      rw [ints_read h2]
      rfl
theorem row_read {K : PySem.W.Frag} {G : Hp} {v : V} {l : List Int} (h : Dp K G v (rowD l)) : ∃ a, v = .ref a ∧ SqT K G a (l.map V.int) := by
  have h' : Dp K G v (.tuple (l.map PyData.int)) := h
  cases h' with
  | tup h1 h2 =>
    rw [ints_read h2] at h1
    exact ⟨_, rfl, h1⟩
end Pf

set_option Elab.async false
set_option linter.all false
set_option maxRecDepth 100000
set_option maxHeartbeats 8000000
namespace Pf
open PySem PySem.Spec PyProof.Rows L2
/-- the homes behind each deed -/
def Hms (K : PySem.W.Frag) (H : Hp) (hl : Addr) (n : Nat) (hs : List HF) (av : List Addr) : Prop :=
  ∃ hq : List Addr, H hl = some (.lst (hq.map V.ref)) ∧ hq.length = hs.length ∧ ∀ (j : Nat) (p : Addr), hq[j]? = some p → DcAt K H p (canonC n (hs.getD j default)) ∧ p ∉ av
theorem Hms.fr {K : PySem.W.Frag} {H H' : Hp} {hl : Addr} {n : Nat} {hs : List HF} {av xs av' : List Addr} (A : Hms K H hl n hs av) (f : Fr xs H H') (h1 : hl ∉ xs) (h2 : ∀ x ∈ xs, x ∈ av ∨ ∃ o, H x = some o ∧ ∀ kvs, o ≠ .dK kvs) (h3 : ∀ x ∈ av', x ∈ av ∨ H x = none ∨ ∃ o, H x = some o ∧ ∀ kvs, o ≠ .dK kvs) : Hms K H' hl n hs av' := by
  obtain ⟨hq, e, hl', hp⟩ := A
  refine ⟨hq, f.at e h1, hl', fun j p hj => ?_⟩
  obtain ⟨D, na⟩ := hp j p hj
  obtain ⟨ts, et, _⟩ := id D
  refine ⟨D.fr f fun c => ?_, fun c => ?_⟩
  · rcases h2 p c with z | ⟨o, z, y⟩
    · exact na z
    · rw [et] at z
      exact y _ (Option.some.inj z).symm
  · rcases h3 p c with z | z | ⟨o, z, y⟩
    · exact na z
    · rw [et] at z; cases z
    · rw [et] at z
      exact y _ (Option.some.inj z).symm
theorem Hms.same {K : PySem.W.Frag} {H H' : Hp} {hl : Addr} {n : Nat} {hs : List HF} {av : List Addr} (A : Hms K H hl n hs av) (s : Same H H') : Hms K H' hl n hs av := A.fr (xs := []) (.of s) (by simp) (by simp) fun x h => .inl h
theorem eqv_lnil (ns : List Int) : PyData.eqv (.list (ns.map PyData.int)) (.list []) = decide (ns = []) := by
  cases ns with
  | nil => simp [PyData.eqv, PyData.eqvAll]
  | cons n ns => simp [PyData.eqv, PyData.eqvAll]
section
variable {K : PySem.W.Frag} {CS CD : Addr}
structure JLi (K : PySem.W.Frag) (CS CD : Addr) (H : Hp) (a sc st d h r bd hl : Addr) (ss : List Int) (n S : Nat) (ds0 : List PyData) (m : MD) (es : List Ev) (hg hs hms : List HF) : Prop where
  dr : DrawAt K H a sc ss
  B : SB K CS CD H st d h r bd n S ds0 m es hg hs
  hm : Hms K H hl n hms [h, r]
  nl : hl ≠ a
section
variable {H H' : Hp} {a sc st d h r bd hl : Addr} {ss : List Int} {n S : Nat} {ds0 : List PyData} {m : MD} {es : List Ev} {hg hs hms : List HF}
theorem JLi.draw (J : JLi K CS CD H a sc st d h r bd hl ss n S ds0 m es hg hs hms) (b : But [a] H H') (D : DrawAt K H' a sc ss) : JLi K CS CD H' a sc st d h r bd hl ss n S ds0 m es hg hs hms := by
  obtain ⟨i, e⟩ := J.dr.1
  refine ⟨D, J.B.draw J.dr b, J.hm.fr (J.dr.frb b) (by simp [J.nl]) (fun x hx => .inr ⟨_, (show H x = some (.lst [V.ref sc, V.int i]) by rw [List.mem_singleton.mp hx]; exact e), fun _ z => by cases z⟩) fun x hx => .inl hx, J.nl⟩
theorem JLi.same (J : JLi K CS CD H a sc st d h r bd hl ss n S ds0 m es hg hs hms) (s : Same H H') : JLi K CS CD H' a sc st d h r bd hl ss n S ds0 m es hg hs hms := J.draw (.of s) (J.dr.same s)
theorem JLi.step (J : JLi K CS CD H a sc st d h r bd hl ss n S ds0 m es hg hs hms) (hC : CS ≠ CD) {r' : Addr} {m' : MD} {es' : List Ev} {hg' hs' : List HF} (f : Fr [st, d, h, r] H H') (hr : r' = r ∨ H r' = none) (A' : StAt K CS CD H' st d h r' m') (hb : m'.bg = m.bg) (si : SI n S ds0 m' es' hg' hs') : JLi K CS CD H' a sc st d h r' bd hl ss n S ds0 m' es' hg' hs' hms := by
  obtain ⟨hq, e, _⟩ := J.hm
  obtain ⟨n1, n2, n3, n4, _⟩ := J.B.out e
  obtain ⟨dx, beg, tr, gv, qv, e1, _⟩ := J.B.A.ex
  obtain ⟨sv, lv, ⟨dx2, a2, b2, ts, e2, _⟩, _⟩ := J.B.A.dk
  refine ⟨J.B.drawAt J.dr f, J.B.step hC f A' hb si, J.hm.fr f (by simp [n1, n2, n3, n4]) (fun x hx => ?_) fun x hx => ?_, J.nl⟩
  · simp only [List.mem_cons, List.not_mem_nil, or_false] at hx
    rcases hx with z | z | z | z
    · exact .inr ⟨_, by rw [z]; exact e1, fun _ z => by cases z⟩
    · exact .inr ⟨_, by rw [z]; exact e2, fun _ z => by cases z⟩
    · exact .inl (by simp [z])
    · exact .inl (by simp [z])
  · simp only [List.mem_cons, List.not_mem_nil, or_false] at hx
    rcases hx with z | z
    · exact .inl (by simp [z])
    · rcases hr with y | y
      · exact .inl (by simp [z, y])
      · exact .inr (.inl (by rw [z]; exact y))
/-- the list of the homes grows -/
theorem JLi.more (J : JLi K CS CD H a sc st d h r bd hl ss n S ds0 m es hg hs hms) {F : HF} {p : Addr} {acc : List V} (Dc : DcAt K H p (canonC n F)) (np : p ∉ [h, r]) (he : H hl = some (.lst acc)) (hn : 0 < hms.length) :
    JLi K CS CD (upd H hl (.lst (acc ++ [.ref p]))) a sc st d h r bd hl ss n S ds0 m es hg hs (hms ++ [F]) := by
  have f : Fr [hl] H (upd H hl (.lst (acc ++ [.ref p]))) := .put (by simp) fun u z => by rw [he] at z; cases z; rfl
  obtain ⟨hq, e2, hql, hp⟩ := J.hm
  have nl := J.nl
  have eacc : acc = hq.map V.ref := by
    rw [he] at e2
    injection e2 with e2
    injection e2
  obtain ⟨i, ea⟩ := J.dr.1
  refine ⟨?_, J.B.lst he f, ⟨hq ++ [p], by rw [upd_same, List.map_append, ← eacc]; rfl, by rw [List.length_append, List.length_append, hql]; rfl, fun j p' hj => ?_⟩, nl⟩
  · obtain ⟨_, hs0, hl0⟩ := J.dr
    refine ⟨⟨i, by rw [upd_ne nl.symm]; exact ea⟩, ?_, hl0⟩
    have keep : ∀ {o : HO}, Off [a] H sc = some o → sc ≠ hl → Off [a] (upd H hl (.lst (acc ++ [.ref p]))) sc = some o := fun {o} z hne => by
      by_cases hb : sc ∈ [a]
      · rw [off_in hb] at z; cases z
      · rw [off_out hb] at z ⊢
        rw [upd_ne hne]
        exact z
    have hsy : hl ∉ [a] := by simp [nl]
    rcases hs0 with (z | ⟨o, z⟩) | z
    · refine .inl (.inl (keep z fun c => ?_))
      rw [c, off_out hsy, he, eacc] at z
      injection z with z
      injection z with z
      match hq, ss, z with
      | [], _, _ => simp at hql; omega
      | _ :: _, [], z => cases z
      | _ :: _, _ :: _, z => cases z
    · refine .inl (.inr ⟨o, keep z fun c => ?_⟩)
      rw [c, off_out hsy, he] at z
      cases z
    · exact .inr z
  · by_cases hjl : j < hq.length
    · rw [List.getElem?_append_left hjl] at hj
      obtain ⟨D, na⟩ := hp j p' hj
      have hne : p' ∉ [hl] := fun z => by
        obtain ⟨ts, et, _⟩ := D
        rw [List.mem_singleton.mp z, he] at et
        cases et
      refine ⟨?_, na⟩
      rw [List.getD_eq_getElem?_getD, List.getElem?_append_left (by omega), ← List.getD_eq_getElem?_getD]
      exact D.fr f hne
    · rw [List.getElem?_append_right (by omega)] at hj
      have h1 := (List.getElem?_eq_some_iff.mp hj).1
      have h2 : ([p] : List Addr).length = 1 := rfl
      have ej : j = hq.length := by omega
      subst ej
      rw [Nat.sub_self] at hj
      have ep : p = p' := Option.some.inj hj
      subst ep
      have hne : p ∉ [hl] := fun z => by
        obtain ⟨ts, et, _⟩ := Dc
        rw [List.mem_singleton.mp z, he] at et
        cases et
      refine ⟨?_, np⟩
      rw [List.getD_eq_getElem?_getD, List.getElem?_append_right (by omega), hql, Nat.sub_self]
      exact Dc.fr f hne
end
end
end Pf

set_option Elab.async false
set_option linter.all false
set_option maxRecDepth 100000
set_option maxHeartbeats 4000000
namespace Pf
open PySem PySem.Spec PyProof.Rows L2 TL
/-! ### words of whole numbers -/
/-- a text of these signs -/
def mkS (l : List Nat) : Str := ⟨l.toArray⟩
theorem tl_mkS (l : List Nat) : tl (mkS l) = l := rfl
theorem mk_tlS (x : Str) : mkS (tl x) = x := TL.mk_tl x
theorem len_mkS (l : List Nat) : (mkS l).length = l.length := by rw [len_tl, tl_mkS]
/-- a word without its sign -/
def figL : List Nat → List Nat
  | 45 :: r => r
  | l => l
def isNumL (l : List Nat) : Bool := !(figL l).isEmpty && (figL l).all (fun c => decide (48 ≤ c ∧ c ≤ 57)) && (decide ((figL l).head? ≠ some 48) || decide (l = [48]))
def valL : List Nat → Int
  | 45 :: r => -((NumText.digitsVal r : Nat) : Int)
  | l => ((NumText.digitsVal l : Nat) : Int)
theorem figL_no {l : List Nat} (h : l.head? ≠ some 45) : figL l = l := by
  unfold figL
  split
  · exact absurd rfl h
  · rfl
theorem valL_no {l : List Nat} (h : l.head? ≠ some 45) : valL l = ((NumText.digitsVal l : Nat) : Int) := by
  unfold valL
  split
  · exact absurd rfl h
  · rfl
theorem num_parts {l : List Nat} (h : isNumL l = true) : figL l ≠ [] ∧ NumText.AllDigits (figL l) := by
  unfold isNumL at h
  rw [Bool.and_eq_true, Bool.and_eq_true] at h
  refine ⟨fun z => ?_, fun c hc => of_decide_eq_true (List.all_eq_true.mp h.1.2 c hc)⟩
  rw [z] at h
  exact absurd h.1.1 (by decide)
theorem int_word {w : Str} (h : isNumL (tl w) = true) (hl : w.length ≤ 640) : PySem.intText? w = some (valL (tl w)) := by
  obtain ⟨h1, h2⟩ := num_parts h
  by_cases c : (tl w).head? = some 45
  · obtain ⟨r, hr⟩ : ∃ r, tl w = 45 :: r := by
      cases e : tl w with
      | nil => rw [e] at c; cases c
      | cons x r =>
        rw [e] at c
        cases c
        exact ⟨r, rfl⟩
    rw [hr] at h1 h2 ⊢
    exact PySem.intText_neg hr h2 h1 (by omega)
  · rw [figL_no c] at h1 h2
    rw [valL_no c]
    exact PySem.intText_digits h2 h1 (by omega)
/-- the signs of a whole number -/
def iL (n : Int) : List Nat := tl (Str.ofString (toString n))
theorem iL_nat (n : Nat) : iL ((n : Nat) : Int) = numL n := tl_num n
theorem iL_neg (n : Nat) : iL (Int.negSucc n) = 45 :: numL (n + 1) := by
  show tl (Str.ofString (toString (Int.negSucc n))) = _
  rw [tl_ofString]
  show ("-" ++ Nat.repr (n + 1)).toList.map Char.toNat = _
  rw [String.toList_append, List.map_append]
  show [45] ++ _ = _
  have h := tl_num (n + 1)
  rw [tl_ofString] at h
  exact congrArg (fun l => 45 :: l) h
theorem numL_head : ∀ n : Nat, 0 < n → (numL n).head? ≠ some 48 := fun n => by
  induction n using Nat.strongRecOn with
  | _ n ih =>
    intro h0
    by_cases h : n < 10
    · rw [numL_lt h]
      intro z
      have : 48 + n = 48 := Option.some.inj z
      omega
    · rw [numL_step (by omega)]
      have := ih (n / 10) (by omega) (by omega)
      cases e : numL (n / 10) with
      | nil => exact absurd e (numL_ne _)
      | cons x r => rw [e] at this; exact this
theorem numL_no (n : Nat) : (numL n).head? ≠ some 45 := fun z => by
  have hm : 45 ∈ numL n := List.mem_of_mem_head? z
  exact numL_free (n := n) (s := 45) (by decide) hm
theorem num_numL (n : Nat) : isNumL (numL n) = true := by
  unfold isNumL
  rw [figL_no (numL_no n)]
  rw [Bool.and_eq_true, Bool.and_eq_true, Bool.or_eq_true]
  refine ⟨⟨?_, List.all_eq_true.mpr fun c hc => decide_eq_true (numL_digits n c hc)⟩, ?_⟩
  · cases e : numL n with
    | nil => exact absurd e (numL_ne n)
    | cons x r => rfl
  · by_cases h : n = 0
    · subst h
      exact .inr (by rw [numL_lt (by decide)]; decide)
    · exact .inl (decide_eq_true (numL_head n (by omega)))
theorem num_iL (n : Int) : isNumL (iL n) = true := by
  cases n with
  | ofNat n => exact (congrArg isNumL (iL_nat n)).trans (num_numL n)
  | negSucc n =>
    rw [iL_neg]
    have h1 := num_numL (n + 1)
    unfold isNumL at h1 ⊢
    rw [figL_no (numL_no (n + 1))] at h1
    show (!(numL (n + 1)).isEmpty && (numL (n + 1)).all _ && (decide ((numL (n + 1)).head? ≠ some 48) || decide (45 :: numL (n + 1) = [48]))) = true
    rw [Bool.and_eq_true] at h1 ⊢
    exact ⟨h1.1, by rw [decide_eq_true (numL_head (n + 1) (by omega))]; rfl⟩
theorem val_iL (n : Int) : valL (iL n) = n := by
  cases n with
  | ofNat n =>
    refine (congrArg valL (iL_nat n)).trans ?_
    rw [valL_no (numL_no n), numL_val]
    rfl
  | negSucc n =>
    rw [iL_neg]
    show -((NumText.digitsVal (numL (n + 1)) : Nat) : Int) = _
    rw [numL_val]
    rfl
theorem iL_free {n : Int} {s : Nat} (h : s < 45 ∨ s = 46 ∨ s = 47 ∨ 57 < s) : s ∉ iL n := by
  cases n with
  | ofNat n =>
    intro z
    have z' : s ∈ numL n := (iL_nat n) ▸ z
    exact numL_free (by omega) z'
  | negSucc n =>
    rw [iL_neg]
    intro z
    rcases List.mem_cons.mp z with z | z
    · omega
    · exact numL_free (by omega) z
theorem iL_ne (n : Int) : iL n ≠ [] := fun z => by
  have := num_iL n
  rw [z] at this
  exact absurd this (by decide)
/-- a number of few figures -/
def Few (n : Int) : Prop := n.natAbs < 10 ^ 30
theorem few_len {n : Int} (h : Few n) : (iL n).length ≤ 31 := by
  cases n with
  | ofNat n =>
    have e : iL (Int.ofNat n) = numL n := iL_nat n
    rw [e]
    have h' : n < 10 ^ 30 := h
    exact Nat.le_trans (numL_len (by decide) h') (by decide)
  | negSucc n =>
    rw [iL_neg]
    have h' : n + 1 < 10 ^ 30 := h
    have h3 := numL_len (n := n + 1) (k := 30) (by decide) h'
    show (numL (n + 1)).length + 1 ≤ 31
    omega
theorem few_log {n : Int} (h : Few n) : n.natAbs.log2 < 1920 := by
  by_cases c : n.natAbs = 0
  · rw [c]; decide
  · rw [Nat.log2_lt c]
    have h' : n.natAbs < 10 ^ 30 := h
    exact Nat.lt_trans h' (by decide)
end Pf

set_option Elab.async false
set_option linter.all false
set_option maxRecDepth 100000
set_option maxHeartbeats 4000000
namespace Pf
open PySem PySem.Spec PyProof.Rows L2 TL
def isShL (l : List Nat) : Bool := decide ((figL l).length ≤ 4000) && isNumL l
def isInL (lo hi : Int) (l : List Nat) : Bool := isShL l && (decide (lo ≤ valL l) && decide (valL l ≤ hi))
theorem starts_pre {x y : Str} (hy : tl y ≠ []) : Txt.startswith x y = pre (tl y) (tl x) := by
  have h := at_iff (x := x) (y := y) hy 0
  rw [List.drop_zero] at h
  rw [Bool.eq_iff_iff, ← h]
  unfold Txt.startswith
  rw [Bool.and_eq_true, decide_eq_true_iff]
  rfl
theorem pre_dash (l : List Nat) : pre [45] l = decide (l.head? = some 45) := by
  unfold pre
  cases l with
  | nil => rfl
  | cons x r =>
    show ([x] == [45]) = decide (some x = some 45)
    by_cases c : x = 45
    · subst c; rfl
    · rw [decide_eq_false (fun z => c (Option.some.inj z))]
      simp [c]
theorem tl_cut1 (w : Str) : tl (cutS w (some 1) none) = (tl w).tail := by
  show (((w.cps.toList.drop (HT.sIx w.length 0 (some ((1 : Nat) : Int)))).take (HT.sIx w.length w.length none - HT.sIx w.length 0 (some ((1 : Nat) : Int))))) = _
  rw [HT.sIx_nat, HT.sIx_none]
  have hl : w.cps.toList.length = w.length := len_tl w ▸ rfl
  cases e : w.cps.toList with
  | nil => simp [e]
  | cons x r =>
    rw [e] at hl
    have h1 : min 1 w.length = 1 := by
      rw [← hl]
      show min 1 (r.length + 1) = 1
      omega
    rw [h1, List.drop_succ_cons, List.drop_zero]
    show r.take _ = (tl w).tail
    rw [show tl w = x :: r from e, List.tail_cons]
    exact List.take_of_length_le (by rw [← hl]; show r.length ≤ r.length + 1 - 1; omega)
section
variable {P : Program} {w : World} {K : PySem.W.Frag} {mg : Str → Option Value} {base : Heap}
theorem scFigs : FnScope ["word"] ["word"] (defScope sFigs) := ⟨rfl, rfl, rfl, by decide +kernel, rfl, by decide +kernel, by decide +kernel⟩
theorem scNw : FnScope ["word", "figures", "figure"] ["word"] (defScope sNw) := ⟨rfl, rfl, rfl, by decide +kernel, rfl, by decide +kernel, by decide +kernel⟩
theorem scSnw : FnScope ["word"] ["word"] (defScope sSnw) := ⟨rfl, rfl, rfl, by decide +kernel, rfl, by decide +kernel, by decide +kernel⟩
theorem scNin : FnScope ["word", "low", "high"] ["word", "low", "high"] (defScope sNin) := ⟨rfl, rfl, rfl, by decide +kernel, rfl, by decide +kernel, by decide +kernel⟩
theorem scWordAt : FnScope ["words", "place"] ["words", "place"] (defScope sWordAt) := ⟨rfl, rfl, rfl, by decide +kernel, rfl, by decide +kernel, by decide +kernel⟩
def spFigs : Sp := fun vs H Q _ => ∃ z : Str, vs = [.str z] ∧ z.length ≤ 100000 ∧ Q (.str (mkS (figL (tl z)))) H
theorem ok_figs {f : Addr} {fd : FuncData} (F : Fun K "figures_of" "figures_of" sFigs f fd) : FnOk P w K mg base CX0 1 f fd ["word"] spFigs := by
  refine F.ok scFigs (fun vs H Q E h => ?_) (fun cdv A outer s H vs Q E hr h => ?_)
  · obtain ⟨z, rfl, _⟩ := h
    rfl
  · obtain ⟨z, rfl, hz, k⟩ := h
    refine ⟨_, pss_one (ps_ret (pe_ifExp (pt_val (pe_m1 PySem.F.slot_str_startswith PySem.F.type_str_startswith mt_startswith (pv 0) pe_str)) (pe_slice sl_str (pv 0) (po_some pe_int) po_none) (pv 0))), ?_⟩
    refine ⟨_, rfl, ⟨_, rfl⟩, z, _, rfl, rfl, ?_⟩
    rw [starts_pre (by rw [tl_ofString]; decide), show tl (Str.ofString "-") = [45] from by rw [tl_ofString]; rfl, pre_dash]
    refine ⟨_, rfl, ite2 (fun hc => ?_) (fun hc => ?_)⟩
    · have hc' := of_decide_eq_true hc
      (try dsimp -proj only [tNoPart])
      refine ⟨_, rfl, _, rfl, z, rfl, by rw [sizeLine_eq]; omega, ?_⟩
      have e : cutS z (some (1 : Int)) none = mkS (figL (tl z)) := TL.ext_tl (by
        rw [tl_cut1, tl_mkS]
        cases hz : tl z with
        | nil => rw [hz] at hc'; cases hc'
        | cons x r =>
          rw [hz] at hc'
          cases hc'
          rfl)
      rw [e]
      exact k
    · have hc' : (tl z).head? ≠ some 45 := fun y => hc (decide_eq_true y)
      refine ⟨_, rfl, ?_⟩
      rw [figL_no hc', mk_tlS] at k
      exact k
theorem figL_len (l : List Nat) : (figL l).length ≤ l.length := by
  unfold figL
  split
  · rw [List.length_cons]; omega
  · exact Nat.le_refl _
theorem figs_in (c : Nat) : decide (c ∈ (("0123456789" : Str)).cps.toList) = decide (48 ≤ c ∧ c ≤ 57) := by
  have e : (("0123456789" : Str)).cps.toList = [48, 49, 50, 51, 52, 53, 54, 55, 56, 57] := by
    show tl (Str.ofString "0123456789") = _
    rw [tl_ofString]
    rfl
  rw [e, Bool.eq_iff_iff, decide_eq_true_iff, decide_eq_true_iff]
  simp only [List.mem_cons, List.not_mem_nil, or_false]
  omega
theorem str_eq {x y : Str} : decide (V.str x = V.str y) = decide (tl x = tl y) := by
  rw [Bool.eq_iff_iff, decide_eq_true_iff, decide_eq_true_iff]
  constructor
  · intro h
    injection h with h
    rw [h]
  · intro h
    rw [TL.ext_tl h]
def spNw : Sp := fun vs H Q _ => ∃ z : Str, vs = [.str z] ∧ z.length ≤ 100000 ∧ ∀ H', Same H H' → Q (.bl (isNumL (tl z))) H'
theorem ok_nw {f fF : Addr} {fd dF : FuncData} (F : Fun K "is_number_word" "is_number_word" sNw f fd) (DF : Df P w K mg base CX0 1 "figures_of" ["word"] spFigs fF dF) {th : Tok} (mF : mg "FIGURES" = some (.str ("0123456789" : Str) th)) (mal : mg "all" = none) : FnOk P w K mg base CX0 2 f fd ["word"] spNw := by
  refine F.ok scNw (fun vs H Q E h => ?_) (fun cdv A outer s H vs Q E hr h => ?_)
  · obtain ⟨z, rfl, _⟩ := h
    rfl
  · obtain ⟨z, rfl, hz, k⟩ := h
    have nd := scNw.nd
    have h1 : Room 1 _ := hr.mono (by decide)
    refine ⟨_, pss_cons (ps_set (i := 1) nd rfl (.inl rfl) (pe_call DF.G h1 rfl DF.g DF.kp DF.b .nil pass0 (pa_cons (pv 0) pa_nil)))
      (pss_cons (ps_if (PW.pt (pw_or (pt_cmpR op_eq (pv 1) pe_str (nomark _)) (pw_or1 (pt_not (pt_val (pe_callB (cr_all rfl) (by rfl) mal boot_all (pa_cons
          (pe_lc (own := [("figure", 2)]) (g := gName 2) (tt := tYes) (te := tOp rInS (tVar 2) (tC (.str ("0123456789" : Str)))) rfl nd (pi_str (pv 1)) (blkOk_by (N := ["word", "figures", "figure"]) (sc := defScope sNw) (by decide +kernel))
            (fun _ _ _ _ _ => pg_name (i := 2) nd rfl (.inl rfl)) (fun _ _ _ _ _ => pts_nil)
            (fun _ _ _ _ _ => pe_cmpR op_inS (pv 2) (pe_glob (v := .str ("0123456789" : Str)) rfl mF ⟨_, rfl⟩) (by rfl))) pa_nil))))))) (pss_one (ps_ret pe_bl)) pss_nil)
      (pss_one (ps_ret (pe_or (pe_cmpR op_ne (pe_ix ix_str (pv 1) pe_int (fun _ _ => rfl)) pe_str (nomark _)) (pe_one (pe_cmpR op_eq (pv 0) pe_str (nomark _))))))), ?_⟩
    have hl : (figL (tl z)).length ≤ 100000 := by
      have h9 : (tl z).length = z.length := (len_tl z).symm
      unfold figL
      split
      · rename_i e
        rw [e] at h9
        have h8 : (45 :: _).length = z.length := h9
        rw [List.length_cons] at h8
        omega
      · omega
    have hnum : isNumL (tl z) = (!(figL (tl z)).isEmpty && (figL (tl z)).all (fun c => decide (48 ≤ c ∧ c ≤ 57)) && (decide ((figL (tl z)).head? ≠ some 48) || decide (tl z = [48]))) := rfl
    rw [hnum] at k
    generalize hfl : figL (tl z) = fl at hl k
    refine ⟨_, rfl, z, rfl, hz, ?_⟩
    rw [hfl]
    refine ⟨_, rfl, rfl, ?_⟩
    rw [str_eq, tl_mkS, show tl (("" : Str)) = [] from by show tl (Str.ofString "") = []; rw [tl_ofString]; rfl]
    by_cases h0 : fl = []
    · subst h0
      exact ⟨_, rfl, iteT (iteT (k H (Same.refl _)))⟩
    rw [decide_eq_false h0]
    refine ⟨_, rfl, iteF ?_⟩
    refine ⟨_, rfl, mkS fl, rfl, fun D hD => lc_it (walk_str (z := mkS fl)) (fun i H' => Same H H' ∧ H' D = some (.lst ((fl.take i).map fun c => V.bl (decide (48 ≤ c ∧ c ≤ 57))))) ⟨same_upd hD, upd_same⟩ (fun _ _ _ _ => trivial) ?_ ?_⟩
    · rintro i x Hy Hz hi ⟨sy, ey⟩ ⟨rfl, c, hc, rfl⟩
      have hc' : fl[i]? = some c := by
        have h9 : fl.toArray[i]? = some c := hc
        rwa [List.getElem?_toArray] at h9
      refine ⟨rfl, tyes_go ⟨_, rfl, c, _, rfl, rfl, _, ey, ?_, fun b o q => ?_, ?_⟩⟩
      · rw [List.length_map, List.length_take, sizeLine_eq]
        omega
      · rw [upd_ne (ne_of_none q hD)]
        exact sy _ _ q
      · rw [upd_same, figs_in, List.take_add_one, hc', List.map_append]
        rfl
    · rintro Hz ⟨sz, ez⟩
      have e9 : fl.take (mkS fl).cps.size = fl := by
        show fl.take fl.toArray.size = fl
        rw [List.size_toArray, List.take_length]
      rw [e9] at ez
      have e8 : (fl.map fun c => V.bl (decide (48 ≤ c ∧ c ≤ 57))) = (fl.map fun c => decide (48 ≤ c ∧ c ≤ 57)).map V.bl := by rw [List.map_map]; rfl
      rw [e8] at ez
      refine ⟨D, _, rfl, SqL.of ez, _, rfl, ?_⟩
      rw [List.all_map]
      have hid : (id ∘ fun c => decide (48 ≤ c ∧ c ≤ 57)) = fun c : Nat => decide (48 ≤ c ∧ c ≤ 57) := rfl
      rw [hid]
      have k' := k Hz sz
      cases hb : fl.all (fun c => decide (48 ≤ c ∧ c ≤ 57)) with
      | false =>
        rw [hb, Bool.and_false, Bool.false_and] at k'
        exact iteT k'
      | true =>
        rw [hb, Bool.and_true] at k'
        refine iteF ?_
        cases fl with
        | nil => exact absurd rfl h0
        | cons x0 r =>
        have e0 : tl (("0" : Str)) = [48] := by
          show tl (Str.ofString "0") = _
          rw [tl_ofString]
          rfl
        refine ⟨_, rfl, mkS (x0 :: r), 0, x0, rfl, rfl, by rw [len_mkS, sizeLine_eq]; omega, atI_nat (j := 0) (xs := x0 :: r) rfl, rfl, ?_⟩
        rw [str_eq, e0]
        have hh : (decide ((x0 :: r).head? ≠ some 48)) = !decide (tl (⟨#[x0]⟩ : Str) = [48]) := by
          show decide (some x0 ≠ some 48) = !decide ([x0] = [48])
          by_cases c : x0 = 48
          · subst c; rfl
          · simp [c]
        rw [hh] at k'
        cases hx : decide (tl (⟨#[x0]⟩ : Str) = [48]) with
        | false =>
          rw [hx] at k'
          exact ⟨_, rfl, iteT k'⟩
        | true =>
          rw [hx] at k'
          refine ⟨_, rfl, iteF ⟨_, rfl, rfl, ?_⟩⟩
          rw [str_eq, e0]
          exact k'
def spSnw : Sp := fun vs H Q _ => ∃ z : Str, vs = [.str z] ∧ z.length ≤ 100000 ∧ ∀ H', Same H H' → Q (.bl (isShL (tl z))) H'
theorem ok_snw {f fF fN : Addr} {fd dF dN : FuncData} (F : Fun K "is_short_number_word" "is_short_number_word" sSnw f fd) (DF : Df P w K mg base CX0 1 "figures_of" ["word"] spFigs fF dF) (DN : Df P w K mg base CX0 2 "is_number_word" ["word"] spNw fN dN) {th : Tok} (mM : mg "MOST_FIGURES" = some (.int 4000 th)) (ml : mg "len" = none) : FnOk P w K mg base CX0 3 f fd ["word"] spSnw := by
  refine F.ok scSnw (fun vs H Q E h => ?_) (fun cdv A outer s H vs Q E hr h => ?_)
  · obtain ⟨z, rfl, _⟩ := h
    rfl
  · obtain ⟨z, rfl, hz, k⟩ := h
    have nd := scSnw.nd
    have h1 : Room 1 _ := hr.mono (by decide)
    have h2 : Room 2 _ := hr.mono (by decide)
    refine ⟨_, pss_one (ps_ret (pe_and (pe_cmp (pc_le (pe_callB call_len_str (by rfl) ml boot_len (pa_cons (pe_call DF.G h1 rfl DF.g DF.kp DF.b .nil pass0 (pa_cons (pv 0) pa_nil)) pa_nil)) (pe_glob (v := .int 4000) rfl mM ⟨_, rfl⟩))) (pe_one (pe_call DN.G h2 rfl DN.g DN.kp DN.b .nil pass0 (pa_cons (pv 0) pa_nil))))), ?_⟩
    have hfl := figL_len (tl z)
    rw [← len_tl] at hfl
    have hk : isShL (tl z) = (decide ((figL (tl z)).length ≤ 4000) && isNumL (tl z)) := rfl
    rw [hk] at k
    refine ⟨_, rfl, z, rfl, hz, _, rfl, by rw [len_mkS, sizeLine_eq]; omega, _, _, rfl, rfl, ?_⟩
    rw [len_mkS]
    refine ⟨_, rfl, ite2 (fun hc => ?_) (fun hc => ?_)⟩
    · have c : (figL (tl z)).length ≤ 4000 := by
        have := of_decide_eq_true hc
        omega
      rw [decide_eq_true c, Bool.true_and] at k
      exact ⟨_, rfl, z, rfl, hz, fun H' s' => k H' s'⟩
    · have c : ¬ (figL (tl z)).length ≤ 4000 := fun y => hc (decide_eq_true (by omega))
      rw [decide_eq_false c, Bool.false_and] at k
      exact k H (Same.refl _)
def spNin : Sp := fun vs H Q _ => ∃ (z : Str) (lo hi : Int), vs = [.str z, .int lo, .int hi] ∧ z.length ≤ 100000 ∧ (isShL (tl z) = true → z.length ≤ 640) ∧ ∀ H', Same H H' → Q (.bl (isInL lo hi (tl z))) H'
theorem ok_nin {f fS : Addr} {fd dS : FuncData} (F : Fun K "is_number_within" "is_number_within" sNin f fd) (DS : Df P w K mg base CX0 3 "is_short_number_word" ["word"] spSnw fS dS) (mi : mg "int" = none) : FnOk P w K mg base CX0 4 f fd ["word", "low", "high"] spNin := by
  refine F.ok scNin (fun vs H Q E h => ?_) (fun cdv A outer s H vs Q E hr h => ?_)
  · obtain ⟨z, lo, hi, rfl, _⟩ := h
    rfl
  · obtain ⟨z, lo, hi, rfl, hz, h6, k⟩ := h
    have nd := scNin.nd
    have h3 : Room 3 _ := hr.mono (by decide)
    refine ⟨_, pss_one (ps_ret (pe_and (pe_call DS.G h3 rfl DS.g DS.kp DS.b .nil pass0 (pa_cons (pv 0) pa_nil)) (pe_one (pe_chain op_le op_le (pv 1) (pe_callTy call_int_str (by rfl) mi boot_int (pa_cons (pv 0) pa_nil)) (pv 2))))), ?_⟩
    have hk : isInL lo hi (tl z) = (isShL (tl z) && (decide (lo ≤ valL (tl z)) && decide (valL (tl z) ≤ hi))) := rfl
    rw [hk] at k
    refine ⟨_, rfl, z, rfl, hz, fun H1 s1 => ⟨_, rfl, ?_⟩⟩
    cases hs : isShL (tl z) with
    | false =>
      rw [hs, Bool.false_and] at k
      exact iteF (k H1 s1)
    | true =>
      rw [hs, Bool.true_and] at k
      have hn : isNumL (tl z) = true := by
        unfold isShL at hs
        rw [Bool.and_eq_true] at hs
        exact hs.2
      refine iteT ⟨_, rfl, _, rfl, z, _, rfl, int_word hn (h6 hs), h6 hs, _, _, rfl, rfl, ?_⟩
      refine ⟨_, rfl, ite2 (fun hc => ?_) (fun hc => ?_)⟩
      · rw [decide_eq_true (of_decide_eq_true hc), Bool.true_and] at k
        exact ⟨_, rfl, _, _, rfl, rfl, k H1 s1⟩
      · have c : ¬ lo ≤ valL (tl z) := fun y => hc (decide_eq_true y)
        rw [decide_eq_false c, Bool.false_and] at k
        exact k H1 s1
def spWordAt (K : PySem.W.Frag) : Sp := fun vs H Q _ => ∃ (p : Addr) (ws : List Str) (i : Nat), vs = [.ref p, .int ((i : Nat) : Int)] ∧ SqL K H p (ws.map V.str) ∧ Q (.str (ws.getD i ("" : Str))) H
theorem ok_wordAt {f : Addr} {fd : FuncData} (F : Fun K "word_at" "word_at" sWordAt f fd) (ml : mg "len" = none) : FnOk P w K mg base CX0 1 f fd ["words", "place"] (spWordAt K) := by
  refine F.ok scWordAt (fun vs H Q E h => ?_) (fun cdv A outer s H vs Q E hr h => ?_)
  · obtain ⟨p, ws, i, rfl, _⟩ := h
    rfl
  · obtain ⟨p, ws, i, rfl, hp, k⟩ := h
    have nd := scWordAt.nd
    refine ⟨_, pss_one (ps_ret (pe_ifExp (pt_cmpR op_lt (pv 1) (pe_callB call_len_seq (by rfl) ml boot_len (pa_cons (pv 0) pa_nil)) (nomark _)) (pe_ix ix_list (pv 0) (pv 1) (fun _ _ => rfl)) pe_str)), ?_⟩
    refine ⟨_, rfl, _, rfl, p, _, rfl, .inl hp, _, _, rfl, rfl, _, rfl, ite2 (fun hc => ?_) (fun hc => ?_)⟩
    · have hc' := of_decide_eq_true hc
      rw [List.length_map] at hc'
      have hi : i < ws.length := by omega
      refine ⟨_, rfl, _, rfl, p, _, _, _, rfl, rfl, hp, atI_nat (j := i) (by rw [List.getElem?_map, List.getElem?_eq_getElem hi]; rfl), ?_⟩
      rw [List.getD_eq_getElem?_getD, List.getElem?_eq_getElem hi] at k
      exact k
    · have hi : ¬ i < ws.length := fun z => hc (decide_eq_true (by rw [List.length_map]; omega))
      rw [List.getD_eq_getElem?_getD, List.getElem?_eq_none (by omega)] at k
      exact k
end
end Pf

set_option Elab.async false
set_option linter.all false
set_option maxRecDepth 100000
set_option maxHeartbeats 4000000
namespace Pf
open PySem PySem.Spec PyProof.Rows L2 TL
/-! ### what stands on a plate, as a word -/
abbrev Ov := Option (List Int)
def dV : Ov → PyData
  | none => .none
  | some ns => rowD ns
def OFew : Ov → Prop
  | none => True
  | some ns => ns.length ≤ 100 ∧ ∀ n ∈ ns, Few n
def tornL : List Nat := [116, 111, 114, 110]
def emptyL : List Nat := [101, 109, 112, 116, 121]
def txN (ns : List Int) : List Nat := if ns = [] then emptyL else joinL [44] (ns.map iL)
def txO : Ov → List Nat
  | none => tornL
  | some ns => txN ns
theorem tl_torn : tl (("torn" : Str)) = tornL := by
  show tl (Str.ofString "torn") = _
  rw [tl_ofString]; rfl
theorem tl_empty : tl (("empty" : Str)) = emptyL := by
  show tl (Str.ofString "empty") = _
  rw [tl_ofString]; rfl
theorem tl_comma : tl (("," : Str)) = [44] := by
  show tl (Str.ofString ",") = _
  rw [tl_ofString]; rfl
theorem tl_blank : tl ((" " : Str)) = [32] := by
  show tl (Str.ofString " ") = _
  rw [tl_ofString]; rfl
theorem tl_nil : tl (("" : Str)) = [] := by
  show tl (Str.ofString "") = _
  rw [tl_ofString]; rfl
theorem split_tl (x : Str) (s : Nat) (y : Str) (hy : tl y = [s]) (hs : s < 256) : (Txt.split x y).map tl = spl [s] 0 [] (tl x) := by
  rw [split_spl x y (by rw [hy]; simp) (kind_ok ?_), hy]
  have e : y.cps.toList = [s] := hy
  have h2 : y.cps = #[s] := by
    rw [← Array.toArray_toList (xs := y.cps), e]
  rw [h2]
  simp [hs]
theorem map_tl {ws : List Str} {ls : List (List Nat)} (h : ws.map tl = ls) : ws = ls.map mkS := by
  rw [← h, List.map_map]
  exact (List.map_id' ws).symm.trans (List.map_congr_left fun w _ => (mk_tlS w).symm)
theorem iL_no44 (n : Int) : 44 ∉ iL n := iL_free (.inl (by decide))
theorem iL_no32 (n : Int) : 32 ∉ iL n := iL_free (.inl (by decide))
theorem split_num {x : Str} {ns : List Int} (h : ns ≠ []) (hx : tl x = joinL [44] (ns.map iL)) : Txt.split x ("," : Str) = ns.map fun n => mkS (iL n) := by
  have h1 := split_tl x 44 ("," : Str) tl_comma (by decide)
  rw [hx, spl_join (by simpa using h) (fun p hp => by
    obtain ⟨n, _, rfl⟩ := List.mem_map.mp hp
    exact iL_no44 n)] at h1
  rw [map_tl h1, List.map_map]
  rfl
theorem txN_head {ns : List Int} (h : ns ≠ []) : ∃ c r, joinL [44] (ns.map iL) = c :: r ∧ (c = 45 ∨ (48 ≤ c ∧ c ≤ 57)) := by
  cases ns with
  | nil => exact absurd rfl h
  | cons n ns =>
    have hc : ∀ c r, iL n = c :: r → (c = 45 ∨ (48 ≤ c ∧ c ≤ 57)) := fun c r e => by
      have h2 : ∀ s, (s < 45 ∨ s = 46 ∨ s = 47 ∨ 57 < s) → c ≠ s := fun s hs z => iL_free (n := n) hs (by rw [e, ← z]; exact List.mem_cons_self)
      by_cases a : c = 45
      · exact .inl a
      · refine .inr ⟨?_, ?_⟩
        · refine Decidable.byContradiction fun z => h2 c (by omega) rfl
        · refine Decidable.byContradiction fun z => h2 c (by omega) rfl
    cases e : iL n with
    | nil => exact absurd e (iL_ne n)
    | cons c r =>
      cases ns with
      | nil => exact ⟨c, r, by show iL n = _; exact e, hc c r e⟩
      | cons m ms => exact ⟨c, r ++ ([44] ++ joinL [44] ((m :: ms).map iL)), by show iL n ++ ([44] ++ joinL [44] ((m :: ms).map iL)) = _; rw [e]; rfl, hc c r e⟩
theorem txN_ne_torn {ns : List Int} (h : ns ≠ []) : joinL [44] (ns.map iL) ≠ tornL := fun z => by
  obtain ⟨c, r, e, hc⟩ := txN_head h
  rw [e] at z
  injection z with z _
  omega
theorem txN_ne_empty {ns : List Int} (h : ns ≠ []) : joinL [44] (ns.map iL) ≠ emptyL := fun z => by
  obtain ⟨c, r, e, hc⟩ := txN_head h
  rw [e] at z
  injection z with z _
  omega
section
variable {P : Program} {w : World} {K : PySem.W.Frag} {mg : Str → Option Value} {base : Heap}
theorem scVt : FnScope ["value", "number"] ["value"] (defScope sVt) := ⟨rfl, rfl, rfl, by decide +kernel, rfl, by decide +kernel, by decide +kernel⟩
theorem scIvw : FnScope ["word", "part"] ["word"] (defScope sIvw) := ⟨rfl, rfl, rfl, by decide +kernel, rfl, by decide +kernel, by decide +kernel⟩
theorem scVo : FnScope ["word", "part"] ["word"] (defScope sVo) := ⟨rfl, rfl, rfl, by decide +kernel, rfl, by decide +kernel, by decide +kernel⟩
def spVt (K : PySem.W.Frag) : Sp := fun vs H Q _ => ∃ (v : V) (o : Ov), vs = [v] ∧ Dp K (Tp H) v (dV o) ∧ OFew o ∧ ∀ H', Same H H' → Q (.str (mkS (txO o))) H'
abbrev tStr (j : Nat) : TE := tCB (fun xs H Q => ∃ i : Int, xs = [.int i] ∧ i.natAbs.log2 < 1920 ∧ Q (.str (toString i)) H) (tCons (tVar j) tNil)
theorem eqv_none_tup (ds : List PyData) : PyData.eqv .none (.tuple ds) = false := by simp [PyData.eqv]
theorem sum_le : ∀ {ls : List Str} {k : Nat}, (∀ x ∈ ls, x.length ≤ k) → (ls.map (·.length)).sum ≤ ls.length * k
  | [], _, _ => Nat.le_of_eq (Nat.zero_mul _).symm
  | x :: ls, k, h => by
    have h1 := sum_le (ls := ls) fun y hy => h y (List.mem_cons_of_mem _ hy)
    have h2 := h x List.mem_cons_self
    rw [List.map_cons, List.sum_cons, List.length_cons, Nat.add_mul]
    omega
theorem ok_vt {f : Addr} {fd : FuncData} (F : Fun K "value_text" "value_text" sVt f fd) (ms : mg "str" = none) : FnOk P w K mg base CX0 1 f fd ["value"] (spVt K) := by
  refine F.ok scVt (fun vs H Q E h => ?_) (fun cdv A outer s H vs Q E hr h => ?_)
  · obtain ⟨v, o, rfl, _⟩ := h
    rfl
  · obtain ⟨v, o, rfl, hd, hf, k⟩ := h
    have nd := scVt.nd
    refine ⟨_, pss_cons (ps_if (pt_cmpR op_isN (pv 0) pe_non (nomark _)) (pss_one (ps_ret pe_str)) pss_nil)
      (pss_cons (ps_if (pt_cmpR (op_eqD hr.units) (pv 0) (pe_tup pa_nil) (nomark _)) (pss_one (ps_ret pe_str)) pss_nil)
      (pss_one (ps_ret (pe_join pe_str (pe_lc (own := [("number", 1)]) (g := gName 1) (tt := tYes) (te := tStr 1) rfl nd (pi_tup (pv 0)) (blkOk_by (N := ["value", "number"]) (sc := defScope sVt) (by decide +kernel))
            (fun _ _ _ _ _ => pg_name (i := 1) nd rfl (.inl rfl)) (fun _ _ _ _ _ => pts_nil)
            (fun _ _ _ _ _ => pe_callTy call_str_int (by rfl) ms (by decide +kernel) (pa_cons (pv 1) pa_nil))))))), ?_⟩
    cases o with
    | none =>
      have ev : v = .non := by cases hd; rfl
      subst ev
      refine ⟨_, rfl, rfl, _, rfl, iteT ?_⟩
      have e : ("torn" : Str) = mkS (txO none) := TL.ext_tl (by rw [tl_torn, tl_mkS]; rfl)
      show Q (.str ("torn" : Str)) H
      rw [e]
      exact k H (Same.refl _)
    | some ns =>
      obtain ⟨a, rfl, ha⟩ := row_read hd
      have hq : SqT K H a (ns.map V.int) := same_seqT tp_le ha
      refine ⟨_, rfl, rfl, _, rfl, iteF ?_⟩
      refine ⟨_, rfl, (by show 0 ≤ sizeLine; decide), fun em hem => ?_⟩
      have s1 := same_upd (o := .tup []) hem
      refine ⟨rowD ns, .tuple [], .tup (same_seqT s1 hq) (dps_ints _), .tup (SqT.of upd_same) .nil, shaped_tup (lay_ints _) (by rw [dep_ints]; decide), by decide +kernel, ?_⟩
      have eq0 : PyData.eqv (rowD ns) (.tuple []) = decide (ns = []) := by
        cases ns with
        | nil => simp [rowD, PyData.eqv, PyData.eqvAll]
        | cons n ns => simp [rowD, PyData.eqv, PyData.eqvAll]
      rw [eq0]
      refine ⟨_, rfl, ite2 (fun hc => ?_) (fun hc => ?_)⟩
      · have hn := of_decide_eq_true hc
        subst hn
        have e : ("empty" : Str) = mkS (txO (some [])) := TL.ext_tl (by rw [tl_empty, tl_mkS]; rfl)
        show Q (.str ("empty" : Str)) _
        rw [e]
        exact k _ s1
      · have hn : ns ≠ [] := fun z => hc (decide_eq_true z)
        refine ⟨⟨_, rfl⟩, _, rfl, a, rfl, ⟨_, same_seqT s1 hq⟩, fun D hD => lc_tup (K := K) (a := a) (xs := ns.map V.int) (fun i H' => Same (upd H em (.tup [])) H' ∧ H' D = some (.lst ((ns.take i).map fun n => V.str (mkS (iL n))))) ⟨same_upd hD, upd_same⟩ (fun i H' _ z => same_seqT (s1.trans z.1) hq) ?_ ?_⟩
        · rintro i x Hy hi ⟨sy, ey⟩
          rw [List.getElem?_map] at hi
          cases hni : ns[i]? with
          | none => rw [hni] at hi; cases hi
          | some n =>
          rw [hni] at hi
          have ev : V.int n = x := Option.some.inj hi
          subst ev
          have hfn := hf.2 n (List.mem_of_getElem? hni)
          refine ⟨rfl, tyes_go ⟨_, rfl, n, rfl, few_log hfn, _, ey, ?_, fun b o q => ?_, ?_⟩⟩
          · rw [List.length_map, List.length_take, sizeLine_eq]
            have := hf.1
            omega
          · rw [upd_ne (ne_of_none q hD)]
            exact sy _ _ q
          · rw [upd_same, List.take_add_one, hni, List.map_append]
            have e : mkS (iL n) = Str.ofString (toString n) := mk_tlS _
            show some (HO.lst (_ ++ [V.str (mkS (iL n))])) = _
            rw [e]
            rfl
        · rintro Hz ⟨sz, ez⟩
          rw [List.length_map, List.take_length] at ez
          have e8 : (ns.map fun n => V.str (mkS (iL n))) = (ns.map fun n => mkS (iL n)).map V.str := by rw [List.map_map]; rfl
          rw [e8] at ez
          refine ⟨_, D, ns.map (fun n => mkS (iL n)), rfl, rfl, .inl (SqL.of ez), ?_, ?_⟩
          · have h1 := sum_le (ls := ns.map (fun n => mkS (iL n))) (k := 31) fun x hx => by
              obtain ⟨n, hn2, rfl⟩ := List.mem_map.mp hx
              rw [len_mkS]
              exact few_len (hf.2 n hn2)
            have h2 := hf.1
            have h3 : (("," : Str)).length = 1 := by rw [len_tl, tl_comma]; rfl
            rw [List.length_map] at h1 ⊢
            have h4 : (Str.ofString ",").length = 1 := h3
            rw [h4]
            omega
          · have e : Txt.join ("," : Str) (ns.map fun n => mkS (iL n)) = mkS (txO (some ns)) := TL.ext_tl (by
              rw [join_eq, tl_join, tl_comma, tl_mkS]
              show _ = txN ns
              unfold txN
              rw [if_neg hn, List.map_map]
              rfl)
            show Q (.str (Txt.join ("," : Str) (ns.map fun n => mkS (iL n)))) _
            rw [e]
            exact k _ (s1.trans sz)
def isVS (z : Str) : Bool := (decide (tl z = tornL) || decide (tl z = emptyL)) || (Txt.split z ("," : Str)).all (fun w => isShL (tl w))
theorem str_beq (a b : Str) : (a == b) = decide (tl a = tl b) := by
  rw [Bool.eq_iff_iff, beq_iff_eq, decide_eq_true_iff]
  exact ⟨fun h => by rw [h], fun h => TL.ext_tl h⟩
def spIvw : Sp := fun vs H Q _ => ∃ z : Str, vs = [.str z] ∧ z.length ≤ 100000 ∧ (∀ p ∈ Txt.split z ("," : Str), p.length ≤ 100000) ∧ (Txt.split z ("," : Str)).length ≤ 100000 ∧ ∀ H', Same H H' → Q (.bl (isVS z)) H'
theorem ok_ivw {f fS : Addr} {fd dS : FuncData} (F : Fun K "is_value_word" "is_value_word" sIvw f fd) (DS : Df P w K mg base CX0 3 "is_short_number_word" ["word"] spSnw fS dS) (mal : mg "all" = none) : FnOk P w K mg base CX0 4 f fd ["word"] spIvw := by
  refine F.ok scIvw (fun vs H Q E h => ?_) (fun cdv A outer s H vs Q E hr h => ?_)
  · obtain ⟨z, rfl, _⟩ := h
    rfl
  · obtain ⟨z, rfl, hz, hp, hn, k⟩ := h
    have nd := scIvw.nd
    have h3 : Room 3 _ := hr.mono (by decide)
    refine ⟨_, pss_one (ps_ret (pe_or (pe_cmpR op_in_seq (pv 0) (pe_tup (pa_cons pe_str (pa_cons pe_str pa_nil))) (by rfl)) (pe_one (pe_callB (cr_all rfl) (by rfl) mal boot_all (pa_cons
        (pe_lc (own := [("part", 1)]) (g := gName 1) (tt := tYes) (te := tCall spSnw [] E0 (tCons (tVar 1) tNil)) rfl nd (pi_list (pe_split (pv 0) pe_str)) (blkOk_by (N := ["word", "part"]) (sc := defScope sIvw) (by decide +kernel))
            (fun _ _ _ _ _ => pg_name (i := 1) nd rfl (.inl rfl)) (fun _ _ _ _ _ => pts_nil)
            (fun _ _ _ _ _ => pe_call DS.G h3 rfl DS.g DS.kp DS.b .nil pass0 (pa_cons (pv 1) pa_nil))) pa_nil))))), ?_⟩
    refine ⟨_, rfl, (by show 2 ≤ sizeLine; decide), fun tp htp => ?_⟩
    have s1 := same_upd (o := .tup [V.str ("torn" : Str), V.str ("empty" : Str)]) htp
    refine ⟨tp, _, rfl, .inr (SqT.of upd_same), rfl, rfl, ?_⟩
    have ein : inV (V.str z) [V.str ("torn" : Str), V.str ("empty" : Str)] = (decide (tl z = tornL) || decide (tl z = emptyL)) := by
      show ((("torn" : Str) == z) || ((("empty" : Str) == z) || false)) = _
      rw [str_beq, str_beq, tl_torn, tl_empty, Bool.or_false]
      congr 1
      · rw [Bool.eq_iff_iff, decide_eq_true_iff, decide_eq_true_iff]; exact eq_comm
      · rw [Bool.eq_iff_iff, decide_eq_true_iff, decide_eq_true_iff]; exact eq_comm
    have hk : isVS z = ((decide (tl z = tornL) || decide (tl z = emptyL)) || (Txt.split z ("," : Str)).all (fun w => isShL (tl w))) := rfl
    rw [hk] at k
    rw [if_neg (by decide)]
    refine ⟨_, rfl, ite2 (fun hc => ?_) (fun hc => ?_)⟩
    · have hc' := ein.symm.trans hc
      rw [hc', Bool.true_or] at k
      exact k _ s1
    · have hc' : (decide (tl z = tornL) || decide (tl z = emptyL)) = false := by
        rw [← ein]
        exact Bool.eq_false_iff.mpr hc
      rw [hc', Bool.false_or] at k
      refine ⟨_, rfl, ⟨_, rfl⟩, z, _, rfl, rfl, by decide +kernel, by rw [sizeLine_eq]; omega, fun q hq => ?_⟩
      have s2 := s1.trans (same_upd (o := .lst ((Txt.split z ("," : Str)).map V.str)) hq)
      have eq1 : (upd (upd H tp (.tup [V.str ("torn" : Str), V.str ("empty" : Str)])) q (.lst ((Txt.split z ("," : Str)).map V.str))) q = some (.lst ((Txt.split z ("," : Str)).map V.str)) := upd_same
      generalize Txt.split z ("," : Str) = ws at hp hn k s2 eq1 ⊢
      generalize upd (upd H tp (.tup [V.str ("torn" : Str), V.str ("empty" : Str)])) q (.lst (ws.map V.str)) = H2 at s2 eq1 ⊢
      refine ⟨q, rfl, ⟨_, SqL.of eq1⟩, fun D hD => lc_list (K := K) (a := q) (xs := ws.map V.str) (fun i H' => Same H2 H' ∧ H' D = some (.lst ((ws.take i).map fun w => V.bl (isShL (tl w))))) ⟨same_upd hD, upd_same⟩ (fun i H' _ y => SqL.of (y.1 _ _ eq1)) ?_ ?_⟩
      · rintro i x Hy hi ⟨sy, ey⟩
        rw [List.getElem?_map] at hi
        cases hni : ws[i]? with
        | none => rw [hni] at hi; cases hi
        | some n =>
        rw [hni] at hi
        have ev : V.str n = x := Option.some.inj hi
        subst ev
        refine ⟨rfl, tyes_go ⟨_, rfl, n, rfl, hp n (List.mem_of_getElem? hni), fun H3 s3 => ⟨_, s3 _ _ ey, ?_, fun b o y => ?_, ?_⟩⟩⟩
        · rw [List.length_map, List.length_take, sizeLine_eq]
          omega
        · rw [upd_ne (ne_of_none y hD)]
          exact s3 _ _ (sy _ _ y)
        · rw [upd_same, List.take_add_one, hni, List.map_append]
          rfl
      · rintro Hz ⟨sz, ez⟩
        rw [List.length_map, List.take_length] at ez
        have e8 : (ws.map fun w => V.bl (isShL (tl w))) = (ws.map fun w => isShL (tl w)).map V.bl := by rw [List.map_map]; rfl
        rw [e8] at ez
        refine ⟨D, _, rfl, SqL.of ez, ?_⟩
        have k' := k Hz (s2.trans sz)
        rw [List.all_map]
        exact k'
def spVo (K : PySem.W.Frag) : Sp := fun vs H Q _ => ∃ (z : Str) (o : Ov), vs = [.str z] ∧ tl z = txO o ∧ OFew o ∧ ∀ v H', Same H H' → Dp K (Tp H') v (dV o) → Q v H'
theorem ok_vo {f : Addr} {fd : FuncData} (F : Fun K "value_of" "value_of" sVo f fd) (mTo : mg "TORN" = some .none) (mi : mg "int" = none) (mt : mg "tuple" = none) : FnOk P w K mg base CX0 1 f fd ["word"] (spVo K) := by
  refine F.ok scVo (fun vs H Q E h => ?_) (fun cdv A outer s H vs Q E hr h => ?_)
  · obtain ⟨z, o, rfl, _⟩ := h
    rfl
  · obtain ⟨z, o, rfl, hz, hf, k⟩ := h
    have nd := scVo.nd
    refine ⟨_, pss_cons (ps_if (pt_cmpR op_eq (pv 0) pe_str (nomark _)) (pss_one (ps_ret (pe_glob (v := .non) rfl mTo rfl))) pss_nil)
      (pss_cons (ps_if (pt_cmpR op_eq (pv 0) pe_str (nomark _)) (pss_one (ps_ret (pe_tup pa_nil))) pss_nil)
      (pss_one (ps_ret (pe_callTy call_tuple_of (by rfl) mt boot_tuple (pa_cons
        (pe_lc (own := [("part", 1)]) (g := gName 1) (tt := tYes) (te := tCB (fun xs H Q => ∃ a n, xs = [.str a] ∧ PySem.intText? a = some n ∧ a.length ≤ 640 ∧ Q (.int n) H) (tCons (tVar 1) tNil)) rfl nd (pi_list (pe_split (pv 0) pe_str)) (blkOk_by (N := ["word", "part"]) (sc := defScope sVo) (by decide +kernel))
            (fun _ _ _ _ _ => pg_name (i := 1) nd rfl (.inl rfl)) (fun _ _ _ _ _ => pts_nil)
            (fun _ _ _ _ _ => pe_callTy call_int_str (by rfl) mi boot_int (pa_cons (pv 1) pa_nil))) pa_nil))))), ?_⟩
    refine ⟨_, rfl, rfl, ?_⟩
    rw [str_eq, tl_torn, hz]
    cases o with
    | none =>
      rw [decide_eq_true (show txO none = tornL from rfl)]
      exact ⟨_, rfl, iteT (k .non H (Same.refl _) .non)⟩
    | some ns =>
    by_cases hn : ns = []
    · subst hn
      rw [decide_eq_false (show ¬ txO (some []) = tornL by decide)]
      refine ⟨_, rfl, iteF ⟨_, rfl, rfl, ?_⟩⟩
      rw [str_eq, tl_empty, hz, decide_eq_true (show txO (some []) = emptyL from rfl)]
      exact ⟨_, rfl, iteT ⟨(by show 0 ≤ sizeLine; decide), fun p hp => k (.ref p) _ (same_upd hp) (.tup (SqT.of (tp_at upd_same rfl)) .nil)⟩⟩
    · have hx : txO (some ns) = joinL [44] (ns.map iL) := if_neg hn
      rw [hx, decide_eq_false (txN_ne_torn hn)]
      refine ⟨_, rfl, iteF ⟨_, rfl, rfl, ?_⟩⟩
      rw [str_eq, tl_empty, hz, hx, decide_eq_false (txN_ne_empty hn)]
      refine ⟨_, rfl, iteF ?_⟩
      have hsp := split_num hn (hz.trans hx)
      have hzl : z.length ≤ 100000 := by
        have h1 : tl z = joinL [44] (ns.map iL) := hz.trans hx
        rw [len_tl, h1]
        have h2 : ∀ ms : List Int, ms.length ≤ 100 → (∀ n ∈ ms, Few n) → (joinL [44] (ms.map iL)).length ≤ ms.length * 32 := by
          intro ms
          induction ms with
          | nil => intro _ _; exact Nat.zero_le _
          | cons m ms ih =>
            intro hl hm
            have h3 := few_len (hm m List.mem_cons_self)
            rw [List.length_cons] at hl
            have h4 := ih (by omega) fun n hn => hm n (List.mem_cons_of_mem _ hn)
            cases ms with
            | nil => show (iL m).length ≤ 1 * 32; omega
            | cons m2 ms =>
              show (iL m ++ ([44] ++ joinL [44] ((m2 :: ms).map iL))).length ≤ _
              rw [List.length_append, List.length_append, List.length_cons (a := m)]
              show (iL m).length + (1 + (joinL [44] ((m2 :: ms).map iL)).length) ≤ ((m2 :: ms).length + 1) * 32
              omega
        have h3 := h2 ns hf.1 hf.2
        have := hf.1
        omega
      refine ⟨_, rfl, ⟨_, rfl⟩, z, _, rfl, rfl, by decide +kernel, by rw [sizeLine_eq]; omega, fun q hq => ?_⟩
      have hsp' : Txt.split z (Str.ofString ",") = ns.map fun n => mkS (iL n) := hsp
      rw [hsp']
      have s2 := same_upd (o := .lst ((ns.map fun n => mkS (iL n)).map V.str)) hq
      have eq1 : (upd H q (.lst ((ns.map fun n => mkS (iL n)).map V.str))) q = some (.lst ((ns.map fun n => mkS (iL n)).map V.str)) := upd_same
      generalize upd H q (.lst ((ns.map fun n => mkS (iL n)).map V.str)) = H2 at s2 eq1 ⊢
      refine ⟨q, rfl, ⟨_, SqL.of eq1⟩, fun D hD => lc_list (K := K) (a := q) (xs := (ns.map fun n => mkS (iL n)).map V.str) (fun i H' => Same H2 H' ∧ H' D = some (.lst ((ns.take i).map V.int))) ⟨same_upd hD, upd_same⟩ (fun i H' _ y => SqL.of (y.1 _ _ eq1)) ?_ ?_⟩
      · rintro i x Hy hi ⟨sy, ey⟩
        rw [List.map_map, List.getElem?_map] at hi
        cases hni : ns[i]? with
        | none => rw [hni] at hi; cases hi
        | some n =>
        rw [hni] at hi
        have ev : V.str (mkS (iL n)) = x := Option.some.inj hi
        subst ev
        have hfn := few_len (hf.2 n (List.mem_of_getElem? hni))
        have hiw := int_word (w := mkS (iL n)) (by rw [tl_mkS]; exact num_iL n) (by rw [len_mkS]; omega)
        rw [tl_mkS, val_iL] at hiw
        refine ⟨rfl, tyes_go ⟨_, rfl, _, _, rfl, hiw, by rw [len_mkS]; omega, _, ey, ?_, fun b o y => ?_, ?_⟩⟩
        · rw [List.length_map, List.length_take, sizeLine_eq]
          have := hf.1
          omega
        · rw [upd_ne (ne_of_none y hD)]
          exact sy _ _ y
        · rw [upd_same, List.take_add_one, hni, List.map_append]
          rfl
      · rintro Hz ⟨sz, ez⟩
        rw [List.length_map, List.length_map, List.take_length] at ez
        refine ⟨D, _, rfl, .inl ⟨SqL.of ez, fun l hl => k (.ref l) _ ((s2.trans sz).trans (same_upd hl)) (.tup (SqT.of (tp_at upd_same rfl)) (dps_ints _))⟩⟩
end
end Pf

set_option Elab.async false
set_option linter.all false
set_option maxRecDepth 100000
set_option maxHeartbeats 4000000
namespace Pf
open PySem PySem.Spec PyProof.Rows L2 TL
def diskW : List Nat := [100, 105, 115, 107, 32]
def plateW : List Nat := [112, 108, 97, 116, 101, 32]
def looseW : List Nat := [108, 111, 111, 115, 101, 32]
theorem tl_diskW : tl (("disk " : Str)) = diskW := by
  show tl (Str.ofString "disk ") = _
  rw [tl_ofString]; rfl
theorem tl_plateW : tl (("plate " : Str)) = plateW := by
  show tl (Str.ofString "plate ") = _
  rw [tl_ofString]; rfl
theorem tl_looseW : tl (("loose " : Str)) = looseW := by
  show tl (Str.ofString "loose ") = _
  rw [tl_ofString]; rfl
def lnD (n : Int) : List Nat := diskW ++ iL n
def lnP (i : Int) (o : Ov) : List Nat := plateW ++ iL i ++ [32] ++ txO o
def lnL (i : Int) (o : Ov) : List Nat := looseW ++ iL i ++ [32] ++ txO o
/-- the lines of the first plates -/
def plK (os : List Ov) (k : Nat) : List (List Nat) := ((List.range k).filter fun i => decide (os.getD i none ≠ some [])).map fun i => lnP ((i : Nat) : Int) (os.getD i none)
def allL (os : List Ov) (qs : List (Int × Ov)) : List (List Nat) := [lnD ((os.length : Nat) : Int)] ++ plK os os.length ++ qs.map fun q => lnL q.1 q.2
theorem plK_more (os : List Ov) (k : Nat) : plK os (k + 1) = plK os k ++ (if os.getD k none ≠ some [] then [lnP ((k : Nat) : Int) (os.getD k none)] else []) := by
  unfold plK
  rw [List.range_succ, List.filter_append, List.map_append]
  congr 1
  by_cases c : os.getD k none ≠ some []
  · rw [if_pos c, List.filter_cons, if_pos (decide_eq_true c)]
    rfl
  · rw [if_neg c, List.filter_cons, if_neg (by simpa using c)]
    rfl
theorem plK_len (os : List Ov) (k : Nat) : (plK os k).length ≤ k := by
  unfold plK
  rw [List.length_map]
  exact Nat.le_trans (List.length_filter_le _ _) (by rw [List.length_range]; exact Nat.le_refl _)
def strV (ls : List (List Nat)) : List V := ls.map fun l => V.str (mkS l)
theorem strV_app (a b : List (List Nat)) : strV (a ++ b) = strV a ++ strV b := List.map_append
theorem strV_len (a : List (List Nat)) : (strV a).length = a.length := List.length_map _
theorem tx_len {o : Ov} (h : OFew o) : (txO o).length ≤ 3300 := by
  cases o with
  | none => show 4 ≤ 3300; decide
  | some ns =>
    by_cases hn : ns = []
    · subst hn; show 5 ≤ 3300; decide
    · have hx : txO (some ns) = joinL [44] (ns.map iL) := if_neg hn
      rw [hx]
      have h2 : ∀ ms : List Int, ms.length ≤ 100 → (∀ n ∈ ms, Few n) → (joinL [44] (ms.map iL)).length ≤ ms.length * 32 := by
        intro ms
        induction ms with
        | nil => intro _ _; exact Nat.zero_le _
        | cons m ms ih =>
          intro hl hm
          have h3 := few_len (hm m List.mem_cons_self)
          rw [List.length_cons] at hl
          have h4 := ih (by omega) fun n hn => hm n (List.mem_cons_of_mem _ hn)
          cases ms with
          | nil => show (iL m).length ≤ 1 * 32; omega
          | cons m2 ms =>
            show (iL m ++ ([44] ++ joinL [44] ((m2 :: ms).map iL))).length ≤ _
            rw [List.length_append, List.length_append, List.length_cons (a := m)]
            show (iL m).length + (1 + (joinL [44] ((m2 :: ms).map iL)).length) ≤ ((m2 :: ms).length + 1) * 32
            omega
      have h3 := h2 ns h.1 h.2
      have := h.1
      omega
theorem few_nat {n : Nat} (h : n < 1000000) : Few ((n : Nat) : Int) := by
  show n < 10 ^ 30
  exact Nat.lt_trans h (by decide)
section
variable {P : Program} {w : World} {K : PySem.W.Frag} {mg : Str → Option Value} {base : Heap} {CD : Addr}
theorem scWd : FnScope ["disk", "lines", "plate", "value"] ["disk"] (defScope sWd) := ⟨rfl, rfl, rfl, by decide +kernel, rfl, by decide +kernel, by decide +kernel⟩
theorem len_app (a b : Str) : (a ++ b).length = a.length + b.length := by rw [len_tl, tl_append, List.length_append, ← len_tl, ← len_tl]
theorem shaped_dV (o : Ov) : SeqAt.shaped (dV o) = true := by
  cases o with
  | none => decide +kernel
  | some ns => exact shaped_tup (lay_ints _) (by rw [dep_ints]; decide)
theorem eqv_dV (o : Ov) : PyData.eqv (dV o) (.tuple []) = decide (o = some []) := by
  cases o with
  | none => simp [dV, PyData.eqv]
  | some ns =>
    cases ns with
    | nil => simp [dV, rowD, PyData.eqv, PyData.eqvAll]
    | cons n ns => simp [dV, rowD, PyData.eqv, PyData.eqvAll]
theorem line_eq {x : Str} {l : List Nat} (h : tl x = l) : x = mkS l := TL.ext_tl (by rw [h, tl_mkS])
theorem tl_int (i : Int) : tl (Str.ofString (toString i)) = iL i := rfl
def spWd (K : PySem.W.Frag) (CD : Addr) : Sp := fun vs H Q _ => ∃ (d : Addr) (os : List Ov) (qs : List (Int × Ov)), vs = [.ref d] ∧ DkAt K CD H d (os.map dV) (qs.map fun q => (q.1, dV q.2)) ∧ (∀ o ∈ os, OFew o) ∧ (∀ q ∈ qs, OFew q.2 ∧ Few q.1) ∧ os.length ≤ 1000 ∧ qs.length ≤ 1000 ∧
  ∀ p H', Same H H' → SqT K H' p (strV (allL os qs)) → Q (.ref p) H'
theorem ok_wd {f fV : Addr} {fd dV' : FuncData} (F : Fun K "write_disk" "write_disk" sWd f fd) (T : DTxt K CD) (DV : Df P w K mg base CX0 1 "value_text" ["value"] (spVt K) fV dV') (ml : mg "len" = none) (me : mg "enumerate" = none) (mt : mg "tuple" = none) : FnOk P w K mg base CX0 2 f fd ["disk"] (spWd K CD) := by
  refine F.ok scWd (fun vs H Q E h => ?_) (fun cdv A outer s H vs Q E hr h => ?_)
  · obtain ⟨d, os, qs, rfl, _⟩ := h
    rfl
  · obtain ⟨d, os, qs, rfl, Dk, ho, hq, hol, hql, k⟩ := h
    have nd := scWd.nd
    have h1 : Room 1 _ := hr.mono (by decide)
    refine ⟨_, pss_cons (ps_set (i := 1) nd rfl (.inl rfl) (pe_lst (pa_cons (pe_joined (.cons pe_str (.cons (pe_fmt (pe_callB call_len_seq (by rfl) ml boot_len (pa_cons (pe_fld (pv 0) rfl) pa_nil))) .nil))) pa_nil)))
      (pss_cons (ps_for PassesOwn.never rfl (pi_enumT (by rfl) me (pa_cons (pe_fld (pv 0) rfl) pa_nil)) (pg_tup rfl (pgs_cons (pg_name (i := 2) nd rfl (.inl rfl)) (pgs_cons (pg_name (i := 3) nd rfl (.inl rfl)) pgs_nil)))
        (pss_one (ps_if (pt_cmpR (op_neD hr.units) (pv 3) (pe_tup pa_nil) (nomark _)) (pss_one (ps_expr (pe_bm PySem.F.plainAttrs_list PySem.F.slot_list_append PySem.F.type_list_append mt_append (pv 1) (pa_cons (pe_joined (.cons pe_str (.cons (pe_fmt (pv 2)) (.cons pe_str (.cons (pe_fmt (pe_call DV.G h1 rfl DV.g DV.kp DV.b .nil pass0 (pa_cons (pv 3) pa_nil))) .nil))))) pa_nil)))) pss_nil)))
      (pss_cons (ps_for PassesOwn.never rfl (pi_tup (pe_fld (pv 0) rfl)) (pg_tup rfl (pgs_cons (pg_name (i := 2) nd rfl (.inl rfl)) (pgs_cons (pg_name (i := 3) nd rfl (.inl rfl)) pgs_nil)))
        (pss_one (ps_expr (pe_bm PySem.F.plainAttrs_list PySem.F.slot_list_append PySem.F.type_list_append mt_append (pv 1) (pa_cons (pe_joined (.cons pe_str (.cons (pe_fmt (pv 2)) (.cons pe_str (.cons (pe_fmt (pe_call DV.G h1 rfl DV.g DV.kp DV.b .nil pass0 (pa_cons (pv 3) pa_nil))) .nil))))) pa_nil)))))
      (pss_one (ps_ret (pe_callTy call_tuple_of (by rfl) mt boot_tuple (pa_cons (pv 1) pa_nil)))))), ?_⟩
    obtain ⟨sv, lv, ⟨dx, sa, la, ts, x1, x2, x3, x4, x5, x6⟩, D2, D3⟩ := id Dk
    have hsl := dps_len D2
    rw [List.length_map] at hsl
    have hn : Few ((os.length : Nat) : Int) := few_nat (by omega)
    have e0 : (Str.empty ++ ("disk " : Str)) ++ Str.ofString (toString ((sv.length : Nat) : Int)) = mkS (lnD ((os.length : Nat) : Int)) := line_eq (by
      rw [tl_append, tl_append, tl_diskW, tl_int, hsl]
      rfl)
    have hl5 : (Str.empty ++ ("disk " : Str)).length = 5 := by rw [len_app, len_tl (x := ("disk " : Str)), tl_diskW]; rfl
    have hl6 : ∀ {i : Int}, Few i → (Str.ofString (toString i)).length ≤ 31 := fun {i} h => by rw [len_tl, tl_int]; exact few_len h
    refine ⟨_, rfl, by rw [sizeLine_eq]; show (Str.empty ++ ("disk " : Str)).length ≤ _; omega, _, rfl, d, CD, dx, _, _, rfl, x1, T.cl, T.nS, fl_settled _ _ _, sa, sv, rfl, .inr (SqT.of x2), .inr ⟨_, rfl, by rw [hsl]; exact few_log hn, _, rfl, ?_, ?_⟩⟩
    · rw [sizeLine_eq]
      show ((Str.empty ++ ("disk " : Str)) ++ Str.ofString (toString ((sv.length : Nat) : Int))).length ≤ _
      rw [e0, len_mkS]
      have := few_len hn
      show (diskW ++ iL _).length ≤ _
      rw [List.length_append]
      show 5 + _ ≤ _
      omega
    refine ⟨(by show 1 ≤ sizeLine; decide), fun D hD => ?_⟩
    rw [e0]
    have ex0 : (upd H D (.lst [V.str (mkS (lnD ((os.length : Nat) : Int)))])) D = some (.lst (strV ([lnD ((os.length : Nat) : Int)] ++ plK os 0))) := upd_same
    have s0 := same_upd (o := .lst [V.str (mkS (lnD ((os.length : Nat) : Int)))]) hD
    generalize upd H D (.lst [V.str (mkS (lnD ((os.length : Nat) : Int)))]) = H0 at ex0 s0 ⊢
    have line : ∀ (W : Str) (Wl : List Nat) (i : Int) (o : Ov), tl W = Wl → Wl.length = 6 → Few i → OFew o → (((Str.empty ++ W) ++ Str.ofString (toString i)) ++ (" " : Str)) ++ mkS (txO o) = mkS (Wl ++ iL i ++ [32] ++ txO o) ∧
        (Str.empty ++ W).length ≤ 16777216 ∧ ((Str.empty ++ W) ++ Str.ofString (toString i)).length ≤ 16777216 ∧ (((Str.empty ++ W) ++ Str.ofString (toString i)) ++ (" " : Str)).length ≤ 16777216 ∧ ((((Str.empty ++ W) ++ Str.ofString (toString i)) ++ (" " : Str)) ++ mkS (txO o)).length ≤ 16777216 ∧ (mkS (txO o)).length ≤ 16777216 := fun W Wl i o h1 h2 h3 h4 => by
      have a1 : (Str.empty ++ W).length = 6 := by rw [len_app, len_tl (x := W), h1, h2]; rfl
      have a2 := hl6 h3
      have a3 : ((" " : Str)).length = 1 := by rw [len_tl, tl_blank]; rfl
      have a4 := tx_len h4
      refine ⟨line_eq (by rw [tl_append, tl_append, tl_append, tl_append, h1, tl_int, tl_blank, tl_mkS]; rfl), by omega, by rw [len_app]; omega, by rw [len_app, len_app]; omega, by rw [len_app, len_app, len_app, len_mkS]; omega, by rw [len_mkS]; omega⟩
    have hsv : ∀ (i : Nat) (x : V), sv[i]? = some x → ∃ o, os[i]? = some o ∧ Dp K (Tp H) x (dV o) := fun i x hx => by
      obtain ⟨e, he, hd⟩ := dps_get D2 hx
      rw [List.getElem?_map] at he
      cases ho' : os[i]? with
      | none => rw [ho'] at he; cases he
      | some o =>
        rw [ho'] at he
        cases (Option.some.inj he)
        exact ⟨o, rfl, hd⟩
    refine ⟨_, rfl, d, CD, dx, _, _, rfl, s0 _ _ x1, T.cl, T.nS, fl_settled _ _ _, sa, sv, rfl, SqT.of (s0 _ _ x2), for_it (walk_enumT (K := K) (a := sa) (xs := sv)) (fun i σ' Hx => ∃ y2 y3, σ' = [some (.ref d), some (.ref D), y2, y3] ∧ Same H Hx ∧ Hx D = some (.lst (strV ([lnD ((os.length : Nat) : Int)] ++ plK os i))))
      ⟨_, _, rfl, s0, ex0⟩ (fun i σ' Hx _ z => by obtain ⟨_, _, _, z, _⟩ := z; exact SqT.of (z _ _ x2)) ?_ ?_⟩
    · rintro i v σ' Hx Hy hi ⟨y2, y3, rfl, sx, ex⟩ hy
      obtain ⟨T', v0, v1, rfl, nT, rfl, q0, q1⟩ := hy
      cases (Option.some.inj q0)
      have sT := same_upd (o := .tup [.int (i : Nat), v1]) nT
      have sy := sx.trans sT
      obtain ⟨o, hoi, hdo⟩ := hsv i v1 q1
      have hfo := ho o (List.mem_of_getElem? hoi)
      have hod : os.getD i none = o := by rw [List.getD_eq_getElem?_getD, hoi]; rfl
      have hil := (List.getElem?_eq_some_iff.mp hoi).1
      refine ⟨T', _, rfl, SqT.of upd_same, rfl, _, _, rfl, _, _, rfl, rfl, _, rfl, (by show 0 ≤ sizeLine; decide), fun em hem => ?_⟩
      have se := sy.trans (same_upd (o := .tup []) hem)
      have eD := same_upd (o := .tup []) hem _ _ (sT _ _ ex)
      refine ⟨dV o, .tuple [], dp_same (tp_le.trans se) _ _ hdo, .tup (SqT.of upd_same) .nil, shaped_dV o, by decide +kernel, ?_⟩
      rw [eqv_dV]
      obtain ⟨le, b1, b2, b3, b4, b5⟩ := line ("plate " : Str) plateW ((i : Nat) : Int) o tl_plateW rfl (few_nat (by omega)) hfo
      rw [← sizeLine_eq] at b1 b2 b3 b4 b5
      refine ⟨_, rfl, ite2 (fun hc => ?_) (fun hc => ?_)⟩
      · have hno : o ≠ some [] := fun z => by rw [decide_eq_true z] at hc; cases hc
        refine ⟨_, rfl, .inl ⟨rfl, _, SqL.of eD⟩, _, rfl, b1, _, rfl, .inr ⟨_, rfl, few_log (few_nat (by omega)), _, rfl, b2, _, rfl, b3, _, rfl, v1, o, rfl, dp_same (tp_same se) _ _ hdo, hfo, fun H5 s5 => .inl ⟨_, rfl, b5, _, rfl, b4, ?_⟩⟩⟩
        refine ⟨D, _, _, rfl, rfl, s5 _ _ eD, ?_, _, _, rfl, fun b z q => ?_, ?_⟩
        · rw [sizeLine_eq, strV_len, List.length_append]
          have := plK_len os i
          show 1 + (plK os i).length < _
          omega
        · rw [upd_ne (ne_of_none q hD)]
          exact s5 _ _ (se _ _ q)
        · rw [upd_same, plK_more, hod, if_pos hno, ← List.append_assoc, strV_app _ [lnP _ _], le]
          rfl
      · have hno : o = some [] := by
          refine Decidable.byContradiction fun z => hc ?_
          rw [decide_eq_false z]
          rfl
        refine ⟨_, _, rfl, se, ?_⟩
        rw [plK_more, hod, if_neg (fun z => z hno), List.append_nil]
        exact eD
    · rintro σ' Hx ⟨y2, y3, rfl, sx, ex⟩
      rw [hsl] at ex
      have llv : lv.length = qs.length := by
        have h1 := congrArg List.length D3.1
        rw [List.length_map, List.length_map, List.length_map] at h1
        exact h1
      refine ⟨_, rfl, d, CD, dx, _, _, rfl, sx _ _ x1, T.cl, T.nL, fl_loose _ _ _, la, rfl, ⟨_, SqT.of (sx _ _ x5)⟩, for_tup (K := K) (a := la) (xs := ts) (fun i σ' Hy => ∃ y2 y3, σ' = [some (.ref d), some (.ref D), y2, y3] ∧ Same H Hy ∧ Hy D = some (.lst (strV ([lnD ((os.length : Nat) : Int)] ++ plK os os.length ++ (qs.take i).map fun q => lnL q.1 q.2))))
        ⟨_, _, rfl, sx, by rw [List.take_zero, List.map_nil, List.append_nil]; exact ex⟩ (fun i σ' Hy _ z => by obtain ⟨_, _, _, z, _⟩ := z; exact SqT.of (z _ _ x5)) ?_ ?_⟩
      · rintro i x σ' Hy hi ⟨y2, y3, rfl, sy, ey⟩
        have hil : i < lv.length := by
          have := (List.getElem?_eq_some_iff.mp hi).1
          rw [x6.1] at this
          exact this
        obtain ⟨b, hb1, hb2⟩ := x6.2 i _ (List.getElem?_eq_getElem hil)
        rw [hi] at hb1
        cases (Option.some.inj hb1)
        obtain ⟨q, hqi⟩ : ∃ q, qs[i]? = some q := ⟨_, List.getElem?_eq_getElem (by omega)⟩
        have hk : lv[i].1 = q.1 := by
          have h1 : (lv.map (·.1))[i]? = some lv[i].1 := by rw [List.getElem?_map, List.getElem?_eq_getElem hil]; rfl
          rw [D3.1, List.map_map, List.getElem?_map, hqi] at h1
          exact (Option.some.inj h1).symm
        have hd : Dp K (Tp H) lv[i].2 (dV q.2) := by
          have h1 : (lv.map (·.2))[i]? = some lv[i].2 := by rw [List.getElem?_map, List.getElem?_eq_getElem hil]; rfl
          obtain ⟨e, he, hd⟩ := dps_get D3.2 h1
          rw [List.map_map, List.getElem?_map, hqi] at he
          cases (Option.some.inj he)
          exact hd
        have hfq := hq q (List.mem_of_getElem? hqi)
        obtain ⟨le, b1, b2, b3, b4, b5⟩ := line ("loose " : Str) looseW q.1 q.2 tl_looseW rfl hfq.2 hfq.1
        rw [← sizeLine_eq] at b1 b2 b3 b4 b5
        rw [hk] at hb2
        refine ⟨b, _, rfl, SqT.of (sy _ _ hb2), rfl, _, _, rfl, _, _, rfl, rfl, _, rfl, .inl ⟨rfl, _, SqL.of ey⟩, _, rfl, b1, _, rfl, .inr ⟨_, rfl, few_log hfq.2, _, rfl, b2, _, rfl, b3, _, rfl, _, q.2, rfl, dp_same (tp_same sy) _ _ hd, hfq.1, fun H5 s5 => .inl ⟨_, rfl, b5, _, rfl, b4, ?_⟩⟩⟩
        refine ⟨D, _, _, rfl, rfl, s5 _ _ ey, ?_, _, _, rfl, fun b z q => ?_, ?_⟩
        · rw [sizeLine_eq, strV_len, List.length_append, List.length_append, List.length_map, List.length_take]
          have := plK_len os os.length
          show 1 + (plK os os.length).length + _ < _
          omega
        · rw [upd_ne (ne_of_none q hD)]
          exact s5 _ _ (sy _ _ q)
        · rw [upd_same, List.take_add_one, hqi, List.map_append, ← List.append_assoc, strV_app _ (List.map _ (some q).toList), le]
          rfl
      · rintro σ' Hy ⟨y2, y3, rfl, sy, ey⟩
        rw [x6.1, llv, List.take_length] at ey
        exact ⟨_, rfl, D, _, rfl, .inl ⟨SqL.of ey, fun l hl => k l _ (sy.trans (same_upd hl)) (SqT.of upd_same)⟩⟩
end
end Pf

set_option Elab.async false
set_option linter.all false
set_option maxRecDepth 100000
set_option maxHeartbeats 4000000
namespace Pf
open PySem PySem.Spec PyProof.Rows L2
/-! ### t * 1 is t -/
theorem tuple_mul1 (l : Addr) (items : Array Value) (n : Nat) (dd : Option Addr) (sl : Array (Option Value)) (u : Tok) :
    Meets (Builtin.«tuple.__mul__» ⟨[.ref l, .int 1 u], []⟩) (fun _ R s => s.heap.get? l = some { cls := .type "tuple", dict := dd, data := .seq items n, slots := sl } ∧ R (.ok (.ret (Value.ref l))) s) :=
  .of_wp fun prog w A R s h => by
    obtain ⟨hp, g, d, tk, os⟩ := s
    obtain ⟨hl, h⟩ := h
    have f1 := AutoSeq1.idx_int
    have c1 : (items.isEmpty || (1 : Int) == 1) = true := by simp
    wp_walk using wpAny_loadPart' hl
    repeat (first
      | (refine wpAny_ite_true (by rw [c1]) ?_; wp_walk using wpAny_loadPart' hl)
      | (refine wpAny_ite_false (by simp) ?_; wp_walk using wpAny_loadPart' hl))
    exact ⟨_, rfl, h⟩
def rRep1 (K : PySem.W.Frag) : R2 := fun x y H Q => ∃ l xs, x = .ref l ∧ y = .int 1 ∧ SqT K H l xs ∧ Q (.ref l) H
theorem op_rep1 {X : Cx} : OpR X (binaryOp .Mult) (rRep1 X.K) := by
  intro pins s σ H x y v u Q I rx ry h
  obtain ⟨l, xs, rfl, rfl, hT, q⟩ := h
  cases rx
  obtain ⟨t, rfl⟩ := ry
  obtain ⟨its, r, ⟨⟨cls, dd, data, sl⟩, ho, hc, n, hd⟩, hs⟩ := I.tuple hT
  simp only at hc hd
  subst hc hd
  exact wpAny_binaryOp_repeat_ref (T := "tuple") (U := "int") (by decide) ⟨_, ho, rfl⟩ (fun s' => typeIs_int s' 1 t) noFill_tuple_mul F.fills_int_mul F.slot_int_rmul repeat_tuple F.slot_int_index.lookup
    (call_meets F.slot_int_rmul (typeIs_int s 1 t) F.entry_int_rmul (F.args_int_rmul_2 _ _) (int_rmul_tuple 1 t l its.toArray n dd sl)
      ⟨ho, rfl, ⟨_, ho, rfl⟩, call_meets F.slot_tuple_mul ⟨_, ho, rfl⟩ F.entry_tuple_mul (F.args_tuple_mul_2 _ _) (tuple_mul1 l its.toArray n dd sl t) ⟨ho, ⟨.ref l, H, I, rfl, q⟩⟩⟩)

/-! ### disks whose plates hold values -/
theorem FnOk.weak {P : Program} {w : World} {K : PySem.W.Frag} {mg : Str → Option Value} {base : Heap} {CX : CXT} {k : Nat} {f : Addr} {fd : FuncData} {ps : List Str} {sp sp' : Sp} (F : FnOk P w K mg base CX k f fd ps sp) (h : ∀ vs H Q E, sp' vs H Q E → sp vs H Q E) : FnOk P w K mg base CX k f fd ps sp' :=
  ⟨fun vs H Q E q => F.len _ _ _ _ (h _ _ _ _ q), fun A outer s H args us vs Q E hr he hb hv q => F.run A outer s H args us vs Q E hr he hb hv (h _ _ _ _ q)⟩
def OvAt (K : PySem.W.Frag) (CD : Addr) (H : Hp) (d : Addr) (os : List Ov) (qs : List (Int × Ov)) : Prop := DkAt K CD H d (os.map dV) (qs.map fun q => (q.1, dV q.2))
theorem OvAt.fr {K : PySem.W.Frag} {CD : Addr} {H H' : Hp} {d : Addr} {os : List Ov} {qs : List (Int × Ov)} {xs : List Addr} (A : OvAt K CD H d os qs) (f : Fr xs H H') (n : d ∉ xs) : OvAt K CD H' d os qs := DkAt.fr A f n
theorem OvAt.same {K : PySem.W.Frag} {CD : Addr} {H H' : Hp} {d : Addr} {os : List Ov} {qs : List (Int × Ov)} (A : OvAt K CD H d os qs) (s : Same H H') : OvAt K CD H' d os qs := A.fr (xs := []) (.of s) (by simp)
def settleO (os : List Ov) (qs : List (Int × Ov)) : List Ov := qs.foldl (fun os q => os.set q.1.toNat q.2) os
theorem settleO_len : ∀ (qs : List (Int × Ov)) (os : List Ov), (settleO os qs).length = os.length
  | [], _ => rfl
  | q :: qs, os => by
    show (settleO (os.set q.1.toNat q.2) qs).length = _
    rw [settleO_len qs, List.length_set]
theorem settle_map : ∀ (qs : List (Int × Ov)) (os : List Ov), settleD (os.map dV) (qs.map fun q => (q.1, dV q.2)) = (settleO os qs).map dV
  | [], _ => rfl
  | q :: qs, os => by
    show settleD ((os.map dV).set q.1.toNat (dV q.2)) (qs.map fun q => (q.1, dV q.2)) = (settleO (os.set q.1.toNat q.2) qs).map dV
    rw [← settle_map qs, List.map_set]
def spWrO (K : PySem.W.Frag) (CD : Addr) : Sp := fun vs H Q _ => ∃ (d : Addr) (os : List Ov) (qs : List (Int × Ov)) (p : Int) (v : V) (o : Ov), vs = [.ref d, .int p, v] ∧ OvAt K CD H d os qs ∧ 0 ≤ p ∧ p < ((os.length : Nat) : Int) ∧ qs.length ≤ 1000 ∧ Dp K (Tp H) v (dV o) ∧
  ∀ H', Fr [d] H H' → OvAt K CD H' d os (qs ++ [(p, o)]) → Q .non H'
theorem wrO_of {K : PySem.W.Frag} {CD : Addr} : ∀ vs H Q E, spWrO K CD vs H Q E → spWrite CD vs H Q E := fun vs H Q E h => by
  obtain ⟨d, os, qs, p, v, o, rfl, Dk, p0, p1, hl, hd, k⟩ := h
  obtain ⟨sv, lv, D, D2, D3⟩ := Dk
  have lvl : lv.length = qs.length := by
    have := congrArg List.length D3.1
    rw [List.length_map, List.length_map, List.length_map] at this
    exact this
  refine ⟨d, _, p, v, sv, lv, rfl, D, p0, by rw [List.length_map]; exact p1, by omega, fun H1 b1 D1 => ?_⟩
  have f1 : Fr [d] H H1 := .but b1 (fun c hc u z => by rw [List.mem_singleton.mp hc] at z; exact D.obj u z)
  refine k H1 f1 ⟨sv, lv ++ [(p, v)], D1, dps_same f1.tp _ _ D2, by rw [List.map_append, List.map_append, List.map_append, D3.1]; rfl, ?_⟩
  rw [List.map_append, List.map_append, List.map_append]
  exact dps_app (dps_same f1.tp _ _ D3.2) (.cons (dp_same f1.tp _ _ hd) .nil)
def spBrO (K : PySem.W.Frag) (CD : Addr) : Sp := fun vs H Q _ => ∃ (d : Addr) (os : List Ov) (qs : List (Int × Ov)), vs = [.ref d] ∧ OvAt K CD H d os qs ∧ (∀ q ∈ qs, 0 ≤ q.1 ∧ q.1 < ((os.length : Nat) : Int)) ∧ os.length ≤ 1000 ∧
  ∀ H', Fr [d] H H' → OvAt K CD H' d (settleO os qs) [] → Q .non H'
theorem brO_of {K : PySem.W.Frag} {CD : Addr} : ∀ vs H Q E, spBrO K CD vs H Q E → spBar CD vs H Q E := fun vs H Q E h => by
  obtain ⟨d, os, qs, rfl, Dk, hB, hl, k⟩ := h
  obtain ⟨sv, lv, D, D2, D3⟩ := Dk
  refine ⟨d, _, sv, lv, rfl, D, fun q hq => ?_, by rw [List.length_map]; omega, fun H1 f1 D1 => k H1 f1 ?_⟩
  · have h1 : q.1 ∈ lv.map (·.1) := List.mem_map.mpr ⟨q, hq, rfl⟩
    rw [D3.1, List.map_map] at h1
    obtain ⟨q', h2, h3⟩ := List.mem_map.mp h1
    rw [← h3, List.length_map]
    exact hB q' h2
  · show DkAt K CD H1 d ((settleO os qs).map dV) []
    rw [← settle_map]
    exact ⟨settleV sv lv, [], by rw [settleD_len]; exact D1, dps_same f1.tp _ _ (settle_dp D3 D2), rfl, .nil⟩
section
variable {P : Program} {w : World} {K : PySem.W.Frag} {mg : Str → Option Value} {base : Heap} {C CD : Addr}
def spInit1 (C : Addr) : Sp := fun vs H Q _ => ∃ (d dx : Addr), vs = [.ref d, .int 1] ∧ H d = some (.ins C dx []) ∧
  ∀ H' e, But [d] H H' → H e = none → H' e = some (.tup []) → DiskAt C H' d 1 [.ref e] [] → Q .non H'
theorem ok_init1 {f : Addr} {fd : FuncData} (F : Fun K "__init__" "Disk.__init__" sInit f fd) (T : DTxt K C) : FnOk P w K mg base CX0 1 f fd ["self", "many"] (spInit1 C) := by
  refine F.ok scInit (fun vs H Q E h => ?_) (fun cdv A outer s H vs Q E hr h => ?_)
  · obtain ⟨d, dx, rfl, _⟩ := h
    rfl
  · obtain ⟨d, dx, rfl, hd, k⟩ := h
    refine ⟨_, pss_cons (ps_fld (pv 0) (pv 1) rfl) (pss_cons (ps_fld (pv 0) (pe_op op_rep1 (pe_tup (pa_cons (pe_tup pa_nil) pa_nil)) (pv 1)) rfl) (pss_one (ps_fld (pv 0) (pe_tup pa_nil) rfl))), ?_⟩
    refine ⟨_, rfl, _, rfl, d, C, dx, [], rfl, hd, T.cl, T.nM, (by show 0 < 1000; decide), ?_⟩
    refine ⟨Nat.zero_le _, fun e he => ⟨by show 1 ≤ sizeLine; decide, fun u hu => ?_⟩⟩
    have ned : e ≠ d := fun z => by rw [z, upd_same] at he; cases he
    have nue : u ≠ e := fun z => by rw [z, upd_same] at hu; cases hu
    have nud : u ≠ d := fun z => by rw [z, upd_ne ned.symm, upd_same] at hu; cases hu
    refine ⟨_, rfl, u, [.ref e], rfl, rfl, SqT.of upd_same, ?_⟩
    refine ⟨_, rfl, d, C, dx, putF "many" (.int 1) [], rfl, by rw [upd_ne nud.symm, upd_ne ned.symm, upd_same], T.cl, T.nS, (by show 1 < 1000; decide), ?_⟩
    refine ⟨Nat.zero_le _, fun l hl => ?_⟩
    have nld : l ≠ d := fun z => by rw [z, upd_same] at hl; cases hl
    have nlu : l ≠ u := fun z => by rw [z, upd_ne nud, upd_same] at hl; cases hl
    have nle : l ≠ e := fun z => by rw [z, upd_ne ned, upd_ne nue.symm, upd_same] at hl; cases hl
    have he0 : H e = none := by rw [upd_ne ned] at he; exact he
    have hu0 : H u = none := by rw [upd_ne nue, upd_ne nud] at hu; exact hu
    have hl0 : H l = none := by rw [upd_ne nld, upd_ne nlu, upd_ne nle, upd_ne nld] at hl; exact hl
    refine ⟨_, rfl, d, C, dx, putF "settled" (.ref u) (putF "many" (.int 1) []), rfl, by rw [upd_ne nld.symm, upd_same], T.cl, T.nL, ?_, ?_⟩
    · show (if ("many" : Str) = "settled" then _ else (("many" : Str), V.int 1) :: putF "settled" (V.ref u) []).length < 1000
      rw [if_neg n_ms]
      show 2 < 1000
      decide
    refine k _ e (fun b o q => ?_) he0 ?_ ⟨dx, u, l, [], upd_same, ?_, rfl, by omega, ?_, ⟨rfl, fun i q z => by simp at z⟩⟩
    · have hb : b ∉ [d] := fun z => by rw [off_in z] at q; cases q
      rw [off_out hb] at q
      have nbd : b ≠ d := fun z => hb (by rw [z]; simp)
      rw [upd_ne nbd, upd_ne (ne_of_none q hl0), upd_ne nbd, upd_ne (ne_of_none q hu0), upd_ne (ne_of_none q he0), upd_ne nbd]
      exact q
    · rw [upd_ne ned, upd_ne nle.symm, upd_ne ned, upd_ne nue.symm, upd_same]
    · rw [upd_ne nud, upd_ne nlu.symm, upd_ne nud, upd_same]
    · rw [upd_ne nld, upd_same]
/-- a new disk of n plates, n from 1 on -/
def spInO (K : PySem.W.Frag) (C : Addr) : Sp := fun vs H Q _ => ∃ (d dx : Addr) (n : Nat), vs = [.ref d, .int ((n : Nat) : Int)] ∧ H d = some (.ins C dx []) ∧ 1 ≤ n ∧ n ≤ 1000 ∧
  ∀ H', But [d] H H' → OvAt K C H' d (List.replicate n (some [])) [] → Q .non H'
theorem inO_of {K : PySem.W.Frag} {C : Addr} : ∀ vs H Q E, spInO K C vs H Q E → (spInit C vs H Q E ∨ spInit1 C vs H Q E) := fun vs H Q E h => by
  obtain ⟨d, dx, n, rfl, hd, h1, h2, k⟩ := h
  by_cases c : n = 1
  · subst c
    refine .inr ⟨d, dx, rfl, hd, fun H' e b he e1 D => k H' b ⟨[.ref e], [], D, .cons (.tup (SqT.of (tp_at e1 rfl)) .nil) .nil, rfl, .nil⟩⟩
  · refine .inl ⟨d, dx, _, rfl, hd, by omega, by omega, fun H' e b he e1 D => k H' b ⟨List.replicate n (.ref e), [], ?_, ?_, rfl, .nil⟩⟩
    · rw [List.length_map, List.length_replicate]
      rw [Int.toNat_natCast] at D
      exact D
    · rw [List.map_replicate]
      exact dps_repl (.tup (SqT.of (tp_at e1 rfl)) .nil) n
end
end Pf

set_option Elab.async false
set_option linter.all false
set_option maxRecDepth 100000
set_option maxHeartbeats 4000000
namespace Pf
open PySem PySem.Spec PyProof.Rows L2 TL
def dkW : List Nat := [100, 105, 115, 107]
def plW : List Nat := [112, 108, 97, 116, 101]
def loW : List Nat := [108, 111, 111, 115, 101]
theorem tl_dkW : tl (("disk" : Str)) = dkW := by
  show tl (Str.ofString "disk") = _
  rw [tl_ofString]; rfl
theorem tl_plW : tl (("plate" : Str)) = plW := by
  show tl (Str.ofString "plate") = _
  rw [tl_ofString]; rfl
theorem tl_loW : tl (("loose" : Str)) = loW := by
  show tl (Str.ofString "loose") = _
  rw [tl_ofString]; rfl
theorem split_words {x : Str} {ps : List (List Nat)} (hn : ps ≠ []) (h : ∀ p ∈ ps, 32 ∉ p) (hx : tl x = joinL [32] ps) : Txt.split x (" " : Str) = ps.map mkS := by
  have h1 := split_tl x 32 (" " : Str) tl_blank (by decide)
  rw [hx, spl_join hn h] at h1
  exact map_tl h1
theorem tx_no32 (o : Ov) : 32 ∉ txO o := by
  cases o with
  | none => decide
  | some ns =>
    by_cases hn : ns = []
    · subst hn; decide
    · have hx : txO (some ns) = joinL [44] (ns.map iL) := if_neg hn
      rw [hx]
      have : ∀ ms : List Int, 32 ∉ joinL [44] (ms.map iL) := by
        intro ms
        induction ms with
        | nil => exact fun z => by cases z
        | cons m ms ih =>
          cases ms with
          | nil => exact iL_no32 m
          | cons m2 ms =>
            show 32 ∉ iL m ++ ([44] ++ joinL [44] ((m2 :: ms).map iL))
            intro z
            rcases List.mem_append.mp z with z | z
            · exact iL_no32 m z
            · rcases List.mem_append.mp z with z | z
              · cases z with
                | tail _ z => cases z
              · exact ih z
      exact this ns
theorem split_lnD (n : Int) : Txt.split (mkS (lnD n)) (" " : Str) = [dkW, iL n].map mkS := split_words (by simp) (fun p hp => by
  rcases List.mem_cons.mp hp with z | z
  · rw [z]; decide
  · rw [List.mem_singleton.mp z]; exact iL_no32 n) rfl
theorem split_ln {kw : List Nat} (hk : 32 ∉ kw) (i : Int) (o : Ov) : Txt.split (mkS (kw ++ [32] ++ iL i ++ [32] ++ txO o)) (" " : Str) = [kw, iL i, txO o].map mkS := split_words (by simp) (fun p hp => by
  rcases List.mem_cons.mp hp with z | z
  · rw [z]; exact hk
  · rcases List.mem_cons.mp z with z | z
    · rw [z]; exact iL_no32 i
    · rw [List.mem_singleton.mp z]; exact tx_no32 o) (by
  rw [tl_mkS]
  show _ = kw ++ ([32] ++ (iL i ++ ([32] ++ txO o)))
  simp)
theorem shL_few {n : Int} (h : Few n) : isShL (iL n) = true := by
  unfold isShL
  rw [Bool.and_eq_true, num_iL]
  have h1 := figL_len (iL n)
  have h2 := few_len h
  exact ⟨decide_eq_true (by omega), rfl⟩
theorem inL_few {n lo hi : Int} (h : Few n) (h1 : lo ≤ n) (h2 : n ≤ hi) : isInL lo hi (iL n) = true := by
  unfold isInL
  rw [shL_few h, val_iL, decide_eq_true h1, decide_eq_true h2]
  rfl
theorem isVS_tx {o : Ov} (h : OFew o) {z : Str} (hz : tl z = txO o) : isVS z = true := by
  unfold isVS
  rw [hz]
  cases o with
  | none => rfl
  | some ns =>
    by_cases hn : ns = []
    · subst hn; rfl
    · have hx : txO (some ns) = joinL [44] (ns.map iL) := if_neg hn
      rw [split_num hn (hz.trans hx)]
      rw [Bool.or_eq_true]
      refine .inr (List.all_eq_true.mpr fun w hw => ?_)
      obtain ⟨n, hn2, rfl⟩ := List.mem_map.mp hw
      rw [tl_mkS]
      exact shL_few (h.2 n hn2)
/-- a list or a tuple -/
def LT (K : PySem.W.Frag) (H : Hp) (p : Addr) (xs : List V) : Prop := SqL K H p xs ∨ SqT K H p xs
theorem LT.same {K : PySem.W.Frag} {H H' : Hp} {p : Addr} {xs : List V} (h : LT K H p xs) (s : Same H H') : LT K H' p xs := h.imp (fun z => s.seq z) fun z => same_seqT s z
theorem LT.ix {K : PySem.W.Frag} {H : Hp} {p : Addr} {xs : List V} {i : Int} {v : V} {Q : VK} (h : LT K H p xs) (e : atI xs i = some v) (q : Q v H) : rIx K (.ref p) (.int i) H Q :=
  h.elim (fun z => .inl ⟨p, xs, i, v, rfl, rfl, z, e, q⟩) fun z => .inr (.inl ⟨p, xs, i, v, rfl, rfl, z, e, q⟩)
theorem str_tt {x y : Str} (h : tl x = tl y) : V.bl (decide (V.str x = V.str y)) = V.bl true := by rw [TL.ext_tl h, decide_eq_true rfl]
section
variable {P : Program} {w : World} {K : PySem.W.Frag} {mg : Str → Option Value} {base : Heap} {CD : Addr}
theorem scCw : FnScope ["holds", "line", "word"] ["holds", "line", "word"] (defScope sCw) := ⟨rfl, rfl, rfl, by decide +kernel, rfl, by decide +kernel, by decide +kernel⟩
theorem scRm : FnScope ["lines", "words"] ["lines"] (defScope sRm) := ⟨rfl, rfl, rfl, by decide +kernel, rfl, by decide +kernel, by decide +kernel⟩
theorem scRl : FnScope ["line", "words", "low", "many", "kinds", "kind", "first", "value"] ["line", "words", "low", "many", "kinds"] (defScope sRl) := ⟨rfl, rfl, rfl, by decide +kernel, rfl, by decide +kernel, by decide +kernel⟩
def spCw : Sp := fun vs H Q _ => ∃ l u : Int, vs = [.bl true, .int l, .int u] ∧ Q .non H
theorem ok_cw {f : Addr} {fd : FuncData} (F : Fun K "check_word" "check_word" sCw f fd) : FnOk P w K mg base CX0 1 f fd ["holds", "line", "word"] spCw := by
  refine F.ok scCw (fun vs H Q E h => ?_) (fun cdv A outer s H vs Q E hr h => ?_)
  · obtain ⟨l, u, rfl, _⟩ := h
    rfl
  · obtain ⟨l, u, rfl, k⟩ := h
    exact ⟨_, pss_one (ps_if (pt_not (pt_val (pv 0))) (pss_one ps_never) pss_nil), _, rfl, _, rfl, iteF k⟩
def spRm (K : PySem.W.Frag) : Sp := fun vs H Q _ => ∃ (p : Addr) (ls : List (List Nat)) (n : Nat), vs = [.ref p] ∧ LT K H p (strV (lnD ((n : Nat) : Int) :: ls)) ∧ 1 ≤ n ∧ n ≤ 1000 ∧ ∀ H', Same H H' → Q (.int ((n : Nat) : Int)) H'
theorem ok_rm {f fW fC fN : Addr} {fd dW dC dN : FuncData} (F : Fun K "read_many" "read_many" sRm f fd) (DW : Df P w K mg base CX0 1 "word_at" ["words", "place"] (spWordAt K) fW dW) (DC : Df P w K mg base CX0 1 "check_word" ["holds", "line", "word"] spCw fC dC) (DN : Df P w K mg base CX0 4 "is_number_within" ["word", "low", "high"] spNin fN dN)
    {th : Tok} (mM : mg "MOST_PLATES" = some (.int 1000 th)) (ml : mg "len" = none) (mi : mg "int" = none) : FnOk P w K mg base CX0 5 f fd ["lines"] (spRm K) := by
  refine F.ok scRm (fun vs H Q E h => ?_) (fun cdv A outer s H vs Q E hr h => ?_)
  · obtain ⟨p, ls, n, rfl, _⟩ := h
    rfl
  · obtain ⟨p, ls, n, rfl, hp, n1, n2, k⟩ := h
    have nd := scRm.nd
    have h1 : Room 1 _ := hr.mono (by decide)
    have h4 : Room 4 _ := hr.mono (by decide)
    refine ⟨_, pss_cons (ps_set (i := 1) nd rfl (.inl rfl) (pe_ifExp (pt_cmpR op_gt (pe_callB call_len_seq (by rfl) ml boot_len (pa_cons (pv 0) pa_nil)) pe_int (nomark _)) (pe_split (pe_ix ix_seq (pv 0) pe_int (fun _ _ => rfl)) pe_str) (pe_lst pa_nil)))
      (pss_cons (ps_expr (pe_call DC.G h1 rfl DC.g DC.kp DC.b .nil pass0 (pa_cons (pe_cmpR op_eq (pe_call DW.G h1 rfl DW.g DW.kp DW.b .nil pass0 (pa_cons (pv 1) (pa_cons pe_int pa_nil))) pe_str (nomark _)) (pa_cons pe_int (pa_cons pe_int pa_nil)))))
      (pss_cons (ps_expr (pe_call DC.G h1 rfl DC.g DC.kp DC.b .nil pass0 (pa_cons (pe_call DN.G h4 rfl DN.g DN.kp DN.b .nil pass0 (pa_cons (pe_call DW.G h1 rfl DW.g DW.kp DW.b .nil pass0 (pa_cons (pv 1) (pa_cons pe_int pa_nil))) (pa_cons pe_int (pa_cons (pe_glob (v := .int 1000) rfl mM ⟨_, rfl⟩) pa_nil)))) (pa_cons pe_int (pa_cons pe_int pa_nil)))))
      (pss_cons (ps_expr (pe_call DC.G h1 rfl DC.g DC.kp DC.b .nil pass0 (pa_cons (pe_cmpR op_eq (pe_callB call_len_seq (by rfl) ml boot_len (pa_cons (pv 1) pa_nil)) pe_int (nomark _)) (pa_cons pe_int (pa_cons pe_int pa_nil)))))
      (pss_one (ps_ret (pe_callTy call_int_str (by rfl) mi boot_int (pa_cons (pe_ix ix_list (pv 1) pe_int (fun _ _ => rfl)) pa_nil))))))), ?_⟩
    have hn : Few ((n : Nat) : Int) := few_nat (by omega)
    have hfl := few_len hn
    refine ⟨_, rfl, p, _, rfl, hp, _, _, rfl, rfl, _, rfl, ite2 (fun hc => ?_) (fun hc => absurd (decide_eq_true (by rw [strV_len, List.length_cons]; omega)) hc)⟩
    refine ⟨_, rfl, LT.ix hp (atI_nat (j := 0) rfl) ⟨⟨_, rfl⟩, mkS (lnD ((n : Nat) : Int)), _, rfl, rfl, by decide +kernel, ?_, fun q hq => ?_⟩⟩
    · rw [len_mkS, sizeLine_eq]
      show (diskW ++ iL _).length + 2 ≤ _
      rw [List.length_append]
      show 5 + _ + 2 ≤ _
      omega
    have hsp : Txt.split (mkS (lnD ((n : Nat) : Int))) (Str.ofString " ") = [dkW, iL ((n : Nat) : Int)].map mkS := split_lnD _
    rw [hsp]
    have s1 := same_upd (o := .lst (([dkW, iL ((n : Nat) : Int)].map mkS).map V.str)) hq
    have eq1 : (upd H q (.lst (([dkW, iL ((n : Nat) : Int)].map mkS).map V.str))) q = some (.lst (([dkW, iL ((n : Nat) : Int)].map mkS).map V.str)) := upd_same
    generalize upd H q (.lst (([dkW, iL ((n : Nat) : Int)].map mkS).map V.str)) = H1 at s1 eq1 ⊢
    refine ⟨_, rfl, q, [dkW, iL ((n : Nat) : Int)].map mkS, 0, rfl, SqL.of eq1, rfl, 0, 0, ?_, ?_⟩
    · have h9 : V.bl (decide (V.str (mkS dkW) = V.str ("disk" : Str))) = V.bl true := str_tt (by rw [tl_mkS, tl_dkW])
      show V.bl (decide (V.str (mkS dkW) = V.str ("disk" : Str))) :: _ = _
      rw [h9]
      rfl
    refine ⟨_, rfl, q, [dkW, iL ((n : Nat) : Int)].map mkS, 1, rfl, SqL.of eq1, mkS (iL ((n : Nat) : Int)), 1, 1000, rfl, by rw [len_mkS]; omega, fun _ => by rw [len_mkS]; omega, fun H2 s2 => ?_⟩
    rw [tl_mkS, inL_few hn (by omega) (by omega)]
    refine ⟨0, 1, rfl, ?_⟩
    have eq2 := s2 _ _ eq1
    refine ⟨_, rfl, q, _, rfl, .inl (SqL.of eq2), rfl, 0, 2, rfl, ?_⟩
    have hiw := int_word (w := mkS (iL ((n : Nat) : Int))) (by rw [tl_mkS]; exact num_iL _) (by rw [len_mkS]; omega)
    rw [tl_mkS, val_iL] at hiw
    exact ⟨_, rfl, q, _, 1, _, rfl, rfl, SqL.of eq2, atI_nat (j := 1) rfl, _, _, rfl, hiw, by rw [len_mkS]; omega, k H2 (s1.trans s2)⟩
def spRl (K : PySem.W.Frag) : Sp := fun vs H Q _ => ∃ (ln low many i : Int) (q kq : Addr) (kw : List Nat) (o : Ov) (ks : List Str), vs = [.int ln, .ref q, .int low, .int many, .ref kq] ∧ SqL K H q (([kw, iL i, txO o].map mkS).map V.str) ∧ SqT K H kq (ks.map V.str) ∧ mkS kw ∈ ks ∧ (kw = plW ∨ kw = loW) ∧ OFew o ∧ Few i ∧
  (if kw = plW then low else 0) ≤ i ∧ i < many ∧ ¬ (kw = plW ∧ o = some []) ∧ ∀ t v H', Same H H' → SqT K H' t [.str (mkS kw), .int i, v] → Dp K (Tp H') v (dV o) → Q (.ref t) H'
abbrev NRl : List Str := ["line", "words", "low", "many", "kinds", "kind", "first", "value"]
abbrev stRl (j : Nat) : Stmt := (defBody sRl).getD j (.Pass ⟨0, 0, 0, 0⟩)
abbrev XRl (P : Program) (w : World) (K : PySem.W.Frag) (mg : Str → Option Value) (base : Heap) (f : Addr) (cdv : Value) (A : Around) (outer : List Env) (s : Shared) (H0 : Hp) (E : XK) : Cx :=
  (cxOf CX0 P w K mg base NRl "read_line" (defScope sRl) f cdv A outer s H0 E).nox
theorem pair_ne {kw : List Nat} {o : Ov} (h : ¬ (kw = plW ∧ o = some [])) (hf : OFew o) : txO o ≠ emptyL ∨ kw ≠ plW := by
  by_cases c : kw = plW
  · refine .inl fun z => h ⟨c, ?_⟩
    cases o with
    | none => exact absurd z (by decide)
    | some ns =>
      by_cases hn : ns = []
      · rw [hn]
      · exact absurd ((if_neg hn : txO (some ns) = joinL [44] (ns.map iL)).symm.trans z) (txN_ne_empty hn)
  · exact .inr c
theorem strOk_mk {l : List Nat} (h : ∀ c ∈ l, c < 128) : PyData.strOk (mkS l) = true := by
  show (l.toArray).all (· < 0x110000) = true
  rw [List.all_toArray]
  exact List.all_eq_true.mpr fun c hc => decide_eq_true (by have := h c hc; omega)
theorem tx_parts {o : Ov} (hfo : OFew o) : (∀ p ∈ Txt.split (mkS (txO o)) ("," : Str), p.length ≤ 100000) ∧ (Txt.split (mkS (txO o)) ("," : Str)).length ≤ 100000 := by
  cases o with
  | none =>
    have h9 : Txt.split (mkS (txO none)) ("," : Str) = [tornL].map mkS := by
      have h8 := split_tl (mkS tornL) 44 ("," : Str) tl_comma (by decide)
      exact map_tl (h8.trans (by rw [tl_mkS]; rfl))
    rw [h9]
    exact ⟨fun p hp => by rw [List.mem_singleton.mp hp, len_mkS]; decide, by decide⟩
  | some ns =>
    by_cases hn : ns = []
    · subst hn
      have h9 : Txt.split (mkS (txO (some []))) ("," : Str) = [emptyL].map mkS := by
        have h8 := split_tl (mkS emptyL) 44 ("," : Str) tl_comma (by decide)
        exact map_tl (h8.trans (by rw [tl_mkS]; rfl))
      rw [h9]
      exact ⟨fun p hp => by rw [List.mem_singleton.mp hp, len_mkS]; decide, by decide⟩
    · rw [split_num (x := mkS (txO (some ns))) hn (show tl (mkS (txO (some ns))) = _ from if_neg hn)]
      refine ⟨fun p hp => ?_, by rw [List.length_map]; have := hfo.1; omega⟩
      obtain ⟨n, hn2, rfl⟩ := List.mem_map.mp hp
      rw [len_mkS]
      have := few_len (hfo.2 n hn2)
      omega
theorem iL_lt (n : Int) : ∀ c ∈ iL n, c < 128 := fun c hc => Decidable.byContradiction fun z => iL_free (n := n) (s := c) (by omega) hc
theorem tx_lt (o : Ov) : ∀ c ∈ txO o, c < 128 := by
  cases o with
  | none => decide
  | some ns =>
    by_cases hn : ns = []
    · subst hn; decide
    · have hx : txO (some ns) = joinL [44] (ns.map iL) := if_neg hn
      rw [hx]
      have : ∀ ms : List Int, ∀ c ∈ joinL [44] (ms.map iL), c < 128 := by
        intro ms
        induction ms with
        | nil => exact fun c z => by cases z
        | cons m ms ih =>
          cases ms with
          | nil => exact iL_lt m
          | cons m2 ms =>
            intro c z
            have z' : c ∈ iL m ++ ([44] ++ joinL [44] ((m2 :: ms).map iL)) := z
            rcases List.mem_append.mp z' with z | z
            · exact iL_lt m c z
            · rcases List.mem_append.mp z with z | z
              · rw [List.mem_singleton.mp z]; decide
              · exact ih c z
      exact this ns
theorem shaped_two {a b : Str} (h1 : PyData.strOk a = true) (h2 : PyData.strOk b = true) : SeqAt.shaped (.tuple [.str a, .str b]) = true :=
  shaped_tup (by simp [PyData.canLayAll0, PyData.canLay0, h1, h2]) (by simp [PyData.depthAll, PyData.depth])
theorem rl_rest {f fW fC fN fV fO : Addr} {dW dC dN dV' dO : FuncData} {cdv : Value} {A : Around} {outer : List Env} {s : Shared} {H0 : Hp} {E : XK} (DW : Df P w K mg base CX0 1 "word_at" ["words", "place"] (spWordAt K) fW dW) (DC : Df P w K mg base CX0 1 "check_word" ["holds", "line", "word"] spCw fC dC) (DN : Df P w K mg base CX0 4 "is_number_within" ["word", "low", "high"] spNin fN dN)
    (DV : Df P w K mg base CX0 4 "is_value_word" ["word"] spIvw fV dV') (DO : Df P w K mg base CX0 1 "value_of" ["word"] (spVo K) fO dO) (ml : mg "len" = none) (mi : mg "int" = none) (hr : Room 4 (A.deeper (envOfC "read_line" (defScope sRl) s.heap.objs.size f cdv))) :
    ∃ t, PSs (XRl P w K mg base f cdv A outer s H0 E) [stRl 3, stRl 4, stRl 5, stRl 6, stRl 7] t ∧ ∀ (D : Ends) H (ln low many i first : Int) (q kq : Addr) (kw : List Nat) (o : Ov), SqL K H q (([kw, iL i, txO o].map mkS).map V.str) → (∀ c ∈ kw, c < 128) → OFew o → Few i → first ≤ i → i < many → ¬ (kw = plW ∧ o = some []) →
      (∀ t v H', Same H H' → SqT K H' t [.str (mkS kw), .int i, v] → Dp K (Tp H') v (dV o) → D.rt (.ref t) H') →
      t D [some (.int ln), some (.ref q), some (.int low), some (.int many), some (.ref kq), some (.str (mkS kw)), some (.int first), none] H := by
  have nd := scRl.nd
  have h1 : Room 1 _ := hr.mono (by decide)
  have h4 : Room 4 _ := hr.mono (by decide)
  refine ⟨_, pss_cons (ps_expr (pe_call DC.G h1 rfl DC.g DC.kp DC.b .nil pass0 (pa_cons (pe_call DN.G h4 rfl DN.g DN.kp DN.b .nil pass0 (pa_cons (pe_call DW.G h1 rfl DW.g DW.kp DW.b .nil pass0 (pa_cons (pv 1) (pa_cons pe_int pa_nil))) (pa_cons (pv 6) (pa_cons (pe_op op_sub (pv 3) pe_int) pa_nil)))) (pa_cons (pv 0) (pa_cons pe_int pa_nil)))))
      (pss_cons (ps_set (i := 7) nd rfl (.inl rfl) (pe_call DW.G h1 rfl DW.g DW.kp DW.b .nil pass0 (pa_cons (pv 1) (pa_cons pe_int pa_nil))))
      (pss_cons (ps_expr (pe_call DC.G h1 rfl DC.g DC.kp DC.b .nil pass0 (pa_cons (pe_and (pe_call DV.G h4 rfl DV.g DV.kp DV.b .nil pass0 (pa_cons (pv 7) pa_nil)) (pe_one (pe_cmpR (op_neD hr.units) (pe_tup (pa_cons (pv 5) (pa_cons (pv 7) pa_nil))) (pe_tup (pa_cons pe_str (pa_cons pe_str pa_nil))) (nomark _)))) (pa_cons (pv 0) (pa_cons pe_int pa_nil)))))
      (pss_cons (ps_expr (pe_call DC.G h1 rfl DC.g DC.kp DC.b .nil pass0 (pa_cons (pe_cmpR op_eq (pe_callB call_len_seq (by rfl) ml boot_len (pa_cons (pv 1) pa_nil)) pe_int (nomark _)) (pa_cons (pv 0) (pa_cons pe_int pa_nil)))))
      (pss_one (ps_ret (pe_tup (pa_cons (pv 5) (pa_cons (pe_callTy call_int_str (by rfl) mi boot_int (pa_cons (pe_ix ix_list (pv 1) pe_int (fun _ _ => rfl)) pa_nil)) (pa_cons (pe_call DO.G h1 rfl DO.g DO.kp DO.b .nil pass0 (pa_cons (pv 7) pa_nil)) pa_nil))))))))), fun D H ln low many i first q kq kw o hq hkc hfo hfi hlo hhi hne k => ?_⟩
  have hfl := few_len hfi
  have htl := tx_len hfo
  refine ⟨_, rfl, q, [kw, iL i, txO o].map mkS, 1, rfl, hq, _, rfl, _, rfl, _, _, rfl, rfl, mkS (iL i), first, many - 1, rfl, by rw [len_mkS]; omega, fun _ => by rw [len_mkS]; omega, fun H1 s1 => ?_⟩
  rw [tl_mkS, inL_few hfi hlo (by omega)]
  refine ⟨_, rfl, ln, 1, rfl, ?_⟩
  have hq1 := s1.seq hq
  refine ⟨_, rfl, q, [kw, iL i, txO o].map mkS, 2, rfl, hq1, ?_⟩
  obtain ⟨hsplit, hsn⟩ := tx_parts hfo
  refine ⟨_, rfl, mkS (txO o), rfl, by rw [len_mkS]; omega, hsplit, hsn, fun H2 s2 => ?_⟩
  rw [isVS_tx hfo (tl_mkS _)]
  refine ⟨_, rfl, iteT ?_⟩
  refine ⟨_, rfl, _, rfl, (by show 2 ≤ sizeLine; decide), fun t1 ht1 => ⟨(by show 2 ≤ sizeLine; decide), fun t2 ht2 => ?_⟩⟩
  have u1 := same_upd (o := .tup [V.str (mkS kw), V.str (mkS (txO o))]) ht1
  have u2 := same_upd (o := .tup [V.str ("plate" : Str), V.str ("empty" : Str)]) ht2
  have e1 := u2 _ _ (upd_same (H := H2) (a := t1) (o := .tup [V.str (mkS kw), V.str (mkS (txO o))]))
  refine ⟨.tuple [.str (mkS kw), .str (mkS (txO o))], .tuple [.str ("plate" : Str), .str ("empty" : Str)], .tup (SqT.of e1) (.cons (.str _) (.cons (.str _) .nil)), .tup (SqT.of upd_same) (.cons (.str _) (.cons (.str _) .nil)), shaped_two (strOk_mk hkc) (strOk_mk (tx_lt o)), by decide +kernel, ?_⟩
  have eqf : PyData.eqv (.tuple [.str (mkS kw), .str (mkS (txO o))]) (.tuple [.str ("plate" : Str), .str ("empty" : Str)]) = false := by
    simp only [PyData.eqv, PyData.eqvAll, Bool.and_true]
    rw [str_beq, str_beq, tl_mkS, tl_mkS, tl_plW, tl_empty]
    rcases pair_ne hne hfo with z | z
    · rw [decide_eq_false z, Bool.and_false]
    · rw [decide_eq_false z, Bool.false_and]
  rw [eqf]
  have s3 := (s1.trans s2).trans (u1.trans u2)
  generalize upd (upd H2 t1 (.tup [V.str (mkS kw), V.str (mkS (txO o))])) t2 (.tup [V.str ("plate" : Str), V.str ("empty" : Str)]) = H3 at s3 ⊢
  refine ⟨_, rfl, ln, 2, rfl, ?_⟩
  have hq3 := s3.seq hq
  refine ⟨_, rfl, q, _, rfl, .inl hq3, rfl, _, rfl, ln, 3, rfl, ?_⟩
  have hiw := int_word (w := mkS (iL i)) (by rw [tl_mkS]; exact num_iL _) (by rw [len_mkS]; omega)
  rw [tl_mkS, val_iL] at hiw
  refine ⟨_, rfl, _, rfl, q, _, 1, _, rfl, rfl, hq3, atI_nat (j := 1) rfl, _, _, rfl, hiw, by rw [len_mkS]; omega, _, rfl, mkS (txO o), o, rfl, tl_mkS _, hfo, fun v H4 s4 hv => ⟨(by show 3 ≤ sizeLine; decide), fun t ht => ?_⟩⟩
  have s5 := same_upd (o := .tup [V.str (mkS kw), V.int i, v]) ht
  exact k t v _ ((s3.trans s4).trans s5) (SqT.of upd_same) (dp_same (tp_same s5) _ _ hv)
theorem ok_rl {f fW fC fN fV fO : Addr} {fd dW dC dN dV' dO : FuncData} (F : Fun K "read_line" "read_line" sRl f fd) (DW : Df P w K mg base CX0 1 "word_at" ["words", "place"] (spWordAt K) fW dW) (DC : Df P w K mg base CX0 1 "check_word" ["holds", "line", "word"] spCw fC dC) (DN : Df P w K mg base CX0 4 "is_number_within" ["word", "low", "high"] spNin fN dN)
    (DV : Df P w K mg base CX0 4 "is_value_word" ["word"] spIvw fV dV') (DO : Df P w K mg base CX0 1 "value_of" ["word"] (spVo K) fO dO) (ml : mg "len" = none) (mi : mg "int" = none) : FnOk P w K mg base CX0 5 f fd ["line", "words", "low", "many", "kinds"] (spRl K) := by
  refine F.ok scRl (fun vs H Q E h => ?_) (fun cdv A outer s H vs Q E hr h => ?_)
  · obtain ⟨ln, low, many, i, q, kq, kw, o, ks, rfl, _⟩ := h
    rfl
  · obtain ⟨ln, low, many, i, q, kq, kw, o, ks, rfl, hq, hk, hmem, hkw, hfo, hfi, hlo, hhi, hne, k⟩ := h
    have nd := scRl.nd
    have h1 : Room 1 _ := hr.mono (by decide)
    have h4 : Room 4 _ := hr.mono (by decide)
    obtain ⟨tr, pr, qr⟩ := rl_rest (P := P) (w := w) (K := K) (mg := mg) (base := base) (f := f) (cdv := cdv) (A := A) (outer := outer) (s := s) (H0 := H) (E := E) DW DC DN DV DO ml mi hr
    refine ⟨_, pss_cons (ps_set (i := 5) nd rfl (.inl rfl) (pe_call DW.G h1 rfl DW.g DW.kp DW.b .nil pass0 (pa_cons (pv 1) (pa_cons pe_int pa_nil))))
      (pss_cons (ps_expr (pe_call DC.G h1 rfl DC.g DC.kp DC.b .nil pass0 (pa_cons (pe_cmpR op_in_seq (pv 5) (pv 4) (by rfl)) (pa_cons (pv 0) (pa_cons pe_int pa_nil)))))
      (pss_cons (ps_set (i := 6) nd rfl (.inl rfl) (pe_ifExp (pt_cmpR op_eq (pv 5) pe_str (nomark _)) (pv 2) pe_int)) pr)), ?_⟩
    have hin : inV (V.str (mkS kw)) (ks.map V.str) = true := by
      unfold inV
      rw [List.any_map]
      exact List.any_eq_true.mpr ⟨mkS kw, hmem, beq_self_eq_true (mkS kw)⟩
    have hkc : ∀ c ∈ kw, c < 128 := by
      rcases hkw with z | z
      · rw [z]; decide
      · rw [z]; decide
    refine ⟨_, rfl, q, [kw, iL i, txO o].map mkS, 0, rfl, hq, ?_⟩
    refine ⟨_, rfl, _, rfl, kq, _, rfl, .inr hk, rfl, ?_, ?_⟩
    · rw [List.all_map]
      exact List.all_eq_true.mpr fun _ _ => rfl
    refine ⟨_, rfl, ln, 0, ?_, ?_⟩
    · have h9 : V.bl (if false = true then !inV (V.str (mkS kw)) (ks.map V.str) else inV (V.str (mkS kw)) (ks.map V.str)) = V.bl true := by rw [if_neg (by decide), hin]
      show V.bl (if false = true then !inV (V.str (mkS kw)) (ks.map V.str) else inV (V.str (mkS kw)) (ks.map V.str)) :: _ = _
      rw [h9]
      rfl
    refine ⟨_, rfl, rfl, ?_⟩
    have h8 : decide (V.str (mkS kw) = V.str ("plate" : Str)) = decide (kw = plW) := by rw [str_eq, tl_mkS, tl_plW]
    refine ⟨_, rfl, ite2 (fun hc => ?_) (fun hc => ?_)⟩
    · have hc' : kw = plW := of_decide_eq_true (h8.symm.trans hc)
      rw [if_pos hc'] at hlo
      exact ⟨_, rfl, qr _ H ln low many i low q kq kw o hq hkc hfo hfi hlo hhi hne k⟩
    · have hc' : ¬ kw = plW := fun z => hc (h8.trans (decide_eq_true z))
      rw [if_neg hc'] at hlo
      exact qr _ H ln low many i 0 q kq kw o hq hkc hfo hfi hlo hhi hne k
end
end Pf

set_option Elab.async false
set_option linter.all false
set_option maxRecDepth 100000
set_option maxHeartbeats 4000000
namespace Pf
open PySem PySem.Spec PyProof.Rows L2 TL
/-- the plates that a disk's lines tell -/
def plQ (os : List Ov) (k : Nat) : List (Int × Ov) := ((List.range k).filter fun i => decide (os.getD i none ≠ some [])).map fun i => (((i : Nat) : Int), os.getD i none)
theorem plQ_K (os : List Ov) (k : Nat) : plK os k = (plQ os k).map fun q => lnP q.1 q.2 := by
  unfold plK plQ
  rw [List.map_map]
  rfl
theorem plQ_mem {os : List Ov} {k : Nat} {q : Int × Ov} (h : q ∈ plQ os k) : ∃ i < k, q = (((i : Nat) : Int), os.getD i none) ∧ os.getD i none ≠ some [] := by
  obtain ⟨i, hi, rfl⟩ := List.mem_map.mp h
  obtain ⟨h1, h2⟩ := List.mem_filter.mp hi
  exact ⟨i, List.mem_range.mp h1, rfl, of_decide_eq_true h2⟩
theorem plQ_more (os : List Ov) (k : Nat) : plQ os (k + 1) = plQ os k ++ (if os.getD k none ≠ some [] then [(((k : Nat) : Int), os.getD k none)] else []) := by
  unfold plQ
  rw [List.range_succ, List.filter_append, List.map_append]
  congr 1
  by_cases c : os.getD k none ≠ some []
  · rw [if_pos c, List.filter_cons, if_pos (decide_eq_true c)]
    rfl
  · rw [if_neg c, List.filter_cons, if_neg (by simpa using c)]
    rfl
theorem plQ_asc (os : List Ov) (k : Nat) : ((plQ os k).map (·.1)).Pairwise (· < ·) := by
  unfold plQ
  rw [List.map_map]
  refine List.pairwise_map.mpr ((List.Pairwise.sublist List.filter_sublist List.pairwise_lt_range).imp fun h => ?_)
  show ((_ : Nat) : Int) < ((_ : Nat) : Int)
  omega
theorem settleO_app (a b : List (Int × Ov)) (os : List Ov) : settleO os (a ++ b) = settleO (settleO os a) b := List.foldl_append
theorem settle_pl (os : List Ov) : settleO (List.replicate os.length (some [])) (plQ os os.length) = os := by
  have h : ∀ k ≤ os.length, ∀ p < os.length, (settleO (List.replicate os.length (some [])) (plQ os k))[p]? = some (if p < k then os.getD p none else some []) := by
    intro k
    induction k with
    | zero =>
      intro _ p hp
      show (List.replicate os.length (some []))[p]? = _
      rw [List.getElem?_replicate, if_pos hp, if_neg (Nat.not_lt_zero _)]
    | succ k ih =>
      intro hk p hp
      have ih' := ih (by omega) p hp
      rw [plQ_more, settleO_app]
      by_cases c : os.getD k none ≠ some []
      · rw [if_pos c]
        show ((settleO _ (plQ os k)).set (((k : Nat) : Int)).toNat (os.getD k none))[p]? = _
        rw [Int.toNat_natCast, List.getElem?_set]
        by_cases e : k = p
        · subst e
          rw [if_pos rfl, settleO_len, List.length_replicate, if_pos hp, if_pos (by omega)]
        · rw [if_neg e, ih']
          congr 1
          by_cases h1 : p < k
          · rw [if_pos h1, if_pos (by omega)]
          · rw [if_neg h1, if_neg (by omega)]
      · rw [if_neg c]
        show (settleO _ (plQ os k))[p]? = _
        rw [ih']
        congr 1
        by_cases h1 : p < k
        · rw [if_pos h1, if_pos (by omega)]
        · by_cases e : k = p
          · subst e
            rw [if_neg h1, if_pos (by omega)]
            exact (Decidable.byContradiction fun z => c fun y => z y.symm)
          · rw [if_neg h1, if_neg (by omega)]
  refine List.ext_getElem? fun p => ?_
  by_cases hp : p < os.length
  · rw [h _ (Nat.le_refl _) p hp, if_pos hp, List.getD_eq_getElem?_getD, List.getElem?_eq_getElem hp]
    rfl
  · rw [List.getElem?_eq_none (by rw [settleO_len, List.length_replicate]; omega), List.getElem?_eq_none (by omega)]
abbrev NRd : List Str := ["lines", "many", "disk", "loose", "low", "line", "kinds", "kind", "plate", "value"]
theorem scRd : FnScope NRd ["lines"] (defScope sRdk) := ⟨rfl, rfl, rfl, by decide +kernel, rfl, by decide +kernel, by decide +kernel⟩
abbrev stRd (j : Nat) : Stmt := (defBody sRdk).getD j (.Pass ⟨0, 0, 0, 0⟩)
abbrev XRd (P : Program) (w : World) (K : PySem.W.Frag) (mg : Str → Option Value) (base : Heap) (f : Addr) (cdv : Value) (A : Around) (outer : List Env) (s : Shared) (H0 : Hp) (E : XK) : Cx :=
  (cxOf CX0 P w K mg base NRd "read_disk" (defScope sRdk) f cdv A outer s H0 E).nox
def forBody : Stmt → List Stmt
  | .For _ _ b _ _ => b
  | _ => []
abbrev bRd (j : Nat) : Stmt := (forBody (stRd 4)).getD j (.Pass ⟨0, 0, 0, 0⟩)
/-- the loose ones in a list of pairs -/
def LqAt (K : PySem.W.Frag) (H : Hp) (L : Addr) (qs : List (Int × Ov)) : Prop := ∃ us, H L = some (.lst us) ∧ DpAll K (Tp H) us (qs.map fun q => .tuple [.int q.1, dV q.2])
structure MkO (P : Program) (w : World) (K : PySem.W.Frag) (mg : Str → Option Value) (base : Heap) (CD f : Addr) (fd : FuncData) : Prop where
  M : Mk K CD f
  G : FnOk P w K mg base CX0 1 f fd ["self", "many"] (spInO K CD)
  g : mg "Disk" = some (.ref CD)
  b : Binds K fd ["self", "many"] []
theorem ov_obj {K : PySem.W.Frag} {CD : Addr} {H : Hp} {d : Addr} {os : List Ov} {qs : List (Int × Ov)} (D : OvAt K CD H d os qs) : ∃ dx fs, H d = some (.ins CD dx fs) := by
  obtain ⟨sv, lv, ⟨dx, sa, la, ts, x1, _⟩, _⟩ := D
  exact ⟨_, _, x1⟩
section
variable {P : Program} {w : World} {K : PySem.W.Frag} {mg : Str → Option Value} {base : Heap} {CD : Addr} {f : Addr} {cdv : Value} {A : Around} {outer : List Env} {s : Shared} {H0 : Hp} {E : XK}
theorem rd_body {fR fW : Addr} {dR dW : FuncData} (T : DTxt K CD) (DR : Df P w K mg base CX0 5 "read_line" ["line", "words", "low", "many", "kinds"] (spRl K) fR dR) (MW : Me P w K mg base 3 CD "write" ["self", "plate", "value"] (spWrO K CD) fW dW) (hr : Room 5 (A.deeper (envOfC "read_disk" (defScope sRdk) s.heap.objs.size f cdv))) :
    ∃ t, PSs (XRd P w K mg base f cdv A outer s H0 E) [bRd 1, bRd 2] t ∧ ∀ (D : Ends) H (p d L kq : Addr) (n : Nat) (low : Int) (j : Nat) (lsx : List (List Nat)) (i : Int) (kw : List Nat) (o : Ov) (ks : List Str) (os : List Ov) (ps qs : List (Int × Ov)) (y7 y8 y9 : Option V), LT K H p (strV lsx) → lsx[j]? = some (kw ++ [32] ++ iL i ++ [32] ++ txO o) → SqT K H kq (ks.map V.str) → mkS kw ∈ ks → (kw = plW ∨ kw = loW) → OFew o → Few i →
      (if kw = plW then low else 0) ≤ i → i < ((n : Nat) : Int) → ¬ (kw = plW ∧ o = some []) → OvAt K CD H d os ps → os.length = n → 0 ≤ i → ps.length ≤ 1000 → LqAt K H L qs → qs.length ≤ 1000 →
      (kw = loW → ∀ y7 y8 y9 H', Fr [L] H H' → LqAt K H' L (qs ++ [(i, o)]) → D.nx [some (.ref p), some (.int ((n : Nat) : Int)), some (.ref d), some (.ref L), some (.int low), some (.int ((j : Nat) : Int)), some (.ref kq), y7, y8, y9] H') →
      (kw = plW → ∀ y7 y8 y9 H', Fr [d] H H' → OvAt K CD H' d os (ps ++ [(i, o)]) → D.nx [some (.ref p), some (.int ((n : Nat) : Int)), some (.ref d), some (.ref L), some (.int (i + 1)), some (.int ((j : Nat) : Int)), some (.ref kq), y7, y8, y9] H') →
      t D [some (.ref p), some (.int ((n : Nat) : Int)), some (.ref d), some (.ref L), some (.int low), some (.int ((j : Nat) : Int)), some (.ref kq), y7, y8, y9] H := by
  have nd := scRd.nd
  have h3 : Room 3 _ := hr.mono (by decide)
  refine ⟨_, pss_cons (ps_asg (pe_call DR.G hr rfl DR.g DR.kp DR.b .nil pass0 (pa_cons (pv 5) (pa_cons (pe_split (pe_ix ix_seq (pv 0) (pv 5) (fun _ _ => rfl)) pe_str) (pa_cons (pv 4) (pa_cons (pv 1) (pa_cons (pv 6) pa_nil))))))
      (pg_tup rfl (pgs_cons (pg_name (i := 7) nd rfl (.inl rfl)) (pgs_cons (pg_name (i := 8) nd rfl (.inl rfl)) (pgs_cons (pg_name (i := 9) nd rfl (.inl rfl)) pgs_nil)))))
    (pss_one (ps_if (pt_cmpR op_eq (pv 7) pe_str (nomark _)) (pss_one (ps_expr (pe_bm PySem.F.plainAttrs_list PySem.F.slot_list_append PySem.F.type_list_append mt_append (pv 3) (pa_cons (pe_tup (pa_cons (pv 8) (pa_cons (pv 9) pa_nil))) pa_nil))))
      (pss_cons (ps_expr (pe_meth (pv 2) T.cl MW.m MW.G h3 MW.b .nil pass0 (pa_cons (pv 8) (pa_cons (pv 9) pa_nil)))) (pss_one (ps_set (i := 4) nd rfl (.inl rfl) (pe_op op_add (pv 8) pe_int)))))),
    fun D H p d L kq n low j lsx i kw o ks os ps qs y7 y8 y9 hp hl hk hmem hkw hfo hfi hlo hhi hne Dk hol hi0 hpl Lq hql kl kp => ?_⟩
  have hfl := few_len hfi
  have htl := tx_len hfo
  have hkc : kw.length = 5 := by
    rcases hkw with z | z
    · rw [z]; rfl
    · rw [z]; rfl
  have hk32 : 32 ∉ kw := by
    rcases hkw with z | z
    · rw [z]; decide
    · rw [z]; decide
  refine ⟨_, rfl, _, rfl, _, rfl, LT.ix hp (atI_nat (j := j) (by unfold strV; rw [List.getElem?_map, hl]; rfl)) ⟨⟨_, rfl⟩, _, _, rfl, rfl, by decide +kernel, ?_, fun q hq => ?_⟩⟩
  · rw [len_mkS, sizeLine_eq]
    simp only [List.length_append, List.length_cons, List.length_nil]
    omega
  have hsp : Txt.split (mkS (kw ++ [32] ++ iL i ++ [32] ++ txO o)) (Str.ofString " ") = [kw, iL i, txO o].map mkS := split_ln hk32 i o
  rw [hsp]
  have s1 := same_upd (o := .lst (([kw, iL i, txO o].map mkS).map V.str)) hq
  have eq1 : (upd H q (.lst (([kw, iL i, txO o].map mkS).map V.str))) q = some (.lst (([kw, iL i, txO o].map mkS).map V.str)) := upd_same
  generalize upd H q (.lst (([kw, iL i, txO o].map mkS).map V.str)) = H1 at s1 eq1 ⊢
  refine ⟨_, rfl, _, rfl, _, rfl, ((j : Nat) : Int), low, ((n : Nat) : Int), i, q, kq, kw, o, ks, rfl, SqL.of eq1, same_seqT s1 hk, hmem, hkw, hfo, hfi, hlo, hhi, hne, fun t v H2 s2 ht hv => ?_⟩
  have s12 := s1.trans s2
  refine ⟨t, _, rfl, ht, rfl, _, _, rfl, _, _, rfl, _, _, rfl, rfl, ?_⟩
  have h8 : decide (V.str (mkS kw) = V.str ("loose" : Str)) = decide (kw = loW) := by rw [str_eq, tl_mkS, tl_loW]
  refine ⟨_, rfl, rfl, _, rfl, ite2 (fun hc => ?_) (fun hc => ?_)⟩
  · have hc' : kw = loW := of_decide_eq_true (h8.symm.trans hc)
    obtain ⟨us, eL, dL⟩ := id Lq
    have hul := dps_len dL
    rw [List.length_map] at hul
    refine ⟨_, rfl, .inl ⟨rfl, _, SqL.of (s12 _ _ eL)⟩, _, rfl, _, rfl, (by show 2 ≤ sizeLine; decide), fun b hb => ?_⟩
    have s3 := same_upd (o := .tup [V.int i, v]) hb
    have eL3 := s3 _ _ (s12 _ _ eL)
    have nbL : b ≠ L := fun z => by rw [z, s12 _ _ eL] at hb; cases hb
    refine ⟨L, us, _, rfl, rfl, eL3, by rw [sizeLine_eq]; omega, ?_⟩
    have s13 := s12.trans s3
    have fL : Fr [L] H (upd (upd H2 b (.tup [V.int i, v])) L (.lst (us ++ [V.ref b]))) := (Fr.of s13).trans (.put (by simp) fun u z => by rw [eL3] at z; cases z; rfl)
    refine kl hc' _ _ _ _ fL ⟨_, upd_same, ?_⟩
    rw [List.map_append]
    have tb : Same (Tp H2) (Tp (upd (upd H2 b (.tup [V.int i, v])) L (.lst (us ++ [V.ref b])))) := (tp_same s3).trans (tp_put fun o q => by rw [eL3] at q; cases q; rfl)
    exact dps_app (dps_same fL.tp _ _ dL) (.cons (.tup (SqT.of (tp_at (by rw [upd_ne nbL, upd_same]) rfl)) (.cons (.int _) (.cons (dp_same tb _ _ hv) .nil))) .nil)
  · have hc' : kw = plW := by
      rcases hkw with z | z
      · exact z
      · exact absurd (h8.trans (decide_eq_true z)) hc
    obtain ⟨sv, lv, ⟨dx, sa, la, ts, x1, _⟩, _⟩ := id Dk
    refine ⟨_, rfl, d, dx, _, rfl, s12 _ _ x1, fl_no _ _ _ (by decide +kernel) (by decide +kernel) (by decide +kernel), _, rfl, _, rfl, d, os, ps, i, v, o, rfl, Dk.same s12, hi0, by rw [hol]; exact hhi, hpl, hv, fun H3 f3 D3 => ?_⟩
    exact ⟨_, rfl, _, _, rfl, rfl, kp hc' _ _ _ H3 ((Fr.of s12).trans f3) D3⟩
def spRdk (K : PySem.W.Frag) (CD : Addr) : Sp := fun vs H Q _ => ∃ (p : Addr) (os : List Ov) (qs : List (Int × Ov)), vs = [.ref p] ∧ LT K H p (strV (allL os qs)) ∧ 1 ≤ os.length ∧ os.length ≤ 1000 ∧ qs.length ≤ 1000 ∧ (∀ o ∈ os, OFew o) ∧ (∀ q ∈ qs, OFew q.2 ∧ 0 ≤ q.1 ∧ q.1 < ((os.length : Nat) : Int)) ∧
  ∀ d H', Same H H' → H d = none → OvAt K CD H' d os qs → Q (.ref d) H'
theorem ks_plate : mkS plW = ("plate" : Str) := TL.ext_tl (by rw [tl_mkS, tl_plW])
theorem ks_loose : mkS loW = ("loose" : Str) := TL.ext_tl (by rw [tl_mkS, tl_loW])
end
section
variable {P : Program} {w : World} {K : PySem.W.Frag} {mg : Str → Option Value} {base : Heap} {CD : Addr}
theorem ok_rdk {f fM fI fR fW fB : Addr} {fd dM dI dR dW dB : FuncData} (F : Fun K "read_disk" "read_disk" sRdk f fd) (T : DTxt K CD) (DM : Df P w K mg base CX0 5 "read_many" ["lines"] (spRm K) fM dM) (MI : MkO P w K mg base CD fI dI) (DR : Df P w K mg base CX0 5 "read_line" ["line", "words", "low", "many", "kinds"] (spRl K) fR dR)
    (MW : Me P w K mg base 3 CD "write" ["self", "plate", "value"] (spWrO K CD) fW dW) (MB : Me P w K mg base 1 CD "barrier" ["self"] (spBrO K CD) fB dB) (ml : mg "len" = none) (mr : mg "range" = none) : FnOk P w K mg base CX0 6 f fd ["lines"] (spRdk K CD) := by
  refine F.ok scRd (fun vs H Q E h => ?_) (fun cdv A outer s H vs Q E hr h => ?_)
  · obtain ⟨p, os, qs, rfl, _⟩ := h
    rfl
  · obtain ⟨p, os, qs, rfl, hp, n1, n2, hql, ho, hq, k⟩ := h
    have nd := scRd.nd
    have h1 : Room 1 _ := hr.mono (by decide)
    have h2 : Room 2 _ := hr.mono (by decide)
    have h3 : Room 3 _ := hr.mono (by decide)
    obtain ⟨tb, pb, qb⟩ := rd_body (P := P) (w := w) (K := K) (mg := mg) (base := base) (f := f) (cdv := cdv) (A := A) (outer := outer) (s := s) (H0 := H) (E := E) T DR MW hr
    refine ⟨_, pss_cons (ps_set (i := 1) nd rfl (.inl rfl) (pe_call DM.G hr rfl DM.g DM.kp DM.b .nil pass0 (pa_cons (pv 0) pa_nil)))
      (pss_cons (ps_set (i := 2) nd rfl (.inl rfl) (pe_make MI.M MI.G h2 rfl MI.g MI.b .nil pass0 (pa_cons (pv 1) pa_nil)))
      (pss_cons (ps_set (i := 3) nd rfl (.inl rfl) (pe_lst pa_nil))
      (pss_cons (ps_set (i := 4) nd rfl (.inl rfl) pe_int)
      (pss_cons (ps_for PassesOwn.never rfl (pi_range2 (by rfl) mr (pa_cons pe_int (pa_cons (pe_callB call_len_seq (by rfl) ml boot_len (pa_cons (pv 0) pa_nil)) pa_nil))) (pg_name (i := 5) nd rfl (.inl rfl))
        (pss_cons (ps_set (i := 6) nd rfl (.inl rfl) (pe_ifExp (pt_cmpR op_eq (pe_callB call_len_seq (by rfl) ml boot_len (pa_cons (pv 3) pa_nil)) pe_int (nomark _)) (pe_tup (pa_cons pe_str (pa_cons pe_str pa_nil))) (pe_tup (pa_cons pe_str pa_nil)))) pb))
      (pss_cons (ps_expr (pe_meth0 (pv 2) T.cl MB.m MB.G h1 MB.b .nil pass0))
      (pss_cons (ps_for PassesOwn.never rfl (pi_list (pv 3)) (pg_tup rfl (pgs_cons (pg_name (i := 8) nd rfl (.inl rfl)) (pgs_cons (pg_name (i := 9) nd rfl (.inl rfl)) pgs_nil)))
        (pss_one (ps_expr (pe_meth (pv 2) T.cl MW.m MW.G h3 MW.b .nil pass0 (pa_cons (pv 8) (pa_cons (pv 9) pa_nil))))))
      (pss_one (ps_ret (pv 2))))))))), ?_⟩
    have eall : allL os qs = lnD ((os.length : Nat) : Int) :: ((plQ os os.length).map (fun q => lnP q.1 q.2) ++ qs.map fun q => lnL q.1 q.2) := by
      unfold allL
      rw [plQ_K, List.append_assoc]
      rfl
    rw [eall] at hp
    have hpll : (plQ os os.length).length ≤ os.length := by
      have := plK_len os os.length
      rw [plQ_K, List.length_map] at this
      exact this
    refine ⟨_, rfl, p, _, os.length, rfl, hp, n1, n2, fun H1 s1 => ?_⟩
    refine ⟨_, rfl, fun d dx hd hdx hne => ?_⟩
    have sd : Same H1 (upd (upd H1 dx (.own d)) d (.ins CD dx [])) := fun b o z => by
      rw [upd_ne (ne_of_none z hd), upd_ne (ne_of_none z hdx)]
      exact z
    refine ⟨d, dx, os.length, rfl, upd_same, n1, n2, fun H3 b3 Dk3 => ⟨rfl, ?_⟩⟩
    have s3 : Same H1 H3 := fun b o z => b3.at (sd _ _ z) (by simp only [List.mem_cons, List.not_mem_nil, or_false]; exact ne_of_none z hd)
    refine ⟨(by show 0 ≤ sizeLine; decide), fun L hL => ?_⟩
    have s4 := same_upd (o := .lst []) hL
    have s04 := (s1.trans s3).trans s4
    have hdH : H d = none := s1.free hd
    have hLH : H L = none := (s1.trans s3).free hL
    have eL0 : (upd H3 L (.lst [])) L = some (.lst []) := upd_same
    have Dk4 := Dk3.same s4
    generalize upd H3 L (.lst []) = H4 at s4 s04 eL0 Dk4 ⊢
    obtain ⟨dxx, fs0, ed4⟩ := ov_obj Dk4
    have hp4 := hp.same s04
    have hlen : (strV (lnD ((os.length : Nat) : Int) :: ((plQ os os.length).map (fun q => lnP q.1 q.2) ++ qs.map fun q => lnL q.1 q.2))).length = 1 + (plQ os os.length).length + qs.length := by
      rw [strV_len, List.length_cons, List.length_append, List.length_map, List.length_map]
      omega
    have LL0 : LqAt K H4 L (qs.take (0 - (plQ os os.length).length)) := by
      rw [Nat.zero_sub, List.take_zero]
      exact ⟨[], eL0, .nil⟩
    have Dk4' : OvAt K CD H4 d (List.replicate os.length (some [])) ((plQ os os.length).take 0) := Dk4
    have hplm := fun q hq => plQ_mem (os := os) (k := os.length) (q := q) hq
    have hasc := plQ_asc os os.length
    have hset := settle_pl os
    generalize plQ os os.length = pl at hset hp4 hp hlen LL0 Dk4' hplm hasc hpll eall
    have hrep : (List.replicate os.length (some []) : List Ov).length = os.length := List.length_replicate
    generalize hlv : strV (lnD ((os.length : Nat) : Int) :: (pl.map (fun q => lnP q.1 q.2) ++ qs.map fun q => lnL q.1 q.2)) = lv at hp4 hlen
    have hNL : (((lv.length : Nat) : Int) - 1).toNat = pl.length + qs.length := by omega
    refine ⟨_, rfl, p, lv, rfl, hp4, 1, _, rfl, ⟨by decide, by decide, by omega, by omega⟩, for_range (lo := 1) (n := (((lv.length : Nat) : Int) - 1).toNat) (fun j σ' Hx => ∃ (low : Int) (y5 y6 y7 y8 y9 : Option V), σ' = [some (.ref p), some (.int ((os.length : Nat) : Int)), some (.ref d), some (.ref L), some (.int low), y5, y6, y7, y8, y9] ∧ Same H Hx ∧ OvAt K CD Hx d (List.replicate os.length (some [])) (pl.take j) ∧ LqAt K Hx L (qs.take (j - pl.length)) ∧ ∀ x q, j ≤ x → pl[x]? = some q → low ≤ q.1)
      ⟨0, none, none, none, none, none, rfl, s04, Dk4', LL0, fun x q _ hx => ?_⟩ ?_ ?_⟩
    · obtain ⟨i, _, e, _⟩ := hplm q (List.mem_of_getElem? hx)
      rw [e]
      show (0 : Int) ≤ ((i : Nat) : Int)
      omega
    · rintro j σ' Hx hj ⟨low, y5, y6, y7, y8, y9, rfl, sx, Dx, Lx, hlow⟩
      rw [hNL] at hj
      obtain ⟨us, eL, dL⟩ := id Lx
      have hul := dps_len dL
      rw [List.length_map, List.length_take] at hul
      have hpx := hp.same sx
      have ej : (1 : Int) + ((j : Nat) : Int) = (((1 + j : Nat)) : Int) := by omega
      have body : ∀ (D' : Ends) (Hy : Hp) (kq : Addr) (ks : List Str), (∀ (low : Int) (y5 y6 y7 y8 y9 : Option V) (Hx : Hp), Same H Hx → OvAt K CD Hx d (List.replicate os.length (some [])) (pl.take (j + 1)) → LqAt K Hx L (qs.take (j + 1 - pl.length)) → (∀ x q, j + 1 ≤ x → pl[x]? = some q → low ≤ q.1) → D'.nx [some (.ref p), some (.int ((os.length : Nat) : Int)), some (.ref d), some (.ref L), some (.int low), y5, y6, y7, y8, y9] Hx) →
          Same Hx Hy → SqT K Hy kq (ks.map V.str) → (j < pl.length → mkS plW ∈ ks) → mkS loW ∈ ks →
          tb D' [some (.ref p), some (.int ((os.length : Nat) : Int)), some (.ref d), some (.ref L), some (.int low), some (.int (((1 + j : Nat)) : Int)), some (.ref kq), y7, y8, y9] Hy := by
        intro D' Hy kq ks kD sy hk hm1 hm2
        have sHy := sx.trans sy
        have hpy := hp.same sHy
        have Dy := Dx.same sy
        have Ly : LqAt K Hy L (qs.take (j - pl.length)) := ⟨us, sy _ _ eL, dps_same (tp_same sy) _ _ dL⟩
        have htk : (pl.take j).length ≤ 1000 := by rw [List.length_take]; omega
        have hqk : (qs.take (j - pl.length)).length ≤ 1000 := by rw [List.length_take]; omega
        by_cases c : j < pl.length
        · obtain ⟨q, hqj⟩ : ∃ q, pl[j]? = some q := ⟨_, List.getElem?_eq_getElem c⟩
          obtain ⟨i, hi, eq, hne⟩ := hplm q (List.mem_of_getElem? hqj)
          have hl : (lnD ((os.length : Nat) : Int) :: (pl.map (fun q => lnP q.1 q.2) ++ qs.map fun q => lnL q.1 q.2))[1 + j]? = some (plW ++ [32] ++ iL q.1 ++ [32] ++ txO q.2) := by
            rw [Nat.add_comm, List.getElem?_cons_succ, List.getElem?_append_left (by rw [List.length_map]; exact c), List.getElem?_map, hqj]
            rfl
          have hoq : os.getD i none ∈ os := by rw [List.getD_eq_getElem?_getD, List.getElem?_eq_getElem hi]; exact List.getElem_mem _
          rw [eq] at hqj hl
          refine qb D' Hy p d L kq os.length low (1 + j) _ ((i : Nat) : Int) plW (os.getD i none) ks (List.replicate os.length (some [])) (pl.take j) (qs.take (j - pl.length)) y7 y8 y9 hpy hl hk (hm1 c) (.inl rfl) (ho _ hoq) (few_nat (by omega)) (by rw [if_pos rfl]; exact hlow j _ (Nat.le_refl _) hqj) (by omega) (fun z => hne z.2) Dy hrep (by omega) htk Ly hqk (fun z => absurd z (by decide)) (fun _ y7 y8 y9 H' f' D2 => ?_)
          have sH' : Same H H' := fun b o z => (((Fr.of (cs := [d]) sHy).trans f').drop (cs := []) fun c hc => .inr (by rw [List.mem_singleton.mp hc]; exact hdH)) b o z (.inl (by simp))
          obtain ⟨dxy, fsy, edy⟩ := ov_obj Dy
          have nLd : L ≠ d := fun z => by rw [z] at eL; rw [sy _ _ eL] at edy; cases edy
          refine kD _ _ _ _ _ _ H' sH' ?_ ?_ fun x q' hx hq' => ?_
          · rw [List.take_add_one, hqj]
            exact D2
          · have e0 : j + 1 - pl.length = j - pl.length := by omega
            rw [e0]
            exact ⟨us, f'.at (sy _ _ eL) (by simp [nLd]), dps_same f'.tp _ _ (dps_same (tp_same sy) _ _ dL)⟩
          · have h9 := List.pairwise_iff_getElem.mp hasc j x (by rw [List.length_map]; exact c) (by rw [List.length_map]; exact (List.getElem?_eq_some_iff.mp hq').1) (by omega)
            rw [List.getElem_map, List.getElem_map] at h9
            have e1 : pl[j].1 = ((i : Nat) : Int) := by
              have := (List.getElem?_eq_some_iff.mp hqj).2
              rw [this]
            have e2 : pl[x]'((List.getElem?_eq_some_iff.mp hq').1) = q' := (List.getElem?_eq_some_iff.mp hq').2
            rw [e1, e2] at h9
            omega
        · obtain ⟨q, hqj⟩ : ∃ q, qs[j - pl.length]? = some q := ⟨_, List.getElem?_eq_getElem (by omega)⟩
          have hqm := hq q (List.mem_of_getElem? hqj)
          have hl : (lnD ((os.length : Nat) : Int) :: (pl.map (fun q => lnP q.1 q.2) ++ qs.map fun q => lnL q.1 q.2))[1 + j]? = some (loW ++ [32] ++ iL q.1 ++ [32] ++ txO q.2) := by
            rw [Nat.add_comm, List.getElem?_cons_succ, List.getElem?_append_right (by rw [List.length_map]; omega), List.length_map, List.getElem?_map, hqj]
            rfl
          have hfq : Few q.1 := by
            have e : q.1 = ((q.1.toNat : Nat) : Int) := (Int.toNat_of_nonneg hqm.2.1).symm
            rw [e]
            exact few_nat (by omega)
          refine qb D' Hy p d L kq os.length low (1 + j) _ q.1 loW q.2 ks (List.replicate os.length (some [])) (pl.take j) (qs.take (j - pl.length)) y7 y8 y9 hpy hl hk hm2 (.inr rfl) hqm.1 hfq (by rw [if_neg (by decide)]; exact hqm.2.1) hqm.2.2 (fun z => absurd z.1 (by decide)) Dy hrep hqm.2.1 htk Ly hqk (fun _ y7 y8 y9 H' f' L2 => ?_) (fun z => absurd z (by decide))
          have sH' : Same H H' := fun b o z => (((Fr.of (cs := [L]) sHy).trans f').drop (cs := []) fun c hc => .inr (by rw [List.mem_singleton.mp hc]; exact hLH)) b o z (.inl (by simp))
          obtain ⟨dxy, fsy, edy⟩ := ov_obj Dy
          have ndL : d ≠ L := fun z => by rw [← z] at eL; rw [sy _ _ eL] at edy; cases edy
          refine kD _ _ _ _ _ _ H' sH' ?_ ?_ fun x q' hx hq' => ?_
          · rw [List.take_of_length_le (by omega)]
            rw [List.take_of_length_le (by omega)] at Dy
            exact Dy.fr f' (by simp [ndL])
          · have e0 : j + 1 - pl.length = (j - pl.length) + 1 := by omega
            rw [e0, List.take_add_one, hqj]
            exact L2
          · have := (List.getElem?_eq_some_iff.mp hq').1
            omega
      rw [ej]
      refine ⟨_, rfl, L, us, rfl, .inl (SqL.of eL), rfl, _, rfl, ite2 (fun hc => ?_) (fun hc => ?_)⟩
      · refine ⟨(by show 2 ≤ sizeLine; decide), fun kq hkq => ?_⟩
        have sk := same_upd (o := .tup [V.str ("plate" : Str), V.str ("loose" : Str)]) hkq
        exact body _ _ kq [("plate" : Str), ("loose" : Str)] (fun low y5 y6 y7 y8 y9 Hz h1 h2 h3 h4 => ⟨low, y5, y6, y7, y8, y9, rfl, h1, h2, h3, h4⟩) sk (SqT.of upd_same) (fun _ => by rw [ks_plate]; exact List.mem_cons_self) (by rw [ks_loose]; exact List.mem_cons_of_mem _ List.mem_cons_self)
      · refine ⟨(by show 1 ≤ sizeLine; decide), fun kq hkq => ?_⟩
        have sk := same_upd (o := .tup [V.str ("loose" : Str)]) hkq
        refine body _ _ kq [("loose" : Str)] (fun low y5 y6 y7 y8 y9 Hz h1 h2 h3 h4 => ⟨low, y5, y6, y7, y8, y9, rfl, h1, h2, h3, h4⟩) sk (SqT.of upd_same) (fun hj9 => absurd (decide_eq_true ?_) hc) (by rw [ks_loose]; exact List.mem_cons_self)
        have : us.length = 0 := by omega
        rw [this]
        rfl
    · rintro σ' Hx ⟨low, y5, y6, y7, y8, y9, rfl, sx, Dx, Lx, _⟩
      rw [hNL] at Dx Lx
      rw [List.take_of_length_le (by omega)] at Dx
      rw [List.take_of_length_le (by omega)] at Lx
      obtain ⟨sv, lv2, ⟨dx2, sa, la, ts, x1, _⟩, _⟩ := id Dx
      obtain ⟨us, eL, dL⟩ := id Lx
      refine ⟨_, rfl, d, dx2, _, rfl, x1, fl_no _ _ _ (by decide +kernel) (by decide +kernel) (by decide +kernel), d, _, pl, rfl, Dx, fun q hq9 => ?_, by rw [hrep]; exact n2, fun H5 f5 D5 => ?_⟩
      · obtain ⟨i, hi, e, _⟩ := hplm q hq9
        rw [e, hrep]
        show (0 : Int) ≤ ((i : Nat) : Int) ∧ ((i : Nat) : Int) < _
        omega
      rw [hset] at D5
      have nLd : L ≠ d := fun z => by rw [z, x1] at eL; cases eL
      have eL5 := f5.at eL (by simp [nLd])
      have dL5 := dps_same f5.tp _ _ dL
      have hul := dps_len dL
      rw [List.length_map] at hul
      have s5 : Same H H5 := fun b o z => (((Fr.of (cs := [d]) sx).trans f5).drop (cs := []) fun c hc => .inr (by rw [List.mem_singleton.mp hc]; exact hdH)) b o z (.inl (by simp))
      refine ⟨_, rfl, L, rfl, ⟨us, SqL.of eL5⟩, for_list (K := K) (a := L) (xs := us) (fun i σ' Hz => ∃ (y8 y9 : Option V), σ' = [some (.ref p), some (.int ((os.length : Nat) : Int)), some (.ref d), some (.ref L), some (.int low), y5, y6, y7, y8, y9] ∧ Same H Hz ∧ Fr [d] H5 Hz ∧ OvAt K CD Hz d os (qs.take i))
        ⟨_, _, rfl, s5, .of (Same.refl _), D5⟩ (fun i σ' Hz _ z => by obtain ⟨_, _, _, _, z, _⟩ := z; exact SqL.of (z.at eL5 (by simp [nLd]))) ?_ ?_⟩
      · rintro i x σ' Hz hi ⟨y8, y9, rfl, sz, fz, Dz⟩
        obtain ⟨e, he, hd9⟩ := dps_get dL5 hi
        rw [List.getElem?_map] at he
        cases hqi : qs[i]? with
        | none => rw [hqi] at he; cases he
        | some q =>
        rw [hqi] at he
        cases (Option.some.inj he)
        have hqm := hq q (List.mem_of_getElem? hqi)
        cases hd9 with
        | @tup b xs _ hb hxs =>
        cases hxs with
        | cons h1 h2 =>
        cases h1 with
        | int =>
        cases h2 with
        | @cons v9 _ _ _ h3 h4 =>
        cases h4
        have hbz := same_seqT (tp_le) (same_seqT fz.tp hb)
        obtain ⟨sv9, lv9, ⟨dx9, sa9, la9, ts9, x9, _⟩, _⟩ := id Dz
        refine ⟨b, _, rfl, hbz, rfl, _, _, rfl, _, _, rfl, rfl, _, rfl, d, dx9, _, rfl, x9, fl_no _ _ _ (by decide +kernel) (by decide +kernel) (by decide +kernel), _, rfl, _, rfl, d, os, qs.take i, q.1, v9, q.2, rfl, Dz, hqm.2.1, hqm.2.2, by rw [List.length_take]; omega, dp_same fz.tp _ _ h3, fun H7 f7 D7 => ?_⟩
        refine ⟨_, _, rfl, fun b o z => (((Fr.of (cs := [d]) sz).trans f7).drop (cs := []) fun c hc => .inr (by rw [List.mem_singleton.mp hc]; exact hdH)) b o z (.inl (by simp)), fz.trans f7, ?_⟩
        rw [List.take_add_one, hqi]
        exact D7
      · rintro σ' Hz ⟨y8, y9, rfl, sz, fz, Dz⟩
        rw [hul, List.take_length] at Dz
        exact ⟨_, rfl, k d Hz sz hdH Dz⟩
end
end Pf

set_option Elab.async false
set_option linter.all false
set_option maxRecDepth 100000
set_option maxHeartbeats 4000000
namespace Pf
open PySem PySem.Spec PyProof.Rows L2 TL
section
variable {P : Program} {w : World} {K : PySem.W.Frag} {mg : Str → Option Value} {base : Heap} {CD : Addr}
theorem scLText : FnScope ["value", "number"] ["value"] (defScope sLText) := ⟨rfl, rfl, rfl, by decide +kernel, rfl, by decide +kernel, by decide +kernel⟩
theorem scLDisk : FnScope ["draw", "disk", "turn", "value"] ["draw"] (defScope sLDisk) := ⟨rfl, rfl, rfl, by decide +kernel, rfl, by decide +kernel, by decide +kernel⟩
theorem ok_ltext {f : Addr} {fd : FuncData} (F : Fun K "_law_text" "_law_text" sLText f fd) (ms : mg "str" = none) : FnOk P w K mg base CX0 1 f fd ["value"] (spVt K) := by
  refine F.ok scLText (fun vs H Q E h => ?_) (fun cdv A outer s H vs Q E hr h => ?_)
  · obtain ⟨v, o, rfl, _⟩ := h
    rfl
  · obtain ⟨v, o, rfl, hd, hf, k⟩ := h
    have nd := scLText.nd
    refine ⟨_, pss_cons (ps_if (pt_cmpR op_isN (pv 0) pe_non (nomark _)) (pss_one (ps_ret pe_str)) pss_nil)
      (pss_one (ps_ret (pe_ifExp (pt_cmpR (op_eqD hr.units) (pv 0) (pe_tup pa_nil) (nomark _)) pe_str (pe_join pe_str (pe_lc (own := [("number", 1)]) (g := gName 1) (tt := tYes) (te := tStr 1) rfl nd (pi_tup (pv 0)) (blkOk_by (N := ["value", "number"]) (sc := defScope sLText) (by decide +kernel))
            (fun _ _ _ _ _ => pg_name (i := 1) nd rfl (.inl rfl)) (fun _ _ _ _ _ => pts_nil)
            (fun _ _ _ _ _ => pe_callTy call_str_int (by rfl) ms (by decide +kernel) (pa_cons (pv 1) pa_nil))))))), ?_⟩
    cases o with
    | none =>
      have ev : v = .non := by cases hd; rfl
      subst ev
      refine ⟨_, rfl, rfl, _, rfl, iteT ?_⟩
      have e : ("torn" : Str) = mkS (txO none) := TL.ext_tl (by rw [tl_torn, tl_mkS]; rfl)
      show Q (.str ("torn" : Str)) H
      rw [e]
      exact k H (Same.refl _)
    | some ns =>
      obtain ⟨a, rfl, ha⟩ := row_read hd
      have hq : SqT K H a (ns.map V.int) := same_seqT tp_le ha
      refine ⟨_, rfl, rfl, _, rfl, iteF ?_⟩
      refine ⟨_, rfl, (by show 0 ≤ sizeLine; decide), fun em hem => ?_⟩
      have s1 := same_upd (o := .tup []) hem
      refine ⟨rowD ns, .tuple [], .tup (same_seqT s1 hq) (dps_ints _), .tup (SqT.of upd_same) .nil, shaped_tup (lay_ints _) (by rw [dep_ints]; decide), by decide +kernel, ?_⟩
      have eq0 : PyData.eqv (rowD ns) (.tuple []) = decide (ns = []) := by
        cases ns with
        | nil => simp [rowD, PyData.eqv, PyData.eqvAll]
        | cons n ns => simp [rowD, PyData.eqv, PyData.eqvAll]
      rw [eq0]
      refine ⟨_, rfl, ite2 (fun hc => ?_) (fun hc => ?_)⟩
      · have hn := of_decide_eq_true hc
        subst hn
        have e : ("empty" : Str) = mkS (txO (some [])) := TL.ext_tl (by rw [tl_empty, tl_mkS]; rfl)
        show Q (.str ("empty" : Str)) _
        rw [e]
        exact k _ s1
      · have hn : ns ≠ [] := fun z => hc (decide_eq_true z)
        refine ⟨⟨_, rfl⟩, _, rfl, a, rfl, ⟨_, same_seqT s1 hq⟩, fun D hD => lc_tup (K := K) (a := a) (xs := ns.map V.int) (fun i H' => Same (upd H em (.tup [])) H' ∧ H' D = some (.lst ((ns.take i).map fun n => V.str (mkS (iL n))))) ⟨same_upd hD, upd_same⟩ (fun i H' _ z => same_seqT (s1.trans z.1) hq) ?_ ?_⟩
        · rintro i x Hy hi ⟨sy, ey⟩
          rw [List.getElem?_map] at hi
          cases hni : ns[i]? with
          | none => rw [hni] at hi; cases hi
          | some n =>
          rw [hni] at hi
          have ev : V.int n = x := Option.some.inj hi
          subst ev
          have hfn := hf.2 n (List.mem_of_getElem? hni)
          refine ⟨rfl, tyes_go ⟨_, rfl, n, rfl, few_log hfn, _, ey, ?_, fun b o q => ?_, ?_⟩⟩
          · rw [List.length_map, List.length_take, sizeLine_eq]
            have := hf.1
            omega
          · rw [upd_ne (ne_of_none q hD)]
            exact sy _ _ q
          · rw [upd_same, List.take_add_one, hni, List.map_append]
            have e : mkS (iL n) = Str.ofString (toString n) := mk_tlS _
            show some (HO.lst (_ ++ [V.str (mkS (iL n))])) = _
            rw [e]
            rfl
        · rintro Hz ⟨sz, ez⟩
          rw [List.length_map, List.take_length] at ez
          have e8 : (ns.map fun n => V.str (mkS (iL n))) = (ns.map fun n => mkS (iL n)).map V.str := by rw [List.map_map]; rfl
          rw [e8] at ez
          refine ⟨_, D, ns.map (fun n => mkS (iL n)), rfl, rfl, .inl (SqL.of ez), ?_, ?_⟩
          · have h1 := sum_le (ls := ns.map (fun n => mkS (iL n))) (k := 31) fun x hx => by
              obtain ⟨n, hn2, rfl⟩ := List.mem_map.mp hx
              rw [len_mkS]
              exact few_len (hf.2 n hn2)
            have h2 := hf.1
            have h3 : (("," : Str)).length = 1 := by rw [len_tl, tl_comma]; rfl
            rw [List.length_map] at h1 ⊢
            have h4 : (Str.ofString ",").length = 1 := h3
            rw [h4]
            omega
          · have e : Txt.join ("," : Str) (ns.map fun n => mkS (iL n)) = mkS (txO (some ns)) := TL.ext_tl (by
              rw [join_eq, tl_join, tl_comma, tl_mkS]
              show _ = txN ns
              unfold txN
              rw [if_neg hn, List.map_map]
              rfl)
            show Q (.str (Txt.join ("," : Str) (ns.map fun n => mkS (iL n)))) _
            rw [e]
            exact k _ (s1.trans sz)
def spLDisk (K : PySem.W.Frag) (CD : Addr) : Sp := fun vs H Q _ => ∃ (a sc : Addr) (ss : List Int), vs = [.ref a] ∧ DrawAt K H a sc ss ∧
  ∀ d os qs H', But [a] H H' → DrawAt K H' a sc ss → H d = none → OvAt K CD H' d os qs → 1 ≤ os.length → os.length ≤ 6 → qs.length ≤ 8 → (∀ o ∈ os, OFew o) → (∀ q ∈ qs, OFew q.2 ∧ 0 ≤ q.1 ∧ q.1 < ((os.length : Nat) : Int)) → Q (.ref d) H'
theorem settleO_few : ∀ {qs : List (Int × Ov)} {os : List Ov}, (∀ o ∈ os, OFew o) → (∀ q ∈ qs, OFew q.2) → ∀ o ∈ settleO os qs, OFew o
  | [], _, h, _ => h
  | q :: qs, os, h, h2 => settleO_few (qs := qs) (os := os.set q.1.toNat q.2) (fun o ho => by
      rcases List.mem_or_eq_of_mem_set ho with z | z
      · exact h o z
      · rw [z]; exact h2 q List.mem_cons_self) fun q hq => h2 q (List.mem_cons_of_mem _ hq)
theorem but_fr {H H' H'' : Hp} {a d : Addr} (b : But [a] H H') (hd : H d = none) (f : Fr [d] H' H'') (sub : ∀ o, H' d = some o → True := fun _ _ => trivial) : But [a] H H'' := fun c o q => by
  have h1 := b c o q
  have hc : c ∉ [a] := fun z => by rw [off_in z] at q; cases q
  rw [off_out hc] at q
  exact f c o h1 (.inl (by simp only [List.mem_cons, List.not_mem_nil, or_false]; exact ne_of_none q hd))
theorem ok_ldisk {f fP fT fI fW fB : Addr} {fd dP dT dI dW dB : FuncData} (F : Fun K "_law_disk" "_law_disk" sLDisk f fd) (T : DTxt K CD) (DP : Df P w K mg base CX0 3 "_law_pick" ["draw", "items"] (spPick K) fP dP) (DT : Df P w K mg base CX0 2 "_law_take" ["draw", "many"] (spTake K) fT dT) (MI : MkO P w K mg base CD fI dI)
    (MW : Me P w K mg base 3 CD "write" ["self", "plate", "value"] (spWrO K CD) fW dW) (MB : Me P w K mg base 1 CD "barrier" ["self"] (spBrO K CD) fB dB) (ml : mg "len" = none) (mr : mg "range" = none) : FnOk P w K mg base CX0 4 f fd ["draw"] (spLDisk K CD) := by
  refine F.ok scLDisk (fun vs H Q E h => ?_) (fun cdv A outer s H vs Q E hr h => ?_)
  · obtain ⟨a, sc, ss, rfl, _⟩ := h
    rfl
  · obtain ⟨a, sc, ss, rfl, D0, k⟩ := h
    have nd := scLDisk.nd
    have h1 : Room 1 _ := hr.mono (by decide)
    have h2 : Room 2 _ := hr.mono (by decide)
    refine ⟨_, pss_cons (ps_set (i := 1) nd rfl (.inl rfl) (pe_make MI.M MI.G h2 rfl MI.g MI.b .nil pass0 (pa_cons (pe_call DP.G hr rfl DP.g DP.kp DP.b .nil pass0 (pa_cons (pv 0) (pa_cons (pe_lst (pa_cons pe_int (pa_cons pe_int (pa_cons pe_int pa_nil)))) pa_nil))) pa_nil)))
      (pss_cons (ps_for PassesOwn.never rfl (pi_range1 (by rfl) mr (pa_cons (pe_call DT.G h2 rfl DT.g DT.kp DT.b .nil pass0 (pa_cons (pv 0) (pa_cons pe_int pa_nil))) pa_nil)) (pg_name (i := 2) nd rfl (.inl rfl))
        (pss_one (ps_if (pt_cmpR op_eq (pe_call DT.G h2 rfl DT.g DT.kp DT.b .nil pass0 (pa_cons (pv 0) (pa_cons pe_int pa_nil))) pe_int (nomark _)) (pss_one (ps_expr (pe_meth0 (pv 1) T.cl MB.m MB.G h1 MB.b .nil pass0)))
          (pss_cons (ps_set (i := 3) nd rfl (.inl rfl) (pe_call DP.G hr rfl DP.g DP.kp DP.b .nil pass0 (pa_cons (pv 0) (pa_cons (pe_lst (pa_cons pe_non (pa_cons (pe_tup pa_nil) (pa_cons (pe_tup (pa_cons pe_int pa_nil)) (pa_cons (pe_tup (pa_cons pe_int (pa_cons (pe_un un_neg pe_int) (pa_cons (pe_op op_pow pe_int pe_int) pa_nil)))) (pa_cons (pe_op op_repT (pe_tup (pa_cons pe_int pa_nil)) pe_int) (pa_cons (pe_tup (pa_cons (pe_un un_neg pe_int) pa_nil)) pa_nil))))))) pa_nil))))
          (pss_one (ps_expr (pe_meth (pv 1) T.cl MW.m MW.G hr MW.b .nil pass0 (pa_cons (pe_call DT.G h2 rfl DT.g DT.kp DT.b .nil pass0 (pa_cons (pv 0) (pa_cons (pe_callB call_len_seq (by rfl) ml boot_len (pa_cons (pe_fld (pv 1) rfl) pa_nil)) pa_nil))) (pa_cons (pv 3) pa_nil)))))))))
      (pss_one (ps_ret (pv 1)))), ?_⟩
    refine ⟨_, rfl, (by show 3 ≤ sizeLine; decide), fun q1 hq1 => ?_⟩
    have t1 := same_upd (o := .lst [V.int 1, V.int 3, V.int 6]) hq1
    refine ⟨a, q1, sc, ss, [.int 1, .int 3, .int 6], rfl, D0.same t1, upd_same, D0.ne hq1, by simp, fun v H1 hv b1 D1 => ?_⟩
    obtain ⟨n, rfl, hn1, hn6⟩ : ∃ n : Nat, v = .int ((n : Nat) : Int) ∧ 1 ≤ n ∧ n ≤ 6 := by
      simp only [List.mem_cons, List.not_mem_nil, or_false] at hv
      rcases hv with rfl | rfl | rfl
      · exact ⟨1, rfl, by decide, by decide⟩
      · exact ⟨3, rfl, by decide, by decide⟩
      · exact ⟨6, rfl, by decide, by decide⟩
    have b01 : But [a] H H1 := but_trans (.of t1) b1
    refine fun d dx hd hdx hne => ?_
    have sd : Same H1 (upd (upd H1 dx (.own d)) d (.ins CD dx [])) := fun b o z => by
      rw [upd_ne (ne_of_none z hd), upd_ne (ne_of_none z hdx)]
      exact z
    refine ⟨d, dx, n, rfl, upd_same, hn1, by omega, fun H3 b3 Dk3 => ⟨rfl, ?_⟩⟩
    have s3 : Same H1 H3 := fun b o z => b3.at (sd _ _ z) (by simp only [List.mem_cons, List.not_mem_nil, or_false]; exact ne_of_none z hd)
    have b03 : But [a] H H3 := but_same b01 s3
    have D3 := D1.same s3
    have hda1 : d ≠ a := D1.ne hd
    have hdH : H d = none := by
      cases e : H d with
      | none => rfl
      | some o =>
        have := b01.at e (by simp [hda1])
        rw [hd] at this
        cases this
    refine ⟨_, rfl, a, sc, ss, 8, rfl, D3, by decide, fun N H4 N0 N8 b4 D4 => ?_⟩
    have Dk4 := Dk3.fr (D3.frb b4) (by simp [hda1])
    refine ⟨_, rfl, by omega, by omega, for_range (lo := 0) (n := N.toNat) (fun i σ' Hx => ∃ (y2 y3 : Option V) (os : List Ov) (qs : List (Int × Ov)), σ' = [some (.ref a), some (.ref d), y2, y3] ∧ But [a] H Hx ∧ DrawAt K Hx a sc ss ∧ OvAt K CD Hx d os qs ∧ os.length = n ∧ qs.length ≤ i ∧ (∀ o ∈ os, OFew o) ∧ ∀ q ∈ qs, OFew q.2 ∧ 0 ≤ q.1 ∧ q.1 < ((n : Nat) : Int))
      ⟨_, _, _, _, rfl, but_trans b03 b4, D4, Dk4, List.length_replicate, Nat.le_refl _, fun o ho => (by rw [List.eq_of_mem_replicate ho]; exact ⟨by decide, fun _ z => by cases z⟩), fun _ z => by cases z⟩ ?_ ?_⟩
    · rintro i σ' Hx hi ⟨y2, y3, os, qs, rfl, bx, Dx, Ox, hol, hql, ho, hq⟩
      have hi8 : i < 8 := by omega
      refine ⟨_, rfl, a, sc, ss, 4, rfl, Dx, by decide, fun r1 Ha r10 r11 ba Da => ?_⟩
      have bxa := but_trans bx ba
      have Oa := Ox.fr (Dx.frb ba) (by simp [hda1])
      obtain ⟨sv, lv, ⟨dxx, sa, la, ts, x1, x2, x3, x4, x5, x6⟩, D2, D3'⟩ := id Oa
      refine ⟨rfl, _, rfl, ite2 (fun _ => ?_) (fun _ => ?_)⟩
      · refine ⟨_, rfl, d, dxx, _, rfl, x1, fl_no _ _ _ (by decide +kernel) (by decide +kernel) (by decide +kernel), d, os, qs, rfl, Oa, fun q hq9 => by rw [hol]; exact (hq q hq9).2, by omega, fun H5 f5 D5 => ?_⟩
        exact ⟨_, _, _, _, rfl, but_fr bxa hdH f5, Da.fr f5 (by simp [hda1.symm]) (fun c hc => by rw [List.mem_singleton.mp hc]; exact .inl ⟨_, _, _, x1⟩), D5, by rw [settleO_len]; exact hol, Nat.zero_le _, settleO_few ho fun q hq9 => (hq q hq9).1, fun _ z => by cases z⟩
      · have val : ∀ (t : Addr) (ns : List Int) (Hz : Hp), SqT K Hz t (ns.map V.int) → ns.length ≤ 100 → (∀ n ∈ ns, Few n) → ∃ o, Dp K (Tp Hz) (.ref t) (dV o) ∧ OFew o := fun t ns Hz ht hl hf => ⟨some ns, .tup (sqt_tp ht) (dps_ints _), hl, hf⟩
        refine ⟨_, rfl, (by show 0 ≤ sizeLine; decide), fun t0 h0 => ?_⟩
        have u0 := same_upd (o := .tup []) h0
        have e0 : SqT K (upd Ha t0 (.tup [])) t0 (([] : List Int).map V.int) := SqT.of upd_same
        generalize upd Ha t0 (.tup []) = G0 at u0 e0 ⊢
        refine ⟨(by show 1 ≤ sizeLine; decide), fun t1 h1 => ?_⟩
        have u1 := same_upd (o := .tup [V.int 0]) h1
        have e1 : SqT K (upd G0 t1 (.tup [V.int 0])) t1 (([0] : List Int).map V.int) := SqT.of upd_same
        generalize upd G0 t1 (.tup [V.int 0]) = G1 at u1 e1 ⊢
        refine ⟨_, rfl, _, _, rfl, rfl, ⟨by decide, by decide, by decide⟩, (by show 3 ≤ sizeLine; decide), fun t2 h2 => ?_⟩
        have u2 := same_upd (o := .tup [V.int 1, V.int (-2), V.int (10 ^ (25 : Int).toNat)]) h2
        have e2 : SqT K (upd G1 t2 (.tup [V.int 1, V.int (-2), V.int (10 ^ (25 : Int).toNat)])) t2 (([1, -2, 10 ^ 25] : List Int).map V.int) := SqT.of upd_same
        generalize upd G1 t2 (.tup [V.int 1, V.int (-2), V.int (10 ^ (25 : Int).toNat)]) = G2 at u2 e2 ⊢
        refine ⟨(by show 1 ≤ sizeLine; decide), fun t3 h3 => ?_⟩
        have u3 := same_upd (o := .tup [V.int 5]) h3
        have e3 : (upd G2 t3 (.tup [V.int 5])) t3 = some (.tup [V.int 5]) := upd_same
        generalize upd G2 t3 (.tup [V.int 5]) = G3 at u3 e3 ⊢
        refine ⟨t3, 12, [.int 5], rfl, rfl, SqT.of e3, by simp, by decide, by decide, (by show 1 ≤ 1000; decide), fun t4 h4 => ?_⟩
        have u4 := same_upd (o := .tup (List.replicate (12 : Int).toNat [V.int 5]).flatten) h4
        have e4 : SqT K (upd G3 t4 (.tup (List.replicate (12 : Int).toNat [V.int 5]).flatten)) t4 ((List.replicate 12 (5 : Int)).map V.int) := SqT.of upd_same
        generalize upd G3 t4 (.tup (List.replicate (12 : Int).toNat [V.int 5]).flatten) = G4 at u4 e4 ⊢
        refine ⟨_, rfl, (by show 1 ≤ sizeLine; decide), fun t5 h5 => ?_⟩
        have u5 := same_upd (o := .tup [V.int (-1)]) h5
        have e5 : SqT K (upd G4 t5 (.tup [V.int (-1)])) t5 (([-1] : List Int).map V.int) := SqT.of upd_same
        generalize upd G4 t5 (.tup [V.int (-1)]) = G5 at u5 e5 ⊢
        refine ⟨(by show 6 ≤ sizeLine; decide), fun ql hql2 => ?_⟩
        have u6 := same_upd (o := .lst [V.non, .ref t0, .ref t1, .ref t2, .ref t4, .ref t5]) hql2
        have u05 := ((((u0.trans u1).trans u2).trans u3).trans u4).trans u5
        have u06 := u05.trans u6
        have D5' := Da.same u05
        refine ⟨a, ql, sc, ss, [V.non, .ref t0, .ref t1, .ref t2, .ref t4, .ref t5], rfl, Da.same u06, upd_same, D5'.ne hql2, by simp, fun v Hb hv bb Db => ?_⟩
        have fb := (Da.same u06).frb bb
        have hvd : ∃ o, Dp K (Tp Hb) v (dV o) ∧ OFew o := by
          have tr : ∀ {t : Addr} {ns : List Int} {Hz : Hp}, SqT K Hz t (ns.map V.int) → Same Hz (upd G5 ql (.lst [V.non, .ref t0, .ref t1, .ref t2, .ref t4, .ref t5])) → SqT K Hb t (ns.map V.int) := fun {t ns Hz} h s => same_seqT (fb.tp.trans tp_le) (sqt_tp (same_seqT s h))
          simp only [List.mem_cons, List.not_mem_nil, or_false] at hv
          rcases hv with rfl | rfl | rfl | rfl | rfl | rfl
          · exact ⟨none, .non, trivial⟩
          · exact val t0 [] Hb (tr e0 (((((u1.trans u2).trans u3).trans u4).trans u5).trans u6)) (by decide) (fun _ z => by cases z)
          · exact val t1 [0] Hb (tr e1 ((((u2.trans u3).trans u4).trans u5).trans u6)) (by decide) (fun n hn => by rw [List.mem_singleton.mp hn]; show (0 : Nat) < 10 ^ 30; decide)
          · refine val t2 [1, -2, 10 ^ 25] Hb (tr e2 (((u3.trans u4).trans u5).trans u6)) (by decide) (fun n hn => ?_)
            simp only [List.mem_cons, List.not_mem_nil, or_false] at hn
            rcases hn with rfl | rfl | rfl
            · show (1 : Nat) < 10 ^ 30; decide
            · show (2 : Nat) < 10 ^ 30; decide
            · show (10 ^ 25 : Int).natAbs < 10 ^ 30; decide
          · refine val t4 (List.replicate 12 5) Hb (tr e4 (u5.trans u6)) (by decide) (fun n hn => ?_)
            rw [List.eq_of_mem_replicate hn]
            show (5 : Nat) < 10 ^ 30
            decide
          · exact val t5 [-1] Hb (tr e5 u6) (by decide) (fun n hn => by rw [List.mem_singleton.mp hn]; show (1 : Nat) < 10 ^ 30; decide)
        obtain ⟨o, hdo, hfo⟩ := hvd
        have fab : Fr [a] Ha Hb := (Fr.of u06).trans fb
        have Ob := Oa.fr fab (by simp [hda1])
        have bxb : But [a] H Hb := but_trans bxa (but_trans (.of u06) bb)
        obtain ⟨sv', lv', ⟨dxx', sa', la', ts', y1, y2', y3', y4', y5', y6'⟩, E2, E3⟩ := id Ob
        have hsl := dps_len E2
        rw [List.length_map] at hsl
        refine ⟨_, rfl, d, dxx', _, rfl, y1, fl_no _ _ _ (by decide +kernel) (by decide +kernel) (by decide +kernel), _, rfl, _, rfl, d, CD, dxx', _, _, rfl, y1, T.cl, T.nS, fl_settled _ _ _, sa', sv', rfl, .inr (SqT.of y2'), a, sc, ss, _, rfl, Db, by omega, fun r2 Hc r20 r21 bc Dc => ?_⟩
        have Oc := Ob.fr (Db.frb bc) (by simp [hda1])
        refine ⟨_, rfl, d, os, qs, r2, v, o, rfl, Oc, r20, by omega, by omega, dp_same (Db.frb bc).tp _ _ hdo, fun H5 f5 D5 => ?_⟩
        obtain ⟨dxc, fsc, edc⟩ := ov_obj Oc
        exact ⟨_, _, _, _, rfl, but_fr (but_trans bxb bc) hdH f5, Dc.fr f5 (by simp [hda1.symm]) (fun c hc => by rw [List.mem_singleton.mp hc]; exact .inl ⟨_, _, _, edc⟩), D5, hol, by rw [List.length_append]; show qs.length + 1 ≤ _; omega, ho, fun q hq9 => by
          rcases List.mem_append.mp hq9 with z | z
          · exact hq q z
          · rw [List.mem_singleton.mp z]
            exact ⟨hfo, r20, by show r2 < _; omega⟩⟩
    · rintro σ' Hx ⟨y2, y3, os, qs, rfl, bx, Dx, Ox, hol, hql, ho, hq⟩
      exact ⟨_, rfl, k d os qs Hx bx Dx hdH Ox (by omega) (by omega) (by omega) ho fun q hq9 => by rw [hol]; exact hq q hq9⟩
end
end Pf

set_option Elab.async false
set_option linter.all false
set_option maxRecDepth 100000
set_option maxHeartbeats 8000000
namespace Pf
open PySem PySem.Spec PyProof.Rows L2 TL
abbrev NL : List Str := ["script", "draw", "disk", "due", "plate", "value", "lines", "late", "store", "turn", "again", "pair"]
theorem scLaw : FnScope NL ["script"] (defScope sLaw) := ⟨rfl, rfl, rfl, by decide +kernel, rfl, by decide +kernel, by decide +kernel⟩
abbrev stL (j : Nat) : Stmt := (defBody sLaw).getD j (.Pass ⟨0, 0, 0, 0⟩)
abbrev XL (P : Program) (w : World) (K : PySem.W.Frag) (mg : Str → Option Value) (base : Heap) (f : Addr) (cdv : Value) (A : Around) (outer : List Env) (s : Shared) (H0 : Hp) (E : XK) : Cx :=
  (cxOf CX0 P w K mg base NL "law" (defScope sLaw) f cdv A outer s H0 E).nox
abbrev rAddT : R2 := fun x y H Q => ∃ i j, x = .str i ∧ y = .str j ∧ i.length + j.length ≤ sizeLine ∧ Q (.str (i ++ j)) H
section
variable {P : Program} {w : World} {K : PySem.W.Frag} {mg : Str → Option Value} {base : Heap} {CS CD CN : Addr} {f : Addr} {cdv : Value} {A : Around} {outer : List Env} {s : Shared} {H0 : Hp} {E : XK} {rest : List Stmt} {u : TS}
theorem law_04 {fD fX : Addr} {dD dX : FuncData} (T : DTxt K CD) (DD : Df P w K mg base CX0 4 "_law_disk" ["draw"] (spLDisk K CD) fD dD) (DX : Df P w K mg base CX0 1 "_law_text" ["value"] (spVt K) fX dX) (ml : mg "len" = none) (ms : mg "str" = none) (me : mg "enumerate" = none) (hr : Room 8 (A.deeper (envOfC "law" (defScope sLaw) s.heap.objs.size f cdv))) (hu : PSs (XL P w K mg base f cdv A outer s H0 E) rest u) :
    ∃ t, PSs (XL P w K mg base f cdv A outer s H0 E) (stL 0 :: stL 1 :: stL 2 :: stL 3 :: stL 4 :: rest) t ∧ ∀ D H (sc : Addr) (ss : List Int), SqL K H sc (ss.map V.int) → ss.length ≤ 63 →
      (∀ (a d du : Addr) (os : List Ov) (qs : List (Int × Ov)) (y4 y5 : Option V) H', DrawAt K H' a sc ss → OvAt K CD H' d os qs → H' du = some (.lst (strV (allL os qs))) → 1 ≤ os.length → os.length ≤ 6 → qs.length ≤ 8 → (∀ o ∈ os, OFew o) → (∀ q ∈ qs, OFew q.2 ∧ 0 ≤ q.1 ∧ q.1 < ((os.length : Nat) : Int)) →
        u D [some (V.ref sc), some (V.ref a), some (.ref d), some (.ref du), y4, y5, none, none, none, none, none, none] H') →
      t D (start NL [V.ref sc]) H := by
  have nd := scLaw.nd
  have h4 : Room 4 _ := hr.mono (by decide)
  have h1 : Room 1 _ := hr.mono (by decide)
  refine ⟨_, pss_cons (ps_set (i := 1) nd rfl (.inl rfl) (pe_lst (pa_cons (pv 0) (pa_cons pe_int pa_nil))))
    (pss_cons (ps_set (i := 2) nd rfl (.inl rfl) (pe_call DD.G h4 rfl DD.g DD.kp DD.b .nil pass0 (pa_cons (pv 1) pa_nil)))
    (pss_cons (ps_set (i := 3) nd rfl (.inl rfl) (pe_lst (pa_cons (pe_op op_add_str pe_str (pe_callTy call_str_int (by rfl) ms (by decide +kernel) (pa_cons (pe_callB call_len_seq (by rfl) ml boot_len (pa_cons (pe_fld (pv 2) rfl) pa_nil)) pa_nil))) pa_nil)))
    (pss_cons (ps_for PassesOwn.never rfl (pi_enumT (by rfl) me (pa_cons (pe_fld (pv 2) rfl) pa_nil)) (pg_tup rfl (pgs_cons (pg_name (i := 4) nd rfl (.inl rfl)) (pgs_cons (pg_name (i := 5) nd rfl (.inl rfl)) pgs_nil)))
      (pss_one (ps_set (i := 3) nd rfl (.inl rfl) (pe_op op_cat (pv 3) (pe_ifExp (pt_cmpR (op_neD hr.units) (pv 5) (pe_tup pa_nil) (nomark _))
        (pe_lst (pa_cons (pe_op op_add_str (pe_op op_add_str (pe_op op_add_str pe_str (pe_callTy call_str_int (by rfl) ms (by decide +kernel) (pa_cons (pv 4) pa_nil))) pe_str) (pe_call DX.G h1 rfl DX.g DX.kp DX.b .nil pass0 (pa_cons (pv 5) pa_nil))) pa_nil)) (pe_lst pa_nil))))))
    (pss_cons (ps_set (i := 3) nd rfl (.inl rfl) (pe_op op_cat (pv 3)
      (pe_lc (own := [("pair", 11)]) (g := gName 11) (tt := tYes) (te := tOp rAddT (tOp rAddT (tOp rAddT (tC (.str ("loose " : Str))) (tCB (fun xs H Q => ∃ i : Int, xs = [.int i] ∧ i.natAbs.log2 < 1920 ∧ Q (.str (toString i)) H) (tCons (tOp (rIxT K) (tVar 11) (tC (.int 0))) tNil))) (tC (.str (" " : Str)))) (tCall (spVt K) [] E0 (tCons (tOp (rIxT K) (tVar 11) (tC (.int 1))) tNil)))
        rfl nd (pi_tup (pe_fld (pv 2) rfl)) (blkOk_by (N := NL) (sc := defScope sLaw) (by decide +kernel))
        (fun _ _ _ _ _ => pg_name (i := 11) nd rfl (.inl rfl)) (fun _ _ _ _ _ => pts_nil)
        (fun _ _ _ _ _ => pe_op op_add_str (pe_op op_add_str (pe_op op_add_str pe_str (pe_callTy call_str_int (by rfl) ms (by decide +kernel) (pa_cons (pe_ix ix_tup (pv 11) pe_int (fun _ _ => rfl)) pa_nil))) pe_str) (pe_call DX.G h1 rfl DX.g DX.kp DX.b .nil pass0 (pa_cons (pe_ix ix_tup (pv 11) pe_int (fun _ _ => rfl)) pa_nil))))))
    hu)))), fun D H sc ss hS hlen nx => ?_⟩
  refine ⟨_, rfl, (by show 2 ≤ sizeLine; decide), fun a ha => ?_⟩
  have s1 := same_upd (o := .lst [.ref sc, .int 0]) ha
  have D1 : DrawAt K (upd H a (.lst [.ref sc, .int 0])) a sc ss := by
    refine ⟨⟨0, upd_same⟩, Same.seq (fun b o e => ?_) hS, hlen⟩
    rw [off_out (by simp [ne_of_none e ha])]
    exact s1 _ _ e
  generalize upd H a (.lst [.ref sc, .int 0]) = G at D1 ⊢
  refine ⟨_, rfl, a, sc, ss, rfl, D1, fun d os qs H1 b1 D2 hd Dk n1 n6 hql ho hq => ?_⟩
  obtain ⟨sv, lv, ⟨dx, sa, la, ts, x1, x2, x3, x4, x5, x6⟩, D2', D3⟩ := id Dk
  have hsl := dps_len D2'
  rw [List.length_map] at hsl
  have hn : Few ((os.length : Nat) : Int) := few_nat (by omega)
  have hl6 : ∀ {i : Int}, Few i → (Str.ofString (toString i)).length ≤ 31 := fun {i} h => by rw [len_tl, tl_int]; exact few_len h
  have hl5 : (("disk " : Str)).length = 5 := by rw [len_tl, tl_diskW]; rfl
  have e0 : ("disk " : Str) ++ Str.ofString (toString ((sv.length : Nat) : Int)) = mkS (lnD ((os.length : Nat) : Int)) := line_eq (by
      rw [tl_append, tl_diskW, tl_int, hsl]
      rfl)
  refine ⟨_, rfl, d, CD, dx, _, _, rfl, x1, T.cl, T.nS, fl_settled _ _ _, sa, sv, rfl, .inr (SqT.of x2), _, rfl, by rw [hsl]; exact few_log hn, _, _, rfl, rfl, ?_, ?_⟩
  · have := hl6 hn
    rw [hsl, sizeLine_eq]
    show (("disk " : Str)).length + _ ≤ _
    omega
  refine ⟨(by show 1 ≤ sizeLine; decide), fun D0 hD0 => ?_⟩
  have e0' : Str.ofString "disk " ++ Str.ofString (toString ((sv.length : Nat) : Int)) = mkS (lnD ((os.length : Nat) : Int)) := e0
  rw [e0']
  have ex0 : (upd H1 D0 (.lst [V.str (mkS (lnD ((os.length : Nat) : Int)))])) D0 = some (.lst (strV ([lnD ((os.length : Nat) : Int)] ++ plK os 0))) := upd_same
  have s0 := same_upd (o := .lst [V.str (mkS (lnD ((os.length : Nat) : Int)))]) hD0
  generalize upd H1 D0 (.lst [V.str (mkS (lnD ((os.length : Nat) : Int)))]) = H2 at ex0 s0 ⊢
  have line : ∀ (W : Str) (Wl : List Nat) (i : Int) (o : Ov), tl W = Wl → Wl.length = 6 → Few i → OFew o → ((W ++ Str.ofString (toString i)) ++ Str.ofString " ") ++ mkS (txO o) = mkS (Wl ++ iL i ++ [32] ++ txO o) ∧
      W.length + (Str.ofString (toString i)).length ≤ sizeLine ∧ (W ++ Str.ofString (toString i)).length + (Str.ofString " ").length ≤ sizeLine ∧ ((W ++ Str.ofString (toString i)) ++ Str.ofString " ").length + (mkS (txO o)).length ≤ sizeLine := fun W Wl i o h1 h2 h3 h4 => by
    have a1 : W.length = 6 := by rw [len_tl (x := W), h1, h2]
    have a2 := hl6 h3
    have a3 : (Str.ofString " ").length = 1 := by
      show ((" " : Str)).length = 1
      rw [len_tl, tl_blank]; rfl
    have a4 := tx_len h4
    rw [sizeLine_eq]
    refine ⟨line_eq (by rw [tl_append, tl_append, tl_append, h1, tl_int, tl_mkS]; show Wl ++ iL i ++ tl ((" " : Str)) ++ txO o = _; rw [tl_blank]), by omega, by rw [len_app]; omega, by rw [len_app, len_app, len_mkS]; omega⟩
  have hsv : ∀ (i : Nat) (x : V), sv[i]? = some x → ∃ o, os[i]? = some o ∧ Dp K (Tp H1) x (dV o) := fun i x hx => by
    obtain ⟨e, he, hd⟩ := dps_get D2' hx
    rw [List.getElem?_map] at he
    cases ho' : os[i]? with
    | none => rw [ho'] at he; cases he
    | some o =>
      rw [ho'] at he
      cases (Option.some.inj he)
      exact ⟨o, rfl, hd⟩
  refine ⟨_, rfl, d, CD, dx, _, _, rfl, s0 _ _ x1, T.cl, T.nS, fl_settled _ _ _, sa, sv, rfl, SqT.of (s0 _ _ x2), for_it (walk_enumT (K := K) (a := sa) (xs := sv)) (fun i σ' Hx => ∃ (du : Addr) (y4 y5 : Option V), σ' = [some (V.ref sc), some (V.ref a), some (.ref d), some (.ref du), y4, y5, none, none, none, none, none, none] ∧ Same H1 Hx ∧ Hx du = some (.lst (strV ([lnD ((os.length : Nat) : Int)] ++ plK os i))))
      ⟨_, _, _, rfl, s0, ex0⟩ (fun i σ' Hx _ z => by obtain ⟨_, _, _, _, z, _⟩ := z; exact SqT.of (z _ _ x2)) ?_ ?_⟩
  · rintro i v σ' Hx Hy hi ⟨du, y4, y5, rfl, sx, ex⟩ hy
    obtain ⟨T', v0, v1, rfl, nT, rfl, q0, q1⟩ := hy
    cases (Option.some.inj q0)
    have sT := same_upd (o := .tup [.int (i : Nat), v1]) nT
    have sy := sx.trans sT
    obtain ⟨o, hoi, hdo⟩ := hsv i v1 q1
    have hfo := ho o (List.mem_of_getElem? hoi)
    have hod : os.getD i none = o := by rw [List.getD_eq_getElem?_getD, hoi]; rfl
    have hil := (List.getElem?_eq_some_iff.mp hoi).1
    have hpk := plK_len os i
    refine ⟨T', _, rfl, SqT.of upd_same, rfl, _, _, rfl, _, _, rfl, rfl, _, rfl, _, rfl, (by show 0 ≤ sizeLine; decide), fun em hem => ?_⟩
    have se := sy.trans (same_upd (o := .tup []) hem)
    have eD := same_upd (o := .tup []) hem _ _ (sT _ _ ex)
    refine ⟨dV o, .tuple [], dp_same (tp_le.trans se) _ _ hdo, .tup (SqT.of upd_same) .nil, shaped_dV o, by decide +kernel, ?_⟩
    rw [eqv_dV]
    obtain ⟨le, b1, b2, b3⟩ := line ("plate " : Str) plateW ((i : Nat) : Int) o tl_plateW rfl (few_nat (by omega)) hfo
    refine ⟨_, rfl, ite2 (fun hc => ?_) (fun hc => ?_)⟩
    · have hno : o ≠ some [] := fun z => by rw [decide_eq_true z] at hc; cases hc
      refine ⟨_, rfl, ((i : Nat) : Int), rfl, few_log (few_nat (by omega)), _, _, rfl, rfl, b1, _, _, rfl, rfl, b2, _, rfl, v1, o, rfl, dp_same (tp_same se) _ _ hdo, hfo, fun H5 s5 => ⟨_, _, rfl, rfl, b3, (by show 1 ≤ sizeLine; decide), fun lb hlb => ?_⟩⟩
      have sb := same_upd (o := .lst [V.str (((Str.ofString "plate " ++ Str.ofString (toString ((i : Nat) : Int))) ++ Str.ofString " ") ++ mkS (txO o))]) hlb
      refine ⟨du, lb, _, _, rfl, rfl, sb _ _ (s5 _ _ eD), upd_same, ?_, fun dn hdn => ?_⟩
      · rw [sizeLine_eq, strV_len, List.length_append]
        show 1 + (plK os i).length + 1 ≤ _
        omega
      · refine ⟨dn, _, _, rfl, ((se.trans s5).trans sb).trans (same_upd hdn), ?_⟩
        rw [upd_same, plK_more, hod, if_pos hno, ← List.append_assoc, strV_app _ [lnP _ _]]
        have le' : ((Str.ofString "plate " ++ Str.ofString (toString ((i : Nat) : Int))) ++ Str.ofString " ") ++ mkS (txO o) = mkS (plateW ++ iL ((i : Nat) : Int) ++ [32] ++ txO o) := le
        rw [le']
        rfl
    · have hno : o = some [] := by
        refine Decidable.byContradiction fun z => hc ?_
        rw [decide_eq_false z]
        rfl
      refine ⟨(by show 0 ≤ sizeLine; decide), fun lb hlb => ?_⟩
      have sb := same_upd (o := .lst []) hlb
      refine ⟨du, lb, _, _, rfl, rfl, sb _ _ eD, upd_same, ?_, fun dn hdn => ?_⟩
      · rw [sizeLine_eq, strV_len, List.length_append]
        show 1 + (plK os i).length + 0 ≤ _
        omega
      · refine ⟨dn, _, _, rfl, (se.trans sb).trans (same_upd hdn), ?_⟩
        rw [upd_same, plK_more, hod, if_neg (fun z => z hno), List.append_nil, List.append_nil]
  · rintro σ' Hx ⟨du, y4, y5, rfl, sx, ex⟩
    rw [hsl] at ex
    have llv : lv.length = qs.length := by
      have h1 := congrArg List.length D3.1
      rw [List.length_map, List.length_map, List.length_map] at h1
      exact h1
    have hpk := plK_len os os.length
    refine ⟨_, rfl, _, rfl, d, CD, dx, _, _, rfl, sx _ _ x1, T.cl, T.nL, fl_loose _ _ _, la, rfl, ⟨_, SqT.of (sx _ _ x5)⟩, fun D5 hD5 => lc_tup (K := K) (a := la) (xs := ts) (fun i Hy => Same Hx Hy ∧ Hy D5 = some (.lst (strV ((qs.take i).map fun q => lnL q.1 q.2)))) ⟨same_upd hD5, upd_same⟩ (fun i Hy _ z => SqT.of (z.1 _ _ (sx _ _ x5))) ?_ ?_⟩
    · rintro i x Hy hi ⟨sy, ey⟩
      have s1y := sx.trans sy
      have hil : i < lv.length := by
        have := (List.getElem?_eq_some_iff.mp hi).1
        rw [x6.1] at this
        exact this
      obtain ⟨b, hb1, hb2⟩ := x6.2 i _ (List.getElem?_eq_getElem hil)
      rw [hi] at hb1
      cases (Option.some.inj hb1)
      obtain ⟨q, hqi⟩ : ∃ q, qs[i]? = some q := ⟨_, List.getElem?_eq_getElem (by omega)⟩
      have hk : lv[i].1 = q.1 := by
        have h1 : (lv.map (·.1))[i]? = some lv[i].1 := by rw [List.getElem?_map, List.getElem?_eq_getElem hil]; rfl
        rw [D3.1, List.map_map, List.getElem?_map, hqi] at h1
        exact (Option.some.inj h1).symm
      have hdq : Dp K (Tp H1) lv[i].2 (dV q.2) := by
        have h1 : (lv.map (·.2))[i]? = some lv[i].2 := by rw [List.getElem?_map, List.getElem?_eq_getElem hil]; rfl
        obtain ⟨e, he, hd⟩ := dps_get D3.2 h1
        rw [List.map_map, List.getElem?_map, hqi] at he
        cases (Option.some.inj he)
        exact hd
      have hfq := hq q (List.mem_of_getElem? hqi)
      have hfew : Few q.1 := by
        have e : q.1 = ((q.1.toNat : Nat) : Int) := (Int.toNat_of_nonneg hfq.2.1).symm
        rw [e]
        exact few_nat (by omega)
      obtain ⟨le, b1, b2, b3⟩ := line ("loose " : Str) looseW q.1 q.2 tl_looseW rfl hfew hfq.1
      rw [hk] at hb2
      have hbt := SqT.of (K := K) (s1y _ _ hb2)
      refine ⟨rfl, tyes_go ⟨_, rfl, b, _, 0, _, rfl, rfl, hbt, atI_nat (j := 0) rfl, q.1, rfl, few_log hfew, _, _, rfl, rfl, b1, _, _, rfl, rfl, b2, _, rfl, b, _, 1, _, rfl, rfl, hbt, atI_nat (j := 1) rfl, _, q.2, rfl, dp_same (tp_same s1y) _ _ hdq, hfq.1, fun H5 s5 => ⟨_, _, rfl, rfl, b3, ?_⟩⟩⟩
      refine ⟨_, s5 _ _ ey, ?_, fun b o z => ?_, ?_⟩
      · rw [sizeLine_eq, strV_len, List.length_map, List.length_take]
        omega
      · rw [upd_ne (ne_of_none z hD5)]
        exact s5 _ _ (sy _ _ z)
      · have le' : ((Str.ofString "loose " ++ Str.ofString (toString q.1)) ++ Str.ofString " ") ++ mkS (txO q.2) = mkS (looseW ++ iL q.1 ++ [32] ++ txO q.2) := le
        rw [upd_same, le', List.take_add_one, hqi, List.map_append, strV_app]
        rfl
    · rintro Hy ⟨sy, ey⟩
      rw [x6.1, llv, List.take_length] at ey
      refine ⟨du, D5, _, _, rfl, rfl, sy _ _ ex, ey, ?_, fun dn hdn => ?_⟩
      · rw [sizeLine_eq, strV_len, strV_len, List.length_append, List.length_map]
        show 1 + (plK os os.length).length + qs.length ≤ _
        omega
      have s9 := (sx.trans sy).trans (same_upd (o := .lst (strV ([lnD ((os.length : Nat) : Int)] ++ plK os os.length) ++ strV (qs.map fun q => lnL q.1 q.2))) hdn)
      refine nx a d dn os qs y4 y5 _ (D2.same s9) (Dk.same s9) ?_ n1 n6 hql ho hq
      rw [upd_same, ← strV_app]
      rfl
end
end Pf

set_option Elab.async false
set_option linter.all false
set_option maxRecDepth 100000
set_option maxHeartbeats 8000000
namespace Pf
open PySem PySem.Spec PyProof.Rows L2 TL
def strD (ls : List (List Nat)) : List PyData := ls.map fun l => PyData.str (mkS l)
theorem strD_dp {K : PySem.W.Frag} {G : Hp} : ∀ ls : List (List Nat), DpAll K G (strV ls) (strD ls)
  | [] => .nil
  | l :: ls => .cons (.str _) (strD_dp ls)
theorem strD_shape : ∀ {ls : List (List Nat)}, (∀ l ∈ ls, ∀ c ∈ l, c < 128) → PyData.canLayAll0 (strD ls) = true ∧ PyData.depthAll (strD ls) ≤ 3
  | [], _ => by simp [strD, PyData.canLayAll0, PyData.depthAll]
  | l :: ls, h => by
    obtain ⟨h1, h2⟩ := strD_shape (ls := ls) fun x hx => h x (List.mem_cons_of_mem _ hx)
    have hs : PyData.strOk (mkS l) = true := strOk_mk (h l List.mem_cons_self)
    constructor
    · show PyData.canLayAll0 (PyData.str (mkS l) :: strD ls) = true
      simp [PyData.canLayAll0, PyData.canLay0, hs, h1]
    · show PyData.depthAll (PyData.str (mkS l) :: strD ls) ≤ 3
      simp [PyData.depthAll, PyData.depth]
      omega
theorem allL_lt (os : List Ov) (qs : List (Int × Ov)) : ∀ l ∈ allL os qs, ∀ c ∈ l, c < 128 := by
  have w : ∀ (W : List Nat) (i : Int) (o : Ov), (∀ c ∈ W, c < 128) → ∀ c ∈ W ++ iL i ++ [32] ++ txO o, c < 128 := fun W i o h c hc => by
    rcases List.mem_append.mp hc with z | z
    · rcases List.mem_append.mp z with z | z
      · rcases List.mem_append.mp z with z | z
        · exact h c z
        · exact iL_lt i c z
      · rw [List.mem_singleton.mp z]; decide
    · exact tx_lt o c z
  intro l hl
  rw [show allL os qs = [lnD ((os.length : Nat) : Int)] ++ plK os os.length ++ qs.map (fun q => lnL q.1 q.2) from rfl] at hl
  rcases List.mem_append.mp hl with z | z
  · rcases List.mem_append.mp z with z | z
    · rw [List.mem_singleton.mp z]
      intro c hc
      rcases List.mem_append.mp hc with y | y
      · have hw : ∀ c ∈ diskW, c < 128 := by decide
        exact hw c y
      · exact iL_lt _ c y
    · rw [plQ_K] at z
      obtain ⟨q, _, rfl⟩ := List.mem_map.mp z
      exact w plateW q.1 q.2 (by decide)
  · obtain ⟨q, _, rfl⟩ := List.mem_map.mp z
    exact w looseW q.1 q.2 (by decide)
theorem ls_dp {K : PySem.W.Frag} {H : Hp} : ∀ {ts : List V} {lv : List (Int × V)} {qs : List (Int × Ov)}, LsAt H ts lv → lv.map (·.1) = qs.map (·.1) → DpAll K (Tp H) (lv.map (·.2)) (qs.map fun q => dV q.2) → DpAll K (Tp H) ts (qs.map fun q => .tuple [.int q.1, dV q.2])
  | [], [], [], _, _, _ => .nil
  | [], _ :: _, _, h, _, _ => by have := h.1; simp at this
  | _ :: _, [], _, h, _, _ => by have := h.1; simp at this
  | [], [], _ :: _, _, h, _ => by simp at h
  | t :: ts, v :: lv, [], _, h, _ => by simp at h
  | t :: ts, v :: lv, q :: qs, h, hk, hd => by
    obtain ⟨b, e1, e2⟩ := h.2 0 v rfl
    have e1' : t = .ref b := Option.some.inj e1
    have hk1 : v.1 = q.1 := by injection hk
    have hk2 : lv.map (·.1) = qs.map (·.1) := by injection hk
    cases hd with
    | cons h1 h2 =>
    rw [e1']
    rw [hk1] at e2
    refine .cons (.tup (SqT.of (tp_at e2 rfl)) (.cons (.int _) (.cons h1 .nil))) (ls_dp ⟨by have := h.1; simpa using this, fun i q' hq => ?_⟩ hk2 h2)
    obtain ⟨b', z1, z2⟩ := h.2 (i + 1) q' hq
    exact ⟨b', z1, z2⟩
/-- what a disk's fields hold -/
theorem OvAt.parts {K : PySem.W.Frag} {CD : Addr} {H : Hp} {d : Addr} {os : List Ov} {qs : List (Int × Ov)} (D : OvAt K CD H d os qs) : ∃ dx n sa la, H d = some (.ins CD dx (fl n sa la)) ∧ Dp K (Tp H) (.ref sa) (.tuple (os.map dV)) ∧ Dp K (Tp H) (.ref la) (.tuple (qs.map fun q => .tuple [.int q.1, dV q.2])) := by
  obtain ⟨sv, lv, ⟨dx, sa, la, ts, x1, x2, x3, x4, x5, x6⟩, D2, D3⟩ := D
  refine ⟨dx, _, sa, la, x1, .tup (SqT.of (tp_at x2 rfl)) D2, .tup (SqT.of (tp_at x5 rfl)) (ls_dp x6 ?_ ?_)⟩
  · have h := D3.1
    rw [List.map_map] at h
    exact h
  · have h := D3.2
    rw [List.map_map] at h
    exact h
theorem dV_lay (o : Ov) : PyData.canLay0 (dV o) = true ∧ PyData.depth (dV o) ≤ 1 := by
  cases o with
  | none => simp [dV, PyData.canLay0, PyData.depth]
  | some ns => simp [dV, rowD, PyData.canLay0, PyData.depth, lay_ints, dep_ints]
theorem os_shape : ∀ os : List Ov, PyData.canLayAll0 (os.map dV) = true ∧ PyData.depthAll (os.map dV) ≤ 3
  | [] => by simp [PyData.canLayAll0, PyData.depthAll]
  | o :: os => by
    obtain ⟨h1, h2⟩ := os_shape os
    obtain ⟨h3, h4⟩ := dV_lay o
    constructor
    · simp [PyData.canLayAll0, h1, h3]
    · simp [PyData.depthAll]
      omega
theorem qs_shape : ∀ qs : List (Int × Ov), PyData.canLayAll0 (qs.map fun q => PyData.tuple [.int q.1, dV q.2]) = true ∧ PyData.depthAll (qs.map fun q => PyData.tuple [.int q.1, dV q.2]) ≤ 3
  | [] => by simp [PyData.canLayAll0, PyData.depthAll]
  | q :: qs => by
    obtain ⟨h1, h2⟩ := qs_shape qs
    obtain ⟨h3, h4⟩ := dV_lay q.2
    constructor
    · simp [PyData.canLayAll0, PyData.canLay0, h3]
      simpa using h1
    · simp [PyData.depthAll, PyData.depth]
      have h2' : PyData.depthAll (List.map (fun q => PyData.tuple [PyData.int q.fst, dV q.snd]) qs) ≤ 3 := h2
      omega
section
variable {P : Program} {w : World} {K : PySem.W.Frag} {mg : Str → Option Value} {base : Heap} {CS CD CN : Addr} {f : Addr} {cdv : Value} {A : Around} {outer : List Env} {s : Shared} {H0 : Hp} {E : XK} {rest : List Stmt} {u : TS}
theorem law_57 {fW fR : Addr} {dW dR : FuncData} (T : DTxt K CD) (DW : Df P w K mg base CX0 2 "write_disk" ["disk"] (spWd K CD) fW dW) (DR : Df P w K mg base CX0 6 "read_disk" ["lines"] (spRdk K CD) fR dR) (mL : mg "list" = none) (hr : Room 8 (A.deeper (envOfC "law" (defScope sLaw) s.heap.objs.size f cdv))) (hu : PSs (XL P w K mg base f cdv A outer s H0 E) rest u) :
    ∃ t, PSs (XL P w K mg base f cdv A outer s H0 E) (stL 5 :: stL 6 :: stL 7 :: rest) t ∧ ∀ D H (sc a d du : Addr) (ss : List Int) (os : List Ov) (qs : List (Int × Ov)) (y4 y5 : Option V), DrawAt K H a sc ss → OvAt K CD H d os qs → H du = some (.lst (strV (allL os qs))) → 1 ≤ os.length → os.length ≤ 6 → qs.length ≤ 8 → (∀ o ∈ os, OFew o) → (∀ q ∈ qs, OFew q.2 ∧ 0 ≤ q.1 ∧ q.1 < ((os.length : Nat) : Int)) →
      (∀ (y2 y3 y4 y5 y6 y7 : Option V) H', DrawAt K H' a sc ss → u D [some (V.ref sc), some (V.ref a), y2, y3, y4, y5, y6, y7, none, none, none, none] H') →
      t D [some (V.ref sc), some (V.ref a), some (.ref d), some (.ref du), y4, y5, none, none, none, none, none, none] H := by
  have nd := scLaw.nd
  have h2 : Room 2 _ := hr.mono (by decide)
  have h6 : Room 6 _ := hr.mono (by decide)
  refine ⟨_, pss_cons (ps_set (i := 6) nd rfl (.inl rfl) (pe_call DW.G h2 rfl DW.g DW.kp DW.b .nil pass0 (pa_cons (pv 2) pa_nil)))
    (pss_cons (ps_set (i := 7) nd rfl (.inl rfl) (pe_call DR.G h6 rfl DR.g DR.kp DR.b .nil pass0 (pa_cons (pe_callTy call_list_of (by rfl) mL boot_list (pa_cons (pv 6) pa_nil)) pa_nil)))
    (pss_cons (ps_if (PW.pt (pw_or (pt_cmpR (op_neD hr.units) (pe_callTy call_list_of (by rfl) mL boot_list (pa_cons (pv 6) pa_nil)) (pv 3) (nomark _))
      (pw_or (pt_cmpR (op_neD hr.units) (pe_fld (pv 7) rfl) (pe_fld (pv 2) rfl) (nomark _))
      (pw_or (pt_cmpR (op_neD hr.units) (pe_fld (pv 7) rfl) (pe_fld (pv 2) rfl) (nomark _))
      (pw_or1 (pt_cmpR (op_neD hr.units) (pe_fld (pe_call DR.G h6 rfl DR.g DR.kp DR.b .nil pass0 (pa_cons (pv 6) pa_nil)) rfl) (pe_fld (pv 2) rfl) (nomark _))))))) (pss_one (ps_ret pe_bl)) pss_nil)
    hu)), fun D H sc a d du ss os qs y4 y5 Dr Dk hdu n1 n6 hql ho hq nx => ?_⟩
  have hqf : ∀ q ∈ qs, OFew q.2 ∧ Few q.1 := fun q hq9 => ⟨(hq q hq9).1, by
    have e : q.1 = ((q.1.toNat : Nat) : Int) := (Int.toNat_of_nonneg (hq q hq9).2.1).symm
    have := (hq q hq9).2
    rw [e]
    exact few_nat (by omega)⟩
  refine ⟨_, rfl, d, os, qs, rfl, Dk, ho, hqf, by omega, by omega, fun p H1 s1 hp => ?_⟩
  refine ⟨_, rfl, p, _, rfl, .inr hp, fun l1 hl1 => ?_⟩
  have t1 := same_upd (o := .lst (strV (allL os qs))) hl1
  have el1 : (upd H1 l1 (.lst (strV (allL os qs)))) l1 = some (.lst (strV (allL os qs))) := upd_same
  generalize upd H1 l1 (.lst (strV (allL os qs))) = G1 at t1 el1 ⊢
  refine ⟨l1, os, qs, rfl, .inl (SqL.of el1), n1, by omega, by omega, ho, hq, fun d2 H2 s2 hd2 D2 => ?_⟩
  have s12 := (s1.trans t1).trans s2
  have hp2 := same_seqT (t1.trans s2) hp
  refine ⟨_, rfl, p, _, rfl, .inr hp2, fun l2 hl2 => ?_⟩
  have t2 := same_upd (o := .lst (strV (allL os qs))) hl2
  have el2 : (upd H2 l2 (.lst (strV (allL os qs)))) l2 = some (.lst (strV (allL os qs))) := upd_same
  generalize upd H2 l2 (.lst (strV (allL os qs))) = H3 at t2 el2 ⊢
  have s03 := s12.trans t2
  obtain ⟨sh1, sh2⟩ := strD_shape (allL_lt os qs)
  refine ⟨_, rfl, .list (strD (allL os qs)), .list (strD (allL os qs)), .lst (SqL.of el2) (strD_dp _), .lst (SqL.of (s03 _ _ hdu)) (strD_dp _), shaped_list sh1 (by omega), shaped_list sh1 (by omega), false, ?_, iteF ?_⟩
  · have erf : PyData.eqv (.list (strD (allL os qs))) (.list (strD (allL os qs))) = true := SeqAt.eqv_refl _ (by simp only [PyData.canLay0]; exact sh1)
    rw [erf]
    rfl
  obtain ⟨oh1, oh2⟩ := os_shape os
  obtain ⟨qh1, qh2⟩ := qs_shape qs
  have eso : PyData.eqv (.tuple (os.map dV)) (.tuple (os.map dV)) = true := SeqAt.eqv_refl _ (by simp only [PyData.canLay0]; exact oh1)
  have esq : PyData.eqv (.tuple (qs.map fun q => .tuple [.int q.1, dV q.2])) (.tuple (qs.map fun q => .tuple [.int q.1, dV q.2])) = true := SeqAt.eqv_refl _ (by simp only [PyData.canLay0]; exact qh1)
  have D23 := D2.same t2
  have D03 := Dk.same s03
  obtain ⟨dx2, m2, sa2, la2, z1, z2, z3⟩ := D23.parts
  obtain ⟨dx3, m3, sa3, la3, w1, w2, w3⟩ := D03.parts
  refine ⟨_, rfl, d2, CD, dx2, _, _, rfl, z1, T.cl, T.nS, fl_settled _ _ _, _, rfl, d, CD, dx3, _, _, rfl, w1, T.cl, T.nS, fl_settled _ _ _, _, _, dp_same tp_le _ _ z2, dp_same tp_le _ _ w2, shaped_tup oh1 (by omega), shaped_tup oh1 (by omega), false, ?_, iteF ?_⟩
  · rw [eso]
    rfl
  refine ⟨_, rfl, d2, CD, dx2, _, _, rfl, z1, T.cl, T.nL, fl_loose _ _ _, _, rfl, d, CD, dx3, _, _, rfl, w1, T.cl, T.nL, fl_loose _ _ _, _, _, dp_same tp_le _ _ z3, dp_same tp_le _ _ w3, shaped_tup qh1 (by omega), shaped_tup qh1 (by omega), false, ?_, iteF ?_⟩
  · rw [esq]
    rfl
  have hp3 := same_seqT t2 hp2
  refine ⟨_, rfl, p, os, qs, rfl, .inr hp3, n1, by omega, by omega, ho, hq, fun d4 H4 s4 hd4 D4 => ?_⟩
  obtain ⟨dx4, m4, sa4, la4, v1, v2, v3⟩ := D4.parts
  have D04 := D03.same s4
  obtain ⟨dx5, m5, sa5, la5, r1, r2, r3⟩ := D04.parts
  refine ⟨d4, CD, dx4, _, _, rfl, v1, T.cl, T.nS, fl_settled _ _ _, _, rfl, d, CD, dx5, _, _, rfl, r1, T.cl, T.nS, fl_settled _ _ _, _, _, dp_same tp_le _ _ v2, dp_same tp_le _ _ r2, shaped_tup oh1 (by omega), shaped_tup oh1 (by omega), false, ?_, iteF ?_⟩
  · rw [eso]
    rfl
  exact nx _ _ _ _ _ _ H4 (Dr.same (s03.trans s4))
end
end Pf

set_option Elab.async false
set_option linter.all false
set_option maxRecDepth 100000
set_option maxHeartbeats 4000000
namespace Pf
open PySem PySem.Spec PyProof.Rows L2 TL
/-! ### numbers on a store's disk stay small -/
def Lil (x : Int) : Prop := -1000000 ≤ x ∧ x ≤ 1000000
def Sv (d : PyData) : Prop := ∃ ns : List Int, d = rowD ns ∧ ns.length ≤ 100 ∧ ∀ x ∈ ns, Lil x
def SmC (c : Ch) : Prop := c.2.length = 8 ∧ Lil c.1 ∧ ∀ x ∈ c.2, Lil x
theorem lil_few {x : Int} (h : Lil x) : Few x := by
  unfold Few
  have h1 : x.natAbs ≤ 1000000 := by
    have := h.1
    have := h.2
    omega
  exact Nat.lt_of_le_of_lt h1 (by decide)
structure Sm (N : Nat) (m : MD) : Prop where
  ds : ∀ d ∈ m.ds, Sv d
  ls : ∀ q ∈ m.ls, Sv q.2
  rn : ∀ c ∈ m.rn, SmC c
  zs : ∀ z ∈ m.zs, ∀ c ∈ z.2.2, SmC c
  ng : 0 ≤ m.ng ∧ m.ng ≤ (N : Int)
  ns : m.ns ≤ N
  hn : 0 ≤ m.hn ∧ m.hn ≤ (N : Int)
  rl : m.rn.length ≤ 60
theorem Sm.mono {N M : Nat} {m : MD} (h : Sm N m) (l : N ≤ M) : Sm M m := ⟨h.ds, h.ls, h.rn, h.zs, ⟨h.ng.1, by have := h.ng.2; omega⟩, by have := h.ns; omega, ⟨h.hn.1, by have := h.hn.2; omega⟩, h.rl⟩
theorem settle_all {P : PyData → Prop} : ∀ {ls : List (Int × PyData)} {ds : List PyData}, (∀ d ∈ ds, P d) → (∀ q ∈ ls, P q.2) → ∀ d ∈ settleD ds ls, P d
  | [], _, h, _ => h
  | q :: ls, ds, h, h2 => settle_all (ls := ls) (ds := ds.set q.1.toNat q.2) (fun d hd => by
      rcases List.mem_or_eq_of_mem_set hd with z | z
      · exact h d z
      · rw [z]; exact h2 q List.mem_cons_self) fun q hq => h2 q (List.mem_cons_of_mem _ hq)
theorem Sm.bar {N : Nat} {m : MD} (h : Sm N m) : Sm N m.barrier := ⟨settle_all h.ds h.ls, fun _ z => (by cases z), h.rn, h.zs, h.ng, h.ns, h.hn, h.rl⟩
theorem Sm.write {N : Nat} {m : MD} (h : Sm N m) (p : Int) {e : PyData} (he : Sv e) : Sm N (m.write p e) := ⟨h.ds, fun q hq => by
  rcases List.mem_append.mp hq with z | z
  · exact h.ls q z
  · rw [List.mem_singleton.mp z]; exact he, h.rn, h.zs, h.ng, h.ns, h.hn, h.rl⟩
theorem putC_mem {P : Ch → Prop} {cs : List Ch} {k : Int} {l : List Int} (h : ∀ c ∈ cs, P c) (hl : P (k, l)) : ∀ c ∈ putC cs k l, P c := fun c hc => by
  unfold putC at hc
  split at hc
  · obtain ⟨x, hx, rfl⟩ := List.mem_map.mp hc
    by_cases e : x.1 = k
    · rw [if_pos e, e]; exact hl
    · rw [if_neg e]; exact h x hx
  · rcases List.mem_append.mp hc with z | z
    · exact h c z
    · rw [List.mem_singleton.mp z]; exact hl
theorem overC_mem {P : Ch → Prop} : ∀ {xs cs : List Ch}, (∀ c ∈ cs, P c) → (∀ c ∈ xs, P c) → ∀ c ∈ overC cs xs, P c
  | [], _, h, _ => h
  | x :: xs, cs, h, h2 => overC_mem (xs := xs) (cs := putC cs x.1 x.2) (putC_mem h (h2 x List.mem_cons_self)) fun c hc => h2 c (List.mem_cons_of_mem _ hc)
theorem inC_mem {P : Ch → Prop} {n : Int} : ∀ {xs cs : List Ch}, (∀ c ∈ cs, P c) → (∀ c ∈ xs, P c) → ∀ c ∈ inC n cs xs, P c
  | [], _, h, _ => h
  | x :: xs, cs, h, h2 => by
    show ∀ c ∈ inC n (if x.1 < n then putC cs x.1 x.2 else cs) xs, P c
    split
    · exact inC_mem (xs := xs) (putC_mem h (h2 x List.mem_cons_self)) fun c hc => h2 c (List.mem_cons_of_mem _ hc)
    · exact inC_mem (xs := xs) h fun c hc => h2 c (List.mem_cons_of_mem _ hc)
theorem lastC_mem {P : Ch → Prop} {n : Int} {zs : List Gr} (h : ∀ z ∈ zs, ∀ c ∈ z.2.2, P c) : ∀ c ∈ lastC n zs, P c := by
  unfold lastC
  have : ∀ (zs : List Gr) (cs : List Ch), (∀ z ∈ zs, ∀ c ∈ z.2.2, P c) → (∀ c ∈ cs, P c) → ∀ c ∈ zs.foldl (fun cs z => inC n cs z.2.2) cs, P c := by
    intro zs
    induction zs with
    | nil => intro cs _ h; exact h
    | cons z zs ih => intro cs hz hc; exact ih _ (fun y hy => hz y (List.mem_cons_of_mem _ hy)) (inC_mem hc (hz z List.mem_cons_self))
  exact this zs [] h (fun _ z => by cases z)
theorem Sm.homeW {N : Nat} {m : MD} (h : Sm N m) {xs : List Ch} (hx : ∀ c ∈ xs, SmC c) : Sm N (m.homeW xs) := ⟨h.ds, fun q hq => by
  rcases List.mem_append.mp hq with z | z
  · exact h.ls q z
  · obtain ⟨c, hc, rfl⟩ := List.mem_map.mp z
    obtain ⟨h1, h2, h3⟩ := hx c hc
    exact ⟨c.2, rfl, by omega, h3⟩, h.rn, h.zs, h.ng, h.ns, h.hn, h.rl⟩
theorem Sm.lay {N : Nat} {m : MD} (h : Sm N m) (hN : N ≤ 1000) : Sm (N + 1) m.lay := by
  unfold MD.lay
  split
  · exact h.mono (by omega)
  · have hl : ∀ c ∈ m.barrier.last, SmC c := fun c hc => lastC_mem (n := ((m.n : Nat) : Int)) h.zs c ((sortC_perm _).subset hc)
    have h1 := (h.bar.homeW hl).bar
    have h2 : Sm (N + 1) ((m.barrier.homeW m.barrier.last).barrier.up) := ⟨h1.ds, h1.ls, h1.rn, h1.zs, by
      have h3 : 0 ≤ m.ng ∧ m.ng ≤ (N : Int) := h.ng
      show 0 ≤ m.ng ∧ m.ng ≤ ((N + 1 : Nat) : Int)
      omega, by
      have h3 : m.ns ≤ N := h.ns
      show m.ns ≤ N + 1
      omega, by
      have h3 : 0 ≤ m.hn ∧ m.hn ≤ (N : Int) := h.hn
      show 0 ≤ m.hn + 1 ∧ m.hn + 1 ≤ ((N + 1 : Nat) : Int)
      omega, h1.rl⟩
    have h4 : Sm (N + 1) ((m.barrier.homeW m.barrier.last).barrier.up.head) := h2.write _ ⟨_, rfl, by show 3 ≤ 100; decide, fun x hx => by
      have a1 := h2.hn
      have a2 := h2.ng
      have a3 := h2.ns
      simp only [List.mem_cons, List.not_mem_nil, or_false] at hx
      rcases hx with rfl | rfl | rfl
      · exact ⟨by omega, by omega⟩
      · exact ⟨by omega, by omega⟩
      · exact ⟨by omega, by omega⟩⟩
    have h5 := h4.bar
    exact ⟨h5.ds, h5.ls, h5.rn, fun _ z => (by cases z), h5.ng, h5.ns, h5.hn, h5.rl⟩
theorem Sm.push {N : Nat} {m : MD} (h : Sm N m) (hN : N ≤ 1000) : Sm (N + 61) m.push := by
  unfold MD.push
  split
  · exact h.mono (by omega)
  · have hr : Sm (N + 1) m.room := by
      unfold MD.room
      split
      · exact h.mono (by omega)
      · exact h.lay hN
    generalize m.room = r at hr
    have hsl : (sortC r.rn).length ≤ 60 := by rw [(sortC_perm _).length_eq]; exact hr.rl
    have hsm : ∀ c ∈ sortC r.rn, SmC c := fun c hc => hr.rn c ((sortC_perm _).subset hc)
    have a1 := hr.ng
    have a2 := hr.ns
    have a3 := hr.hn
    refine ⟨hr.ds, fun q hq => ?_, fun _ z => (by cases z), fun z hz => ?_, ?_, ?_, ⟨a3.1, ?_⟩, Nat.zero_le _⟩
    · have hq' : q ∈ r.ls ++ (List.range (sortC r.rn).length).map (lw r (sortC r.rn)) := hq
      rcases List.mem_append.mp hq' with z | z
      · exact hr.ls q z
      · obtain ⟨j, hj, rfl⟩ := List.mem_map.mp z
        have hj' := List.mem_range.mp hj
        have hcm : (sortC r.rn).getD j (0, []) ∈ sortC r.rn := by rw [List.getD_eq_getElem?_getD, List.getElem?_eq_getElem hj']; exact List.getElem_mem _
        obtain ⟨b1, b2, b3⟩ := hsm _ hcm
        refine ⟨_, rfl, ?_, fun x hx => ?_⟩
        · show (rowN r.ng j (sortC r.rn).length ((sortC r.rn).getD j (0, []))).length ≤ 100
          unfold rowN
          simp only [List.length_cons]
          omega
        · have hx' : x ∈ r.ng :: ((j : Nat) : Int) :: (((sortC r.rn).length : Nat) : Int) :: ((sortC r.rn).getD j (0, [])).1 :: ((sortC r.rn).getD j (0, [])).2 := hx
          rcases List.mem_cons.mp hx' with z | z
          · rw [z]; exact ⟨by omega, by omega⟩
          · rcases List.mem_cons.mp z with z | z
            · rw [z]; exact ⟨by omega, by omega⟩
            · rcases List.mem_cons.mp z with z | z
              · rw [z]; exact ⟨by omega, by omega⟩
              · rcases List.mem_cons.mp z with z | z
                · rw [z]; exact b2
                · exact b3 x z
    · have hz' : z ∈ r.zs ++ [(r.ng, r.ns, sortC r.rn)] := hz
      rcases List.mem_append.mp hz' with y | y
      · exact hr.zs z y
      · rw [List.mem_singleton.mp y]; exact hsm
    · show 0 ≤ r.ng + 1 ∧ r.ng + 1 ≤ ((N + 61 : Nat) : Int)
      omega
    · show r.ns + (sortC r.rn).length ≤ N + 61
      omega
    · show r.hn ≤ ((N + 61 : Nat) : Int)
      omega
theorem Sm.put {N : Nat} {m : MD} (h : Sm N m) (hN : N ≤ 1000) {cs : List Ch} (hc : ∀ c ∈ cs, SmC c) (hl : (m.put cs).rn.length ≤ 60) : Sm (N + 61) (m.put cs) := by
  unfold MD.put at hl ⊢
  split
  · exact h.mono (by omega)
  · rename_i h0
    rw [if_neg h0] at hl
    have hf : Sm (N + 61) (m.fit cs) := by
      unfold MD.fit
      split
      · exact h.mono (by omega)
      · exact h.push hN
    exact ⟨hf.ds, hf.ls, overC_mem hf.rn hc, hf.zs, hf.ng, hf.ns, hf.hn, hl⟩
/-- small data as values -/
theorem Sv.ov {d : PyData} (h : Sv d) : ∃ o, d = dV o ∧ OFew o := by
  obtain ⟨ns, e, hl, hx⟩ := h
  exact ⟨some ns, e, hl, fun x hx9 => lil_few (hx x hx9)⟩
theorem Sv.all : ∀ {ds : List PyData}, (∀ d ∈ ds, Sv d) → ∃ os : List Ov, ds = os.map dV ∧ ∀ o ∈ os, OFew o
  | [], _ => ⟨[], rfl, fun _ z => by cases z⟩
  | d :: ds, h => by
    obtain ⟨o, e, ho⟩ := (h d List.mem_cons_self).ov
    obtain ⟨os, e2, ho2⟩ := Sv.all (ds := ds) fun x hx => h x (List.mem_cons_of_mem _ hx)
    exact ⟨o :: os, by rw [e, e2]; rfl, fun x hx => by
      rcases List.mem_cons.mp hx with z | z
      · rw [z]; exact ho
      · exact ho2 x z⟩
theorem Sv.alls : ∀ {ls : List (Int × PyData)}, (∀ q ∈ ls, Sv q.2) → ∃ qs : List (Int × Ov), ls = qs.map (fun q => (q.1, dV q.2)) ∧ ∀ q ∈ qs, OFew q.2
  | [], _ => ⟨[], rfl, fun _ z => by cases z⟩
  | q :: ls, h => by
    obtain ⟨o, e, ho⟩ := (h q List.mem_cons_self).ov
    obtain ⟨qs, e2, ho2⟩ := Sv.alls (ls := ls) fun x hx => h x (List.mem_cons_of_mem _ hx)
    exact ⟨(q.1, o) :: qs, by rw [List.map_cons, ← e2, ← e], fun x hx => by
      rcases List.mem_cons.mp hx with z | z
      · rw [z]; exact ho
      · exact ho2 x z⟩
end Pf

set_option Elab.async false
set_option linter.all false
set_option maxRecDepth 100000
set_option maxHeartbeats 8000000
namespace Pf
open PySem PySem.Spec PyProof.Rows L2 TL
def F38 : HF := fun i => if i = 0 then List.replicate 8 1 else List.replicate 8 (-2)
/-- the store in the law's hands -/
structure M38 (K : PySem.W.Frag) (CS CD : Addr) (H : Hp) (a sc st d h r bd : Addr) (ss : List Int) (ds0 : List PyData) (m : MD) (es : List Ev) (hg hs : List HF) (N : Nat) : Prop where
  D : DrawAt K H a sc ss
  B : SB K CS CD H st d h r bd 2 3 ds0 m es hg hs
  sm : Sm (200 * N) m
section
variable {K : PySem.W.Frag} {CS CD : Addr} {H H' : Hp} {a sc st d h r bd : Addr} {ss : List Int} {ds0 : List PyData} {m : MD} {es : List Ev} {hg hs : List HF} {N : Nat}
theorem M38.draw (M : M38 K CS CD H a sc st d h r bd ss ds0 m es hg hs N) (b : But [a] H H') (D : DrawAt K H' a sc ss) : M38 K CS CD H' a sc st d h r bd ss ds0 m es hg hs N := ⟨D, M.B.draw M.D b, M.sm⟩
theorem M38.same (M : M38 K CS CD H a sc st d h r bd ss ds0 m es hg hs N) (s : Same H H') : M38 K CS CD H' a sc st d h r bd ss ds0 m es hg hs N := M.draw (.of s) (M.D.same s)
theorem M38.step (M : M38 K CS CD H a sc st d h r bd ss ds0 m es hg hs N) (hC : CS ≠ CD) {r' : Addr} {m' : MD} {es' : List Ev} {hg' hs' : List HF} {N' : Nat} (f : Fr [st, d, h, r] H H') (A' : StAt K CS CD H' st d h r' m') (hb : m'.bg = m.bg) (si : SI 2 3 ds0 m' es' hg' hs') (sm : Sm (200 * N') m') : M38 K CS CD H' a sc st d h r' bd ss ds0 m' es' hg' hs' N' :=
  ⟨M.B.drawAt M.D f, M.B.step hC f A' hb si, sm⟩
end
def W38 (K : PySem.W.Frag) (CS CD : Addr) (N : Nat) (σ' : L2.St) (Hx : Hp) : Prop := ∃ (a sc st d h r bd : Addr) (ss : List Int) (ds0 : List PyData) (m : MD) (es : List Ev) (hg hs : List HF) (y2 y3 y4 y5 y6 y7 y9 : Option V), σ' = [some (V.ref sc), some (V.ref a), y2, y3, y4, y5, y6, y7, some (.ref st), y9, none, none] ∧
  M38 K CS CD Hx a sc st d h r bd ss ds0 m es hg hs N ∧ es.length ≤ 20 * N
section
variable {P : Program} {w : World} {K : PySem.W.Frag} {mg : Str → Option Value} {base : Heap} {CS CD CN : Addr} {f : Addr} {cdv : Value} {A : Around} {outer : List Env} {s : Shared} {H0 : Hp} {E : XK} {rest : List Stmt} {u : TS}
theorem law_8 {fF : Addr} {dF : FuncData} (T : STxt K CS CD) (DF : Df P w K mg base (L2.CX P w) 8 "fresh_store" ["plates", "slots", "home"] (sp_fresh K CS CD CN) fF dF) (hr : Room 8 (A.deeper (envOfC "law" (defScope sLaw) s.heap.objs.size f cdv))) (hu : PSs (XL P w K mg base f cdv A outer s H0 E) rest u) :
    ∃ t, PSs (XL P w K mg base f cdv A outer s H0 E) (stL 8 :: rest) t ∧ ∀ D H (sc a : Addr) (ss : List Int) (y2 y3 y4 y5 y6 y7 : Option V), DrawAt K H a sc ss → (∀ σ' H', W38 K CS CD 0 σ' H' → u D σ' H') →
      t D [some (V.ref sc), some (V.ref a), y2, y3, y4, y5, y6, y7, none, none, none, none] H := by
  have nd := scLaw.nd
  refine ⟨_, pss_cons (ps_set (i := 8) nd rfl (.inl rfl) (pe_call DF.G hr rfl DF.g DF.kp DF.b .nil passL (pa_cons pe_int (pa_cons pe_int (pa_cons
      (pe_disp (pps_cons pe_int (pe_op op_repT (pe_tup (pa_cons pe_int pa_nil)) pe_int) (pps_cons pe_int (pe_op op_repT (pe_tup (pa_cons (pe_un un_neg pe_int) pa_nil)) pe_int) pps_nil)) rfl rfl (by simp) (by decide)) pa_nil))))) hu, fun D H sc a ss y2 y3 y4 y5 y6 y7 Dr nx => ?_⟩
  refine fun c hc => ⟨(by show 1 ≤ sizeLine; decide), fun u0 hu0 => ⟨u0, 8, [.int 1], rfl, rfl, SqT.of upd_same, by simp, by decide, by decide, (by show 1 ≤ 1000; decide), fun v0 hv0 => ?_⟩⟩
  have r0 := same_upd (o := .dK []) hc
  have r1 := same_upd (o := .tup [V.int 1]) hu0
  have r2 := same_upd (o := .tup (List.replicate (8 : Int).toNat [V.int 1]).flatten) hv0
  have ec2 := r2 _ _ (r1 _ _ (upd_same (H := H) (a := c) (o := .dK [])))
  have ev2 : (upd (upd (upd H c (.dK [])) u0 (.tup [V.int 1])) v0 (.tup (List.replicate (8 : Int).toNat [V.int 1]).flatten)) v0 = some (.tup ((List.replicate 8 (1 : Int)).map V.int)) := upd_same
  have r02 := (r0.trans r1).trans r2
  have nc : H c = none := hc
  generalize upd (upd (upd H c (.dK [])) u0 (.tup [V.int 1])) v0 (.tup (List.replicate (8 : Int).toNat [V.int 1]).flatten) = G2 at ec2 ev2 r02 ⊢
  refine ⟨_, rfl, (by show 1 ≤ sizeLine; decide), fun u1 hu1 => ⟨u1, 8, [.int (-2)], rfl, rfl, SqT.of upd_same, by simp, by decide, by decide, (by show 1 ≤ 1000; decide), fun v1 hv1 => ?_⟩⟩
  have r3 := same_upd (o := .tup [V.int (-2)]) hu1
  have r4 := same_upd (o := .tup (List.replicate (8 : Int).toNat [V.int (-2)]).flatten) hv1
  have ec4 := r4 _ _ (r3 _ _ ec2)
  have ev4 := r4 _ _ (r3 _ _ ev2)
  have ew4 : (upd (upd G2 u1 (.tup [V.int (-2)])) v1 (.tup (List.replicate (8 : Int).toNat [V.int (-2)]).flatten)) v1 = some (.tup ((List.replicate 8 (-2 : Int)).map V.int)) := upd_same
  have r04 := (r02.trans r3).trans r4
  generalize upd (upd G2 u1 (.tup [V.int (-2)])) v1 (.tup (List.replicate (8 : Int).toNat [V.int (-2)]).flatten) = G4 at ec4 ev4 ew4 r04 ⊢
  refine ⟨ec4, tk [((0 : Int), V.ref v0, List.replicate 8 (1 : Int)), ((1 : Int), V.ref v1, List.replicate 8 (-2 : Int))], rfl, (by show 2 ≤ 15; decide), ?_⟩
  generalize ets : ([((0 : Int), V.ref v0, List.replicate 8 (1 : Int)), ((1 : Int), V.ref v1, List.replicate 8 (-2 : Int))] : List Tr) = ts
  have et : tc ts = canonC 2 F38 := by rw [← ets]; rfl
  rw [merge_nd (tk_nodup (by rw [et]; exact canon_nodup _ _))]
  have f5 : Fr [c] G4 (upd G4 c (.dK (tk ts))) := .put (by simp) fun u z => by rw [ec4] at z; cases z; rfl
  have s05 : Same H (upd G4 c (.dK (tk ts))) := fun b o z => ((((Fr.of (cs := [c]) r04).trans f5).drop (cs := []) fun x hx => .inr (by rw [List.mem_singleton.mp hx]; exact nc)) b o z (.inl (by simp)))
  have hv0' : v0 ≠ c := fun z => by rw [z, ec4] at ev4; cases ev4
  have hv1' : v1 ≠ c := fun z => by rw [z, ec4] at ew4; cases ew4
  have ht : ∀ t ∈ ts, Dp K (Tp (upd G4 c (.dK (tk ts)))) t.2.1 (rowD t.2.2) := fun t ht => by
    rw [← ets] at ht
    simp only [List.mem_cons, List.not_mem_nil, or_false] at ht
    rcases ht with rfl | rfl
    · exact .tup (SqT.of (tp_at (by rw [upd_ne hv0']; exact ev4) rfl)) (dps_ints _)
    · exact .tup (SqT.of (tp_at (by rw [upd_ne hv1']; exact ew4) rfl)) (dps_ints _)
  have ec5 : (upd G4 c (.dK (tk ts))) c = some (.dK (tk ts)) := upd_same
  generalize upd G4 c (.dK (tk ts)) = G5 at s05 ht ec5 ⊢
  have hF8 : ∀ i < 2, (F38 i).length = 8 := fun i hi => by unfold F38; split <;> rfl
  obtain ⟨c1, c2, c3, c4⟩ := ch_all et
  have hcs : ∀ x ∈ sortC (tc ts), x.2.length = 8 ∧ 0 ≤ x.1 ∧ x.1 < ((2 : Nat) : Int) := fun x hx => by
    obtain ⟨t, ht2, e1, e2⟩ := sort_mem hx
    obtain ⟨g1, g2, g3⟩ := c4 t ht2
    rw [← e1, ← e2, g3]
    exact ⟨hF8 _ (by omega), g1, g2⟩
  have hnd : ((sortC (tc ts)).map (·.1)).Nodup := ((sortC_perm _).map _).nodup_iff.mpr (by rw [et]; exact canon_nodup _ _)
  have hFm : ∀ i : Nat, i < 2 → ((i : Int), F38 i) ∈ sortC (tc ts) := fun i hi => (sortC_perm _).symm.subset (by
    rw [et]
    exact List.mem_map.mpr ⟨i, List.mem_range.mpr hi, rfl⟩)
  obtain ⟨_, hread⟩ := SI.fresh (n := 2) (S := 3) (F := F38) V.non (by decide) (by decide) (by decide) hnd hcs hFm
  refine ⟨2, 3, c, ts, rfl, ec5, fun t ht2 => ?_, c1, by omega, c3, by omega, by omega, by omega, hread, fun H3 x st d h r s5 hx hst hd hh hr' nxs nxd Dx A5 => ?_⟩
  · obtain ⟨g1, g2, g3⟩ := c4 t ht2
    exact ⟨ht t ht2, by rw [g3]; exact hF8 _ (by omega), g1, g2⟩
  obtain ⟨si, _⟩ := SI.fresh (n := 2) (S := 3) (F := F38) (V.ref x) (by decide) (by decide) (by decide) hnd hcs hFm
  obtain ⟨R0, hla⟩ := dsF_RG (n := 2) (S := 3) (F := F38) (by decide) hnd hcs hFm
  have B5 : SB K CS CD H3 st d h r x 2 3 (dsF 2 3 (sortC (tc ts))) _ [] _ _ := ⟨A5, rfl, Dx, nxd, si⟩
  refine nx _ _ ⟨a, sc, st, d, h, r, x, ss, _, _, _, _, _, y2, y3, y4, y5, y6, y7, none, rfl, ⟨Dr.same (s05.trans s5), B5, ?_⟩, Nat.zero_le _⟩
  have qz : (initM (V.ref x) 2 3 (dsF 2 3 (sortC (tc ts))) 0 0 0).zs = [] := R0.rd
  refine ⟨?_, fun _ z => (by cases z), fun _ z => (by cases z), (by rw [qz]; intro z h; cases h), ?_, ?_, ⟨(show (0 : Int) ≤ 0 by decide), (show (0 : Int) ≤ ((0 : Nat) : Int) by decide)⟩, Nat.zero_le _⟩
  · show ∀ y ∈ dsF 2 3 (sortC (tc ts)), Sv y
    unfold dsF
    refine settle_all (fun y hy => ?_) fun q hq => ?_
    · rw [List.eq_of_mem_replicate hy]
      exact ⟨[], rfl, by decide, fun _ z => by cases z⟩
    · rcases List.mem_cons.mp (show q ∈ (0, rowD [0, 0, 0]) :: hmL 3 (sortC (tc ts)) from hq) with z | z
      · rw [z]
        exact ⟨[0, 0, 0], rfl, by decide, fun y hy => by
          simp only [List.mem_cons, List.not_mem_nil, or_false] at hy
          rcases hy with rfl | rfl | rfl <;> exact ⟨by decide, by decide⟩⟩
      · unfold hmL at z
        obtain ⟨cc, hcc, rfl⟩ := List.mem_map.mp z
        refine ⟨cc.2, rfl, by have := (hcs cc hcc).1; omega, fun y hy => ?_⟩
        have hm := (sortC_perm _).subset hcc
        rw [et] at hm
        obtain ⟨i, hi, e⟩ := List.mem_map.mp hm
        have e2 : F38 i = cc.2 := congrArg Prod.snd e
        rw [← e2] at hy
        unfold F38 at hy
        split at hy
        · rw [List.eq_of_mem_replicate hy]; exact ⟨by decide, by decide⟩
        · rw [List.eq_of_mem_replicate hy]; exact ⟨by decide, by decide⟩
  · have qg : (initM (V.ref x) 2 3 (dsF 2 3 (sortC (tc ts))) 0 0 0).ng = 0 := by
      show (if lastI (ringD 3 (dsF 2 3 (sortC (tc ts)))) + 1 > 0 then lastI (ringD 3 (dsF 2 3 (sortC (tc ts)))) + 1 else 0) = 0
      rw [hla]
      rfl
    rw [qg]
    exact ⟨by decide, by decide⟩
  · show 0 + slotsN (rgs (ringD 3 (dsF 2 3 (sortC (tc ts)))) 3 (3 + 1) 0 0 0) ≤ 200 * 0
    rw [R0.rd]
    exact Nat.le_refl _
end
end Pf

set_option Elab.async false
set_option linter.all false
set_option maxRecDepth 100000
set_option maxHeartbeats 8000000
namespace Pf
open PySem PySem.Spec PyProof.Rows L2 TL
section
variable {P : Program} {w : World} {K : PySem.W.Frag} {mg : Str → Option Value} {base : Heap} {CS CD CN : Addr} {f : Addr} {cdv : Value} {A : Around} {outer : List Env} {s : Shared} {H0 : Hp} {E : XK} {rest : List Stmt} {u : TS}
theorem law_9 {fT fU fZ : Addr} {dT dU dZ : FuncData} (T : STxt K CS CD) (DT : Df P w K mg base CX0 2 "_law_take" ["draw", "many"] (spTake K) fT dT) (MU : Me P w K mg base 8 CS "put" ["self", "changes"] (sp_put K CS CD) fU dU) (MZ : Me P w K mg base 7 CS "push" ["self"] (sp_push K CS CD) fZ dZ)
    (mr : mg "range" = none) (hr : Room 8 (A.deeper (envOfC "law" (defScope sLaw) s.heap.objs.size f cdv))) (hu : PSs (XL P w K mg base f cdv A outer s H0 E) rest u) :
    ∃ t, PSs (XL P w K mg base f cdv A outer s H0 E) (stL 9 :: rest) t ∧ ∀ D σ H, W38 K CS CD 0 σ H → (∀ σ' H', W38 K CS CD 5 σ' H' → u D σ' H') → t D σ H := by
  have nd := scLaw.nd
  have h2 : Room 2 _ := hr.mono (by decide)
  have h7 : Room 7 _ := hr.mono (by decide)
  refine ⟨_, pss_cons (ps_for PassesOwn.never rfl (pi_range1 (by rfl) mr (pa_cons (pe_call DT.G h2 rfl DT.g DT.kp DT.b .nil pass0 (pa_cons (pv 1) (pa_cons pe_int pa_nil))) pa_nil)) (pg_name (i := 9) nd rfl (.inl rfl))
      (pss_cons (ps_expr (pe_meth (pv 8) T.cl MU.m MU.G hr MU.b .nil pass0 (pa_cons (pe_disp (pps_cons (pe_call DT.G h2 rfl DT.g DT.kp DT.b .nil pass0 (pa_cons (pv 1) (pa_cons pe_int pa_nil)))
          (pe_op op_repT (pe_tup (pa_cons (pv 9) pa_nil)) pe_int) pps_nil) (by rfl) (by rfl) (by decide) (by decide)) pa_nil)))
      (pss_one (ps_if (pt_cmpR op_eq (pe_call DT.G h2 rfl DT.g DT.kp DT.b .nil pass0 (pa_cons (pv 1) (pa_cons pe_int pa_nil))) pe_int (nomark _)) (pss_one (ps_expr (pe_meth0 (pv 8) T.cl MZ.m MZ.G h7 MZ.b .nil pass0))) pss_nil)))) hu, fun D σ H hI nx => ?_⟩
  obtain ⟨a, sc, st, d, h, r, bd, ss, ds0, m, es, hg, hs, y2, y3, y4, y5, y6, y7, y9, rfl, M, hel⟩ := hI
  refine ⟨_, rfl, a, sc, ss, 5, rfl, M.D, by decide, fun q H1 q0 q5 b1 D1 => ?_⟩
  refine ⟨_, rfl, by omega, by omega, for_range (lo := 0) (n := q.toNat) (fun i σ' H' => W38 K CS CD i σ' H') ⟨a, sc, st, d, h, r, bd, ss, ds0, m, es, hg, hs, y2, y3, y4, y5, y6, y7, y9, rfl, M.draw b1 D1, hel⟩ ?_ ?_⟩
  · rintro i σ' Hx hi ⟨a, sc, st, d, h, r, bd, ss, ds0, m, es, hg, hs, y2, y3, y4, y5, y6, y7, y9, rfl, M, hel⟩
    have hi5 : i < 5 := by omega
    have si := M.B.si
    have hrl := si.rnl
    obtain ⟨dx, beg, tr, gv, qv, e1, e2, e3, e4⟩ := M.B.A.ex
    refine ⟨_, rfl, st, dx, _, rfl, e1, zip_no (by decide +kernel), fun c hc => ?_⟩
    have r0 := same_upd (o := .dK []) hc
    have ec0 : (upd Hx c (.dK [])) c = some (.dK []) := upd_same
    have M0 := M.same r0
    have nc : Hx c = none := hc
    generalize upd Hx c (.dK []) = G0 at r0 ec0 M0 ⊢
    refine ⟨_, rfl, a, sc, ss, 2, rfl, M0.D, by decide, fun p G1 p0 p2 b1 D1 => ?_⟩
    have M1 := M0.draw b1 D1
    have hca : c ≠ a := M.D.ne nc
    have ec1 := b1.at ec0 (by simp [hca])
    refine ⟨_, rfl, (by show 1 ≤ sizeLine; decide), fun u0 hu0 => ⟨u0, 8, [.int (0 + ((i : Nat) : Int))], rfl, rfl, SqT.of upd_same, by simp, by decide, by decide, (by show 1 ≤ 1000; decide), fun v0 hv0 => ?_⟩⟩
    have r1 := same_upd (o := .tup [V.int (0 + ((i : Nat) : Int))]) hu0
    have r2 := same_upd (o := .tup (List.replicate (8 : Int).toNat [V.int (0 + ((i : Nat) : Int))]).flatten) hv0
    have ec2 := r2 _ _ (r1 _ _ ec1)
    have ev2 : (upd (upd G1 u0 (.tup [V.int (0 + ((i : Nat) : Int))])) v0 (.tup (List.replicate (8 : Int).toNat [V.int (0 + ((i : Nat) : Int))]).flatten)) v0 = some (.tup ((List.replicate 8 (0 + ((i : Nat) : Int))).map V.int)) := upd_same
    have M2 := M1.same (r1.trans r2)
    generalize upd (upd G1 u0 (.tup [V.int (0 + ((i : Nat) : Int))])) v0 (.tup (List.replicate (8 : Int).toNat [V.int (0 + ((i : Nat) : Int))]).flatten) = G2 at ec2 ev2 M2 ⊢
    refine ⟨ec2, tk [(p, V.ref v0, List.replicate 8 (0 + ((i : Nat) : Int)))], rfl, (by show 1 ≤ 15; decide), ?_⟩
    generalize ets : ([(p, V.ref v0, List.replicate 8 (0 + ((i : Nat) : Int)))] : List Tr) = ts
    have hts : ∀ t ∈ ts, t = (p, V.ref v0, List.replicate 8 (0 + ((i : Nat) : Int))) := fun t ht => by rw [← ets] at ht; exact List.mem_singleton.mp ht
    have hkn : ((tc ts).map (fun c : Ch => c.1)).Nodup := by
      rw [← ets]
      exact List.nodup_cons.mpr ⟨fun z => (by cases z), .nil⟩
    rw [merge_nd (tk_nodup hkn)]
    have f5 : Fr [c] G2 (upd G2 c (.dK (tk ts))) := .put (by simp) fun u z => by rw [ec2] at z; cases z; rfl
    have hv0' : v0 ≠ c := fun z => by rw [z, ec2] at ev2; cases ev2
    -- the store's own objects are others than the new dict
    obtain ⟨dx0, beg0, tr0, gv0, qv0, x1, _⟩ := M.B.A.ex
    obtain ⟨sv0, lv0, ⟨dxd, ad, bd', tsd, x2, _⟩, _⟩ := M.B.A.dk
    obtain ⟨th, x3, _⟩ := M.B.A.hd
    obtain ⟨tr', x4, _⟩ := M.B.A.rd
    obtain ⟨svb, lvb, ⟨dxb, ab, bb, tsb, x5, _⟩, _⟩ := M.B.db
    obtain ⟨ia, x6⟩ := M.D.1
    have nn : ∀ {y : Addr} {o : HO}, Hx y = some o → y ∉ [c] := fun {y o} e z => by rw [List.mem_singleton.mp z, nc] at e; cases e
    have M5 : M38 K CS CD (upd G2 c (.dK (tk ts))) a sc st d h r bd ss ds0 m es hg hs i := ⟨M2.D.fr f5 (nn x6) (fun y hy => .inr ⟨_, (show G2 y = some (.dK []) from by rw [List.mem_singleton.mp hy]; exact ec2)⟩), M2.B.fr f5 (nn x1) (nn x2) (nn x3) (nn x4) (nn x5), M2.sm⟩
    have ht : ∀ t ∈ ts, Dp K (Tp (upd G2 c (.dK (tk ts)))) t.2.1 (rowD t.2.2) := fun t ht => by
      rw [hts t ht]
      exact .tup (SqT.of (tp_at (by rw [upd_ne hv0']; exact ev2) rfl)) (dps_ints _)
    have ec5 : (upd G2 c (.dK (tk ts))) c = some (.dK (tk ts)) := upd_same
    generalize upd G2 c (.dK (tk ts)) = G5 at M5 ht ec5 ⊢
    have htm : ∀ t ∈ ts, t.2.2.length = 8 ∧ 0 ≤ t.1 ∧ t.1 < ((2 : Nat) : Int) := fun t ht2 => by
      rw [hts t ht2]
      exact ⟨List.length_replicate, p0, p2⟩
    have hcs : ∀ x ∈ sortC (tc ts), x.2.length = 8 ∧ 0 ≤ x.1 ∧ x.1 < ((2 : Nat) : Int) := fun x hx => by
      obtain ⟨t, ht2, rfl⟩ := List.mem_map.mp ((sortC_perm _).subset hx)
      exact htm t ht2
    have hcS : ∀ x ∈ sortC (tc ts), SmC x := fun x hx => by
      obtain ⟨t, ht2, rfl⟩ := List.mem_map.mp ((sortC_perm _).subset hx)
      rw [hts t ht2]
      refine ⟨List.length_replicate, ⟨by show _ ≤ p; omega, by show p ≤ _; omega⟩, fun y hy => ?_⟩
      rw [List.eq_of_mem_replicate hy]
      exact ⟨by omega, by omega⟩
    have hnd : ((sortC (tc ts)).map (·.1)).Nodup := ((sortC_perm _).map _).nodup_iff.mpr hkn
    have hl1 : (sortC (tc ts)).length = 1 := by rw [(sortC_perm _).length_eq, ← ets]; rfl
    have hlt : ts.length = 1 := by rw [← ets]; rfl
    obtain ⟨dx5, beg5, tr5, gv5, qv5, z1, _⟩ := M5.B.A.ex
    have hml : m.hm.length ≤ 800 := by rw [si.hm, canon_len]; decide
    refine ⟨st, d, h, r, c, m, ts, rfl, M5.B.A, si.pok (by omega), hml, ec5, fun t ht2 => ?_, by rw [← tc_keys]; exact hkn, by rw [hlt, si.mS]; decide, fun H9 r9 f9 hr9 A9 => ?_⟩
    · obtain ⟨g1, g2, g3⟩ := htm t ht2
      exact ⟨ht t ht2, g1, g2, by rw [si.mn]; exact g3⟩
    obtain ⟨xs9, ys9, ps9, si9, hx9, _⟩ := si.put hnd hcs (by omega)
    have hrl9 := si9.rnl
    have sm9 : Sm (200 * i + 61) (m.put (sortC (tc ts))) := M.sm.put (by omega) hcS (by omega)
    have M9 := M5.step (N' := i + 1) T.ne f9 A9 (bg_put _ _) si9 (sm9.mono (by omega))
    refine ⟨_, rfl, a, sc, ss, 2, rfl, M9.D, by decide, fun q2 Hb q20 q22 bb Db => ?_⟩
    have Mb := M9.draw bb Db
    obtain ⟨dxx, begx, trx, gvx, qvx, w1, _⟩ := Mb.B.A.ex
    refine ⟨rfl, _, rfl, ite2 (fun _ => ?_) (fun _ => ?_)⟩
    · obtain ⟨xs3, ys3, ps3, si3, hx3, _⟩ := si9.push
      refine ⟨_, rfl, st, dxx, _, rfl, w1, zip_no (by decide +kernel), st, d, h, r9, _, rfl, Mb.B.A, si9.pok (by rw [List.length_append]; omega), fun H3 r3 f3 hr3 A3 => ?_⟩
      have M3 := Mb.step (N' := i + 1) T.ne (f3.mono (by simp)) A3 (bg_push _) si3 ((sm9.push (by omega)).mono (by omega))
      exact ⟨a, sc, st, d, h, r3, bd, ss, ds0, _, _, _, _, y2, y3, y4, y5, y6, y7, _, rfl, M3, by rw [List.length_append, List.length_append]; omega⟩
    · exact ⟨a, sc, st, d, h, r9, bd, ss, ds0, _, _, _, _, y2, y3, y4, y5, y6, y7, _, rfl, Mb, by rw [List.length_append]; omega⟩
  · rintro σ' Hx ⟨a, sc, st, d, h, r, bd, ss, ds0, m, es, hg, hs, y2, y3, y4, y5, y6, y7, y9, rfl, M, hel⟩
    exact nx _ _ ⟨a, sc, st, d, h, r, bd, ss, ds0, m, es, hg, hs, y2, y3, y4, y5, y6, y7, y9, rfl, ⟨M.D, M.B, M.sm.mono (by omega)⟩, by omega⟩
end
end Pf

set_option Elab.async false
set_option linter.all false
set_option maxRecDepth 100000
set_option maxHeartbeats 8000000
namespace Pf
open PySem PySem.Spec PyProof.Rows L2 TL
/-! ### d == e of dicts -/
def rEqC (K : PySem.W.Frag) : R2 := fun x y H Q => ∃ (a b : Addr) (ts us : List Tr), x = .ref a ∧ y = .ref b ∧ H a = some (.dK (tk ts)) ∧ H b = some (.dK (tk us)) ∧ (∀ t ∈ ts, Dp K H t.2.1 (rowD t.2.2)) ∧ (∀ t ∈ us, Dp K H t.2.1 (rowD t.2.2)) ∧ Q (.bl (eqC (tc ts) (tc us))) H
theorem op_eqC {X : Cx} (hu : X.A.units + 64 < cLine) : OpR X (compareOp .Eq) (rEqC X.K) := by
  intro pins s σ H x y v u Q I rx ry h
  obtain ⟨a, b, ts, us, rfl, rfl, ha, hb, hts, hus, q⟩ := h
  cases rx
  cases ry
  obtain ⟨_, la, va, ra, da⟩ := dk_of I.hok ha
  obtain ⟨_, lb, vb, rb, db⟩ := dk_of I.hok hb
  refine PySem.W.keq_eq la lb da db (by omega) (fun _ => hits_of I hu rb hus ra hts) ⟨.bl _, H, I, rfl, ?_⟩
  have l1 : va.length = (tc ts).length := by
    have h1 : (tk ts).length = va.length := Paired.length ra
    rw [← h1]
    unfold tk tc
    rw [List.length_map, List.length_map]
  have l2 : vb.length = (tc us).length := by
    have h1 : (tk us).length = vb.length := Paired.length rb
    rw [← h1]
    unfold tk tc
    rw [List.length_map, List.length_map]
  rw [l1, l2]
  exact q
/-- a store's disk as values -/
theorem ov_of {K : PySem.W.Frag} {CD : Addr} {N n S : Nat} {ds0 : List PyData} {m : MD} {es : List Ev} {hg hs : List HF} (si : SI n S ds0 m es hg hs) (sm : Sm N m) : ∃ (os : List Ov) (qs : List (Int × Ov)), m.ds = os.map dV ∧ m.ls = qs.map (fun q => (q.1, dV q.2)) ∧ os.length = 2 + S + n ∧ qs.length ≤ S ∧ (∀ o ∈ os, OFew o) ∧ (∀ q ∈ qs, OFew q.2 ∧ 0 ≤ q.1 ∧ q.1 < ((os.length : Nat) : Int)) ∧
    (∀ H x, DkAt K CD H x m.ds m.ls → OvAt K CD H x os qs) := by
  obtain ⟨os, e1, ho⟩ := Sv.all sm.ds
  obtain ⟨qs, e2, hq⟩ := Sv.alls sm.ls
  have l1 : os.length = 2 + S + n := by have := si.len; rw [e1, List.length_map] at this; exact this
  have l2 : qs.length ≤ S := by have := si.lsl; rw [e2, List.length_map] at this; exact this
  refine ⟨os, qs, e1, e2, l1, l2, ho, fun q hq9 => ⟨hq q hq9, ?_⟩, fun H x h => ?_⟩
  · have h := si.lsIn (q.1, dV q.2) (by rw [e2]; exact List.mem_map.mpr ⟨q, hq9, rfl⟩)
    rw [e1, List.length_map] at h
    exact h
  · rw [e1, e2] at h
    exact h
theorem few_of {qs : List (Int × Ov)} {n : Nat} (hn : n ≤ 1000) (hq : ∀ q ∈ qs, OFew q.2 ∧ 0 ≤ q.1 ∧ q.1 < ((n : Nat) : Int)) : ∀ q ∈ qs, OFew q.2 ∧ Few q.1 := fun q hq9 => ⟨(hq q hq9).1, by
  have e : q.1 = ((q.1.toNat : Nat) : Int) := (Int.toNat_of_nonneg (hq q hq9).2.1).symm
  have := (hq q hq9).2
  rw [e]
  exact few_nat (by omega)⟩
section
variable {P : Program} {w : World} {K : PySem.W.Frag} {mg : Str → Option Value} {base : Heap} {CS CD CN : Addr} {f : Addr} {cdv : Value} {A : Around} {outer : List Env} {s : Shared} {H0 : Hp} {E : XK} {rest : List Stmt} {u : TS}
/-- with a second disk that reads as the store's own -/
def V38 (K : PySem.W.Frag) (CS CD : Addr) (σ' : L2.St) (Hx : Hp) : Prop := ∃ (a sc st d h r bd x : Addr) (ss : List Int) (ds0 : List PyData) (m : MD) (es : List Ev) (hg hs : List HF) (os : List Ov) (qs : List (Int × Ov)) (y2 y3 y4 y5 y6 y7 y9 : Option V), σ' = [some (V.ref sc), some (V.ref a), y2, y3, y4, y5, y6, y7, some (.ref st), y9, some (.ref x), none] ∧
  M38 K CS CD Hx a sc st d h r bd ss ds0 m es hg hs 5 ∧ es.length ≤ 100 ∧ OvAt K CD Hx x os qs ∧ x ∉ [st, d, h, r, bd] ∧ os.length = 7 ∧ (∀ q ∈ qs, 0 ≤ q.1 ∧ q.1 < ((os.length : Nat) : Int))
theorem law_ab {fW fR fD : Addr} {dW dR dD : FuncData} (T : STxt K CS CD) (TD : DTxt K CD) (MS : Me P w K mg base 4 CS "disk" ["self"] (sp_disk K CS CD) fD dD) (DW : Df P w K mg base CX0 2 "write_disk" ["disk"] (spWd K CD) fW dW) (DR : Df P w K mg base CX0 6 "read_disk" ["lines"] (spRdk K CD) fR dR) (hr : Room 8 (A.deeper (envOfC "law" (defScope sLaw) s.heap.objs.size f cdv))) (hu : PSs (XL P w K mg base f cdv A outer s H0 E) rest u) :
    ∃ t, PSs (XL P w K mg base f cdv A outer s H0 E) (stL 10 :: stL 11 :: rest) t ∧ ∀ D σ H, W38 K CS CD 5 σ H → (∀ σ' H', V38 K CS CD σ' H' → u D σ' H') → t D σ H := by
  have nd := scLaw.nd
  have h2 : Room 2 _ := hr.mono (by decide)
  have h4 : Room 4 _ := hr.mono (by decide)
  have h6 : Room 6 _ := hr.mono (by decide)
  refine ⟨_, pss_cons (ps_set (i := 10) nd rfl (.inl rfl) (pe_call DR.G h6 rfl DR.g DR.kp DR.b .nil pass0 (pa_cons (pe_call DW.G h2 rfl DW.g DW.kp DW.b .nil pass0 (pa_cons (pe_meth0 (pv 8) T.cl MS.m MS.G h4 MS.b .nil pass0) pa_nil)) pa_nil)))
    (pss_cons (ps_if (PW.pt (pw_or (pt_cmpR (op_neD hr.units) (pe_fld (pv 10) rfl) (pe_fld (pe_meth0 (pv 8) T.cl MS.m MS.G h4 MS.b .nil pass0) rfl) (nomark _))
      (pw_or1 (pt_cmpR (op_neD hr.units) (pe_fld (pv 10) rfl) (pe_fld (pe_meth0 (pv 8) T.cl MS.m MS.G h4 MS.b .nil pass0) rfl) (nomark _))))) (pss_one (ps_ret pe_bl)) pss_nil)
    hu), fun D σ H hI nx => ?_⟩
  obtain ⟨a, sc, st, d, h, r, bd, ss, ds0, m, es, hg, hs, y2, y3, y4, y5, y6, y7, y9, rfl, M, hel⟩ := hI
  have si := M.B.si
  have hlen := si.len
  obtain ⟨os, qs, eo, eq, hol, hql, ho, hq, hov⟩ := ov_of (K := K) (CD := CD) si M.sm
  obtain ⟨oh1, oh2⟩ := os_shape os
  obtain ⟨qh1, qh2⟩ := qs_shape qs
  obtain ⟨dx, beg, tr, gv, qv, e1, _⟩ := M.B.A.ex
  refine ⟨_, rfl, st, dx, _, rfl, e1, zip_no (by decide +kernel), st, d, h, r, m, rfl, M.B.A, by omega, by omega, fun x1 H1 s1 hx1 D1 => ?_⟩
  refine ⟨x1, os, qs, rfl, hov _ _ D1, ho, few_of (by omega) hq, by omega, by omega, fun p H2 s2 hp => ?_⟩
  refine ⟨p, os, qs, rfl, .inr hp, by omega, by omega, by omega, ho, hq, fun x H3 s3 hx D3 => ?_⟩
  have s03 := (s1.trans s2).trans s3
  have M3 := M.same s03
  obtain ⟨dx3, m3, sa3, la3, z1, z2, z3⟩ := D3.parts
  obtain ⟨dxa, bega, tra, gva, qva, f1, _⟩ := M3.B.A.ex
  have hx0 : H x = none := (s1.trans s2).free hx
  refine ⟨_, rfl, x, CD, dx3, _, _, rfl, z1, TD.cl, TD.nS, fl_settled _ _ _, _, rfl, st, dxa, _, rfl, f1, zip_no (by decide +kernel), st, d, h, r, m, rfl, M3.B.A, by omega, by omega, fun x4 H4 s4 hx4 D4 => ?_⟩
  have O4 := hov _ _ D4
  have O34 := D3.same s4
  obtain ⟨dx4, m4, sa4, la4, w1, w2, w3⟩ := O4.parts
  obtain ⟨dx5, m5, sa5, la5, v1, v2, v3⟩ := O34.parts
  have z2' := dp_same (tp_same s4) _ _ z2
  have eso : PyData.eqv (.tuple (os.map dV)) (.tuple (os.map dV)) = true := SeqAt.eqv_refl _ (by simp only [PyData.canLay0]; exact oh1)
  have esq : PyData.eqv (.tuple (qs.map fun q => .tuple [.int q.1, dV q.2])) (.tuple (qs.map fun q => .tuple [.int q.1, dV q.2])) = true := SeqAt.eqv_refl _ (by simp only [PyData.canLay0]; exact qh1)
  refine ⟨x4, CD, dx4, _, _, rfl, w1, TD.cl, TD.nS, fl_settled _ _ _, _, _, dp_same tp_le _ _ z2', dp_same tp_le _ _ w2, shaped_tup oh1 (by omega), shaped_tup oh1 (by omega), false, ?_, iteF ?_⟩
  · rw [eso]
    rfl
  have M4 := M3.same s4
  obtain ⟨dxb, begb, trb, gvb, qvb, g1, _⟩ := M4.B.A.ex
  refine ⟨_, rfl, x, CD, dx5, _, _, rfl, v1, TD.cl, TD.nL, fl_loose _ _ _, _, rfl, st, dxb, _, rfl, g1, zip_no (by decide +kernel), st, d, h, r, m, rfl, M4.B.A, by omega, by omega, fun x5 H5 s5 hx5 D5 => ?_⟩
  have O5 := hov _ _ D5
  obtain ⟨dx6, m6, sa6, la6, t1, t2, t3⟩ := O5.parts
  refine ⟨x5, CD, dx6, _, _, rfl, t1, TD.cl, TD.nL, fl_loose _ _ _, _, _, dp_same tp_le _ _ (dp_same (tp_same s5) _ _ v3), dp_same tp_le _ _ t3, shaped_tup qh1 (by omega), shaped_tup qh1 (by omega), false, ?_, iteF ?_⟩
  · rw [esq]
    rfl
  refine nx _ _ ⟨a, sc, st, d, h, r, bd, x, ss, ds0, m, es, hg, hs, os, qs, y2, y3, y4, y5, y6, y7, y9, rfl, M4.same s5, by omega, O34.same s5, ?_, by omega, fun q hq9 => (hq q hq9).2⟩
  obtain ⟨dx0, beg0, tr0, gv0, qv0, x10, _⟩ := M.B.A.ex
  obtain ⟨sv0, lv0, ⟨dxd, ad, bd', tsd, x20, _⟩, _⟩ := M.B.A.dk
  obtain ⟨th, x30, _⟩ := M.B.A.hd
  obtain ⟨tr', x40, _⟩ := M.B.A.rd
  obtain ⟨svb, lvb, ⟨dxb5, ab, bb, tsb, x50, _⟩, _⟩ := M.B.db
  intro z
  simp only [List.mem_cons, List.not_mem_nil, or_false] at z
  rcases z with z | z | z | z | z
  · rw [z, x10] at hx0; cases hx0
  · rw [z, x20] at hx0; cases hx0
  · rw [z, x30] at hx0; cases hx0
  · rw [z, x40] at hx0; cases hx0
  · rw [z, x50] at hx0; cases hx0
theorem law_ce {fW fR fD fB fY fO fH : Addr} {dW dR dD dB dY dO dH : FuncData} (T : STxt K CS CD) (TD : DTxt K CD) (MS : Me P w K mg base 4 CS "disk" ["self"] (sp_disk K CS CD) fD dD) (DW : Df P w K mg base CX0 2 "write_disk" ["disk"] (spWd K CD) fW dW) (DR : Df P w K mg base CX0 6 "read_disk" ["lines"] (spRdk K CD) fR dR)
    (MB : Me P w K mg base 1 CD "barrier" ["self"] (spBrO K CD) fB dB) (MY : Me P w K mg base 8 CS "sync" ["self"] (sp_sync K CS CD) fY dY) (DO : Df P w K mg base (L2.CX P w) 8 "open_store" ["disk", "plates", "slots"] (sp_open K CS CD CN) fO dO) (MH : Me P w K mg base 1 CS "home" ["self"] (sp_home K CS CD) fH dH)
    (hr : Room 8 (A.deeper (envOfC "law" (defScope sLaw) s.heap.objs.size f cdv))) :
    ∃ t, PSs (XL P w K mg base f cdv A outer s H0 E) [stL 12, stL 13, stL 14] t ∧ ∀ D σ H, V38 K CS CD σ H → (∀ H', D.rt (.bl true) H') → t D σ H := by
  have nd := scLaw.nd
  have h1 : Room 1 _ := hr.mono (by decide)
  have h2 : Room 2 _ := hr.mono (by decide)
  have h4 : Room 4 _ := hr.mono (by decide)
  have h6 : Room 6 _ := hr.mono (by decide)
  have hU := hr.units
  refine ⟨_, pss_cons (ps_expr (pe_meth0 (pv 10) TD.cl MB.m MB.G h1 MB.b .nil pass0))
    (pss_cons (ps_expr (pe_meth0 (pv 8) T.cl MY.m MY.G hr MY.b .nil pass0))
    (pss_one (ps_ret (pe_cmpR (op_eqC hU) (pe_meth0 (pe_call DO.G hr rfl DO.g DO.kp DO.b .nil passL (pa_cons (pe_call DR.G h6 rfl DR.g DR.kp DR.b .nil pass0 (pa_cons (pe_call DW.G h2 rfl DW.g DW.kp DW.b .nil pass0 (pa_cons (pe_meth0 (pv 8) T.cl MS.m MS.G h4 MS.b .nil pass0) pa_nil)) pa_nil)) (pa_cons pe_int (pa_cons pe_int pa_nil)))) T.cl MH.m MH.G h1 MH.b .nil pass0)
      (pe_meth0 (pv 8) T.cl MH.m MH.G h1 MH.b .nil pass0) (nomark _))))), fun D σ H hI nx => ?_⟩
  obtain ⟨a, sc, st, d, h, r, bd, x, ss, ds0, m, es, hg, hs, os, qs, y2, y3, y4, y5, y6, y7, y9, rfl, M, hel, Dx, hnx, hol, hqi⟩ := hI
  have si := M.B.si
  obtain ⟨dx0, m0, sa0, la0, x1, _⟩ := Dx.parts
  have nx' : ∀ y ∈ [st, d, h, r, bd], y ∉ [x] := fun y hy z => hnx (by rw [List.mem_singleton.mp z] at hy; exact hy)
  refine ⟨_, rfl, x, dx0, _, rfl, x1, fl_no _ _ _ (by decide +kernel) (by decide +kernel) (by decide +kernel), x, os, qs, rfl, Dx, hqi, by omega, fun H1 f1 D1 => ?_⟩
  have B1 := M.B.fr f1 (nx' st (by simp)) (nx' d (by simp)) (nx' h (by simp)) (nx' r (by simp)) (nx' bd (by simp))
  obtain ⟨dx, beg, tr, gv, qv, e1, _⟩ := B1.A.ex
  obtain ⟨xsp, ysp, psp, sip, hxp, _, _⟩ := si.push
  obtain ⟨xs2, ys2, ps2, si2, hx2, _, hsev, hdof⟩ := si.sync
  refine ⟨_, rfl, st, dx, _, rfl, e1, zip_no (by decide +kernel), st, d, h, r, m, rfl, B1.A, si.pok (by omega), sip.barOk (by rw [List.length_append]; omega), fun H2 r2 f2 hr2 A2 => ?_⟩
  have sm2 := (M.sm.push (by decide)).bar
  have els : m.push.barrier.ls = [] := rfl
  generalize m.push.barrier = m2 at si2 sm2 A2 els hdof
  generalize es ++ xs2 = es2 at si2 hsev
  have hlen := si2.len
  obtain ⟨os2, qs2, eo, eq, hol2, hql, ho, hq, hov⟩ := ov_of (K := K) (CD := CD) si2 sm2
  obtain ⟨dx2, beg2, tr2, gv2, qv2, g1, _⟩ := A2.ex
  refine ⟨_, rfl, st, dx2, _, rfl, g1, zip_no (by decide +kernel), st, d, h, r2, m2, rfl, A2, by omega, by omega, fun x3 H3 s3 hx3 D3 => ?_⟩
  refine ⟨x3, os2, qs2, rfl, hov _ _ D3, ho, few_of (by omega) hq, by omega, by omega, fun p H4 s4 hp => ?_⟩
  refine ⟨p, os2, qs2, rfl, .inr hp, by omega, by omega, by omega, ho, hq, fun y H5 s5 hy D5 => ?_⟩
  have D5' : DkAt K CD H5 y m2.ds [] := by
    have h : DkAt K CD H5 y (os2.map dV) (qs2.map fun q => (q.1, dV q.2)) := D5
    rw [← eo, ← eq, els] at h
    exact h
  have fl : FallD m2.ds [] (allCh []) m2.ds := settle_fall (ls := []) (ds := m2.ds) .nil fun q hq => by cases hq
  obtain ⟨ag, gg, tg, zg, R⟩ := si2.fall (q := es2.length) (Nat.le_refl _) (ch := allCh []) (fs := m2.ds) (by rw [List.take_length, si2.rp, els]; exact fl)
  rw [List.take_length, si2.rp, els] at R
  have hk : dof m2.ps (gw m2.ps (sev es2 + fb ([] : Lw) (allCh []))) = hs.length - 1 := by
    have h0 : fb ([] : Lw) (allCh []) = 0 := rfl
    rw [h0, hsev, si2.gwl (by omega)]
    exact hdof
  have R' : RG 2 3 m2.ds ag gg tg zg (hs.getD (dof m2.ps (gw m2.ps (sev es2 + fb ([] : Lw) (allCh [])))) default) := R
  rw [hk] at R'
  have hread := R'.read
  refine ⟨y, 2, 3, m2.ds, rfl, D5', by omega, by omega, by omega, by omega, fun z => (by rw [hread] at z; cases z), fun a1 g1' t1 z => ?_⟩
  rw [hread] at z
  injection z with z
  injection z with z1 z
  injection z with z2 z
  injection z with z3 _
  have z3' : tg = t1 := Int.ofNat.inj z3
  subst z1 z2 z3'
  obtain ⟨hokw, xs5, _, _, _, h5m⟩ := SI.open' (V.ref y) R' (show 2 ≤ 60 by omega) (show 3 ≤ 60 by omega)
  refine ⟨hokw, fun H6 st5 d5 h5' r5 s6 hst5 _ _ _ A5 => ?_⟩
  obtain ⟨dx5, beg5, tr5, gv5, qv5, w1, _⟩ := A5.ex
  refine ⟨st5, dx5, _, rfl, w1, zip_no (by decide +kernel), st5, d5, h5', r5, _, rfl, A5, fun p7 H7 s7 hp7 Dc => ?_⟩
  rw [h5m] at Dc
  have A7 := A2.fr (xs := []) (.of ((((s3.trans s4).trans s5).trans s6).trans s7)) (by simp) (by simp) (by simp) (by simp)
  obtain ⟨dx7, beg7, tr7, gv7, qv7, v1, _⟩ := A7.ex
  refine ⟨_, rfl, st, dx7, _, rfl, v1, zip_no (by decide +kernel), st, d, h, r2, m2, rfl, A7, fun p8 H8 s8 hp8 Dc8 => ?_⟩
  rw [si2.hm] at Dc8
  obtain ⟨ts, t1, t2, t3⟩ := Dc
  obtain ⟨us, u1, u2, u3⟩ := Dc8
  refine ⟨p7, p8, ts, us, rfl, rfl, s8 _ _ t1, u1, fun t ht => dp_same tp_le _ _ (dp_same (tp_same s8) _ _ (t3 t ht)), fun t ht => dp_same tp_le _ _ (u3 t ht), ?_⟩
  rw [t2, u2, eqC_self (canon_nodup _ _)]
  exact nx _
end
end Pf

set_option Elab.async false
set_option linter.all false
set_option maxRecDepth 100000
set_option maxHeartbeats 8000000
namespace Pf
open PySem PySem.Spec PyProof.Rows L2 TL
theorem okOr {P : Program} {w : World} {K : PySem.W.Frag} {mg : Str → Option Value} {base : Heap} {CX : CXT} {k : Nat} {f : Addr} {fd : FuncData} {ps : List Str} {sp0 sp1 : Sp} (F0 : FnOk P w K mg base CX k f fd ps sp0) (F1 : FnOk P w K mg base CX k f fd ps sp1) :
    FnOk P w K mg base CX k f fd ps (fun vs H Q E => sp0 vs H Q E ∨ sp1 vs H Q E) :=
  ⟨fun vs H Q E h => h.elim (F0.len _ _ _ _) (F1.len _ _ _ _), fun A outer s H args us vs Q E hr he hb hv h => h.elim (F0.run A outer s H args us vs Q E hr he hb hv) (F1.run A outer s H args us vs Q E hr he hb hv)⟩
section
variable {P : Program} {w : World} {K : PySem.W.Frag} {mg : Str → Option Value} {base : Heap} {CS CD CN : Addr}
def spLaw (K : PySem.W.Frag) : Sp := fun vs H Q _ => ∃ (a : Addr) (ns : List Int), vs = [.ref a] ∧ SqL K H a (ns.map V.int) ∧ ns.length ≤ 63 ∧ ∀ H', Q (.bl true) H'
theorem ok_law {f fDk fX fW fR fF fT fU fZ fS fB fY fO fH : Addr} {fd dDk dX dW dR dF dT dU dZ dS dB dY dO dH : FuncData} (F : Fun K "law" "law" sLaw f fd) (T : STxt K CS CD) (TD : DTxt K CD)
    (DD : Df P w K mg base CX0 4 "_law_disk" ["draw"] (spLDisk K CD) fDk dDk) (DX : Df P w K mg base CX0 1 "_law_text" ["value"] (spVt K) fX dX)
    (DW : Df P w K mg base CX0 2 "write_disk" ["disk"] (spWd K CD) fW dW) (DR : Df P w K mg base CX0 6 "read_disk" ["lines"] (spRdk K CD) fR dR)
    (DF : Df P w K mg base (L2.CX P w) 8 "fresh_store" ["plates", "slots", "home"] (sp_fresh K CS CD CN) fF dF) (DT : Df P w K mg base CX0 2 "_law_take" ["draw", "many"] (spTake K) fT dT)
    (MU : Me P w K mg base 8 CS "put" ["self", "changes"] (sp_put K CS CD) fU dU) (MZ : Me P w K mg base 7 CS "push" ["self"] (sp_push K CS CD) fZ dZ)
    (MS : Me P w K mg base 4 CS "disk" ["self"] (sp_disk K CS CD) fS dS) (MB : Me P w K mg base 1 CD "barrier" ["self"] (spBrO K CD) fB dB) (MY : Me P w K mg base 8 CS "sync" ["self"] (sp_sync K CS CD) fY dY)
    (DO : Df P w K mg base (L2.CX P w) 8 "open_store" ["disk", "plates", "slots"] (sp_open K CS CD CN) fO dO) (MH : Me P w K mg base 1 CS "home" ["self"] (sp_home K CS CD) fH dH)
    (ml : mg "len" = none) (ms : mg "str" = none) (me : mg "enumerate" = none) (mL : mg "list" = none) (mr : mg "range" = none) :
    FnOk P w K mg base CX0 9 f fd ["script"] (spLaw K) := by
  refine F.ok scLaw (fun vs H Q E h => ?_) (fun cdv A outer s H vs Q E hr h => ?_)
  · obtain ⟨a, ns, rfl, _⟩ := h
    rfl
  · obtain ⟨a, ns, rfl, hS, hlen, k⟩ := h
    obtain ⟨te, he, qe⟩ := law_ce (P := P) (w := w) (K := K) (mg := mg) (base := base) (f := f) (cdv := cdv) (A := A) (outer := outer) (s := s) (H0 := H) (E := E) T TD MS DW DR MB MY DO MH hr
    obtain ⟨tb, hb, qb⟩ := law_ab T TD MS DW DR hr he
    obtain ⟨t9, h9, q9⟩ := law_9 T DT MU MZ mr hr hb
    obtain ⟨t8, h8, q8⟩ := law_8 T DF hr h9
    obtain ⟨t5, h5, q5⟩ := law_57 TD DW DR mL hr h8
    obtain ⟨t0, h0, q0⟩ := law_04 TD DD DX ml ms me hr h5
    refine ⟨t0, PSs.nox h0, q0 _ _ a ns hS hlen fun a2 d du os qs y4 y5 H1 D1 K1 hdu n1 n6 hql ho hq => q5 _ _ _ _ _ _ _ _ _ _ _ D1 K1 hdu n1 n6 hql ho hq fun y2 y3 y4 y5 y6 y7 H2 D2 => q8 _ _ _ _ _ _ _ _ _ _ _ D2 fun σ3 H3 w3 => q9 _ _ _ w3 fun σ4 H4 w4 => qb _ _ _ w4 fun σ5 H5 v5 => qe _ _ _ v5 k⟩
end
end Pf

set_option Elab.async false
set_option linter.all false
set_option maxRecDepth 100000
set_option maxHeartbeats 8000000
namespace Pf
open PySem PySem.Spec PyProof.Rows L2
/-! ### what the top has written -/
theorem exm_own {K : PySem.W.Frag} {S : Addr} (h1 : PySem.W.subIn K (.ref S) (.type "BaseException") = some true) (h2 : PySem.W.isClsIn K S = true) (h3 : PySem.W.typeIn K (.ref S) = some (.type "type")) (h4 : PySem.W.subIn K (.ref S) (.ref S) = some true) : PySem.W.exmOne K (.ref S) (.ref S) = some true := by
  have g1 : (PySem.W.subIn K (.ref S) (.type "BaseException") == some true) = true := by rw [h1] <;> rfl
  have g2 : ((PySem.W.clsIn K S).isSome && PySem.W.typeIn K (.ref S) == some (.type "type")) = true := by
    have g3 : (PySem.W.clsIn K S).isSome = true := h2
    rw [g3, h3] <;> rfl
  show (if (PySem.W.subIn K (.ref S) (.type "BaseException") == some true) = true then (if ((PySem.W.clsIn K S).isSome && PySem.W.typeIn K (.ref S) == some (.type "type")) = true then PySem.W.subIn K (.ref S) (.ref S) else none) else none) = some true
  rw [if_pos g1, if_pos g2]
  exact h4
theorem all_mk {l : PySem.W.OpenLaw} {w : World} {K : PySem.W.Frag} {h : Heap} {mg : Str → Option Value} {fa : Addr} (X : K.In h) (G : h.Ns mainGlobals mg) (hfa : mg "law" = some (.ref fa))
    {CD CS CN T0 aN aF f0 f1 f2 f3 f4 f5 f6 f7 f8 f9 f10 f11 f12 f13 f14 f15 f16 f17 f18 f19 f20 f21 f22 f23 f24 f25 f26 f27 f28 f29 f30 f31 f32 f33 f34 f35 f36 f37 f38 f39 f40 f41 f42 f43 f44 f45 f46 f47 f48 f49 f50 f51 f52 f53 : Addr}
    {od0 an0 od1 an1 od2 an2 od3 an3 od4 an4 od5 an5 od6 an6 od7 an7 od8 an8 od9 an9 od10 an10 od11 an11 od12 an12 od13 an13 od14 an14 od15 an15 od16 an16 od17 an17 od18 an18 od19 an19 od20 an20 od21 an21 od22 an22 od23 an23 od24 an24 od25 an25 od26 an26 od27 an27 od28 an28 od29 an29 od30 an30 od31 an31 od32 an32 od33 an33 od34 an34 od35 an35 od36 an36 od37 an37 od38 an38 od39 an39 od40 an40 od41 an41 od42 an42 od43 an43 od44 an44 od45 an45 od46 an46 od47 an47 od48 an48 od49 an49 od50 an50 od51 an51 od52 an52 od53 an53 : Option Addr}
    {sl0 sl1 sl2 sl3 sl4 sl5 sl6 sl7 sl8 sl9 sl10 sl11 sl12 sl13 sl14 sl15 sl16 sl17 sl18 sl19 sl20 sl21 sl22 sl23 sl24 sl25 sl26 sl27 sl28 sl29 sl30 sl31 sl32 sl33 sl34 sl35 sl36 sl37 sl38 sl39 sl40 sl41 sl42 sl43 sl44 sl45 sl46 sl47 sl48 sl49 sl50 sl51 sl52 sl53 : Array (Option Value)}
    {oc0 kV0 dc0 pm0 cd0 ct0 oc1 kV1 dc1 pm1 cd1 ct1 oc2 kV2 dc2 pm2 cd2 ct2 oc3 kV3 dc3 pm3 cd3 ct3 oc4 kV4 dc4 pm4 cd4 ct4 oc5 kV5 dc5 pm5 cd5 ct5 oc6 kV6 dc6 pm6 cd6 ct6 oc7 kV7 dc7 pm7 cd7 ct7 oc8 kV8 dc8 pm8 cd8 ct8 oc9 kV9 dc9 pm9 cd9 ct9 oc10 kV10 dc10 pm10 cd10 ct10 oc11 kV11 dc11 pm11 cd11 ct11 oc12 kV12 dc12 pm12 cd12 ct12 oc13 kV13 dc13 pm13 cd13 ct13 oc14 kV14 dc14 pm14 cd14 ct14 oc15 kV15 dc15 pm15 cd15 ct15 oc16 kV16 dc16 pm16 cd16 ct16 oc17 kV17 dc17 pm17 cd17 ct17 oc18 kV18 dc18 pm18 cd18 ct18 oc19 kV19 dc19 pm19 cd19 ct19 oc20 kV20 dc20 pm20 cd20 ct20 oc21 kV21 dc21 pm21 cd21 ct21 oc22 kV22 dc22 pm22 cd22 ct22 oc23 kV23 dc23 pm23 cd23 ct23 oc24 kV24 dc24 pm24 cd24 ct24 oc25 kV25 dc25 pm25 cd25 ct25 oc26 kV26 dc26 pm26 cd26 ct26 oc27 kV27 dc27 pm27 cd27 ct27 oc28 kV28 dc28 pm28 cd28 ct28 oc29 kV29 dc29 pm29 cd29 ct29 oc30 kV30 dc30 pm30 cd30 ct30 oc31 kV31 dc31 pm31 cd31 ct31 oc32 kV32 dc32 pm32 cd32 ct32 oc33 kV33 dc33 pm33 cd33 ct33 oc34 kV34 dc34 pm34 cd34 ct34 oc35 kV35 dc35 pm35 cd35 ct35 oc36 kV36 dc36 pm36 cd36 ct36 oc37 kV37 dc37 pm37 cd37 ct37 oc38 kV38 dc38 pm38 cd38 ct38 oc39 kV39 dc39 pm39 cd39 ct39 oc40 kV40 dc40 pm40 cd40 ct40 oc41 kV41 dc41 pm41 cd41 ct41 oc42 kV42 dc42 pm42 cd42 ct42 oc43 kV43 dc43 pm43 cd43 ct43 oc44 kV44 dc44 pm44 cd44 ct44 oc45 kV45 dc45 pm45 cd45 ct45 oc46 kV46 dc46 pm46 cd46 ct46 oc47 kV47 dc47 pm47 cd47 ct47 oc48 kV48 dc48 pm48 cd48 ct48 oc49 kV49 dc49 pm49 cd49 ct49 oc50 kV50 dc50 pm50 cd50 ct50 oc51 kV51 dc51 pm51 cd51 ct51 oc52 kV52 dc52 pm52 cd52 ct52 oc53 kV53 dc53 pm53 cd53 ct53 : Value}
    {ddT ddN ddF : Option Addr} {nT nN nF : Nat} {slT slN slF : Array (Option Value)} {tk0 tk1 tk2 tk3 tn0 tn1 tn2 tn3 tn4 tn5 tn6 tn7 tf0 tf1 tf2 : Tok}
    {tkF tkM tkP : Tok}
    (aD : PySem.W.nsIn K mainGlobals "Disk" = some (some (.ref CD)))
    (aS : PySem.W.nsIn K mainGlobals "Store" = some (some (.ref CS)))
    (aH : PySem.W.nsIn K mainGlobals "NoHead" = some (some (.ref CN)))
    (xN : PySem.W.excIn K CN [.type "Exception", .type "BaseException", .type "object"] "Exception.__new__" = true)
    (kN : PySem.W.keepIn K (.ref CN) = true)
    (bN : PySem.W.subIn K (.ref CN) (.type "BaseException") = some true)
    (tN : PySem.W.typeIn K (.ref CN) = some (.type "type"))
    (iN : PySem.W.isClsIn K CN = true)
    (sN : PySem.W.subIn K (.ref CN) (.ref CN) = some true)
    (a0 : PySem.W.nsIn K mainGlobals "is_whole" = some (some (.ref f0)))
    (l0 : K.lookup f0 = some ⟨oc0, od0, .func (PySem.W.fnOf "is_whole" "is_whole" (defArgs sWhole) (defBody sWhole) (defScope sWhole) (.ref T0) kV0 dc0 pm0 an0 cd0 ct0), sl0⟩)
    (lT : K.lookup T0 = some ⟨.type "tuple", ddT, .seq #[.none, .none] nT, slT⟩)
    (c0 : PySem.W.codeIn K cd0 "is_whole" = true)
    (k0 : PySem.W.keepIn K (.ref f0) = true)
    (aNo : PySem.W.nsIn K mainGlobals "NOUGHTS" = some (some (.ref aN)))
    (lNo : K.lookup aN = some ⟨.type "tuple", ddN, .seq #[.int 0 tn0, .int 0 tn1, .int 0 tn2, .int 0 tn3, .int 0 tn4, .int 0 tn5, .int 0 tn6, .int 0 tn7] nN, slN⟩)
    (aFi : PySem.W.nsIn K mainGlobals "FIRST_HEAD" = some (some (.ref aF)))
    (lFi : K.lookup aF = some ⟨.type "tuple", ddF, .seq #[.int 0 tf0, .int 0 tf1, .int 0 tf2] nF, slF⟩)
    (a1 : PySem.W.nsIn K mainGlobals "copy_of" = some (some (.ref f1)))
    (l1 : K.lookup f1 = some ⟨oc1, od1, .func (PySem.W.fnOf "copy_of" "copy_of" (defArgs sCopy) (defBody sCopy) (defScope sCopy) .none kV1 dc1 pm1 an1 cd1 ct1), sl1⟩)
    (c1 : PySem.W.codeIn K cd1 "copy_of" = true)
    (k1 : PySem.W.keepIn K (.ref f1) = true)
    (a2 : PySem.W.nsIn K mainGlobals "is_number_word" = some (some (.ref f2)))
    (l2 : K.lookup f2 = some ⟨oc2, od2, .func (PySem.W.fnOf "is_number_word" "is_number_word" (defArgs sNw) (defBody sNw) (defScope sNw) .none kV2 dc2 pm2 an2 cd2 ct2), sl2⟩)
    (c2 : PySem.W.codeIn K cd2 "is_number_word" = true)
    (k2 : PySem.W.keepIn K (.ref f2) = true)
    (a3 : PySem.W.nsIn K mainGlobals "is_short_number_word" = some (some (.ref f3)))
    (l3 : K.lookup f3 = some ⟨oc3, od3, .func (PySem.W.fnOf "is_short_number_word" "is_short_number_word" (defArgs sSnw) (defBody sSnw) (defScope sSnw) .none kV3 dc3 pm3 an3 cd3 ct3), sl3⟩)
    (c3 : PySem.W.codeIn K cd3 "is_short_number_word" = true)
    (k3 : PySem.W.keepIn K (.ref f3) = true)
    (a4 : PySem.W.nsIn K mainGlobals "is_number_within" = some (some (.ref f4)))
    (l4 : K.lookup f4 = some ⟨oc4, od4, .func (PySem.W.fnOf "is_number_within" "is_number_within" (defArgs sNin) (defBody sNin) (defScope sNin) .none kV4 dc4 pm4 an4 cd4 ct4), sl4⟩)
    (c4 : PySem.W.codeIn K cd4 "is_number_within" = true)
    (k4 : PySem.W.keepIn K (.ref f4) = true)
    (a5 : PySem.W.nsIn K mainGlobals "figures_of" = some (some (.ref f5)))
    (l5 : K.lookup f5 = some ⟨oc5, od5, .func (PySem.W.fnOf "figures_of" "figures_of" (defArgs sFigs) (defBody sFigs) (defScope sFigs) .none kV5 dc5 pm5 an5 cd5 ct5), sl5⟩)
    (c5 : PySem.W.codeIn K cd5 "figures_of" = true)
    (k5 : PySem.W.keepIn K (.ref f5) = true)
    (a6 : PySem.W.nsIn K mainGlobals "word_at" = some (some (.ref f6)))
    (l6 : K.lookup f6 = some ⟨oc6, od6, .func (PySem.W.fnOf "word_at" "word_at" (defArgs sWordAt) (defBody sWordAt) (defScope sWordAt) .none kV6 dc6 pm6 an6 cd6 ct6), sl6⟩)
    (c6 : PySem.W.codeIn K cd6 "word_at" = true)
    (k6 : PySem.W.keepIn K (.ref f6) = true)
    (a7 : PySem.W.nsIn K mainGlobals "value_text" = some (some (.ref f7)))
    (l7 : K.lookup f7 = some ⟨oc7, od7, .func (PySem.W.fnOf "value_text" "value_text" (defArgs sVt) (defBody sVt) (defScope sVt) .none kV7 dc7 pm7 an7 cd7 ct7), sl7⟩)
    (c7 : PySem.W.codeIn K cd7 "value_text" = true)
    (k7 : PySem.W.keepIn K (.ref f7) = true)
    (a8 : PySem.W.nsIn K mainGlobals "write_disk" = some (some (.ref f8)))
    (l8 : K.lookup f8 = some ⟨oc8, od8, .func (PySem.W.fnOf "write_disk" "write_disk" (defArgs sWd) (defBody sWd) (defScope sWd) .none kV8 dc8 pm8 an8 cd8 ct8), sl8⟩)
    (c8 : PySem.W.codeIn K cd8 "write_disk" = true)
    (k8 : PySem.W.keepIn K (.ref f8) = true)
    (a9 : PySem.W.nsIn K mainGlobals "is_value_word" = some (some (.ref f9)))
    (l9 : K.lookup f9 = some ⟨oc9, od9, .func (PySem.W.fnOf "is_value_word" "is_value_word" (defArgs sIvw) (defBody sIvw) (defScope sIvw) .none kV9 dc9 pm9 an9 cd9 ct9), sl9⟩)
    (c9 : PySem.W.codeIn K cd9 "is_value_word" = true)
    (k9 : PySem.W.keepIn K (.ref f9) = true)
    (a10 : PySem.W.nsIn K mainGlobals "value_of" = some (some (.ref f10)))
    (l10 : K.lookup f10 = some ⟨oc10, od10, .func (PySem.W.fnOf "value_of" "value_of" (defArgs sVo) (defBody sVo) (defScope sVo) .none kV10 dc10 pm10 an10 cd10 ct10), sl10⟩)
    (c10 : PySem.W.codeIn K cd10 "value_of" = true)
    (k10 : PySem.W.keepIn K (.ref f10) = true)
    (a11 : PySem.W.nsIn K mainGlobals "check_word" = some (some (.ref f11)))
    (l11 : K.lookup f11 = some ⟨oc11, od11, .func (PySem.W.fnOf "check_word" "check_word" (defArgs sCw) (defBody sCw) (defScope sCw) .none kV11 dc11 pm11 an11 cd11 ct11), sl11⟩)
    (c11 : PySem.W.codeIn K cd11 "check_word" = true)
    (k11 : PySem.W.keepIn K (.ref f11) = true)
    (a12 : PySem.W.nsIn K mainGlobals "read_many" = some (some (.ref f12)))
    (l12 : K.lookup f12 = some ⟨oc12, od12, .func (PySem.W.fnOf "read_many" "read_many" (defArgs sRm) (defBody sRm) (defScope sRm) .none kV12 dc12 pm12 an12 cd12 ct12), sl12⟩)
    (c12 : PySem.W.codeIn K cd12 "read_many" = true)
    (k12 : PySem.W.keepIn K (.ref f12) = true)
    (a13 : PySem.W.nsIn K mainGlobals "read_line" = some (some (.ref f13)))
    (l13 : K.lookup f13 = some ⟨oc13, od13, .func (PySem.W.fnOf "read_line" "read_line" (defArgs sRl) (defBody sRl) (defScope sRl) .none kV13 dc13 pm13 an13 cd13 ct13), sl13⟩)
    (c13 : PySem.W.codeIn K cd13 "read_line" = true)
    (k13 : PySem.W.keepIn K (.ref f13) = true)
    (a14 : PySem.W.nsIn K mainGlobals "read_disk" = some (some (.ref f14)))
    (l14 : K.lookup f14 = some ⟨oc14, od14, .func (PySem.W.fnOf "read_disk" "read_disk" (defArgs sRdk) (defBody sRdk) (defScope sRdk) .none kV14 dc14 pm14 an14 cd14 ct14), sl14⟩)
    (c14 : PySem.W.codeIn K cd14 "read_disk" = true)
    (k14 : PySem.W.keepIn K (.ref f14) = true)
    (a15 : PySem.W.nsIn K mainGlobals "head_plate" = some (some (.ref f15)))
    (l15 : K.lookup f15 = some ⟨oc15, od15, .func (PySem.W.fnOf "head_plate" "head_plate" (defArgs sHp) (defBody sHp) (defScope sHp) .none kV15 dc15 pm15 an15 cd15 ct15), sl15⟩)
    (c15 : PySem.W.codeIn K cd15 "head_plate" = true)
    (k15 : PySem.W.keepIn K (.ref f15) = true)
    (a16 : PySem.W.nsIn K mainGlobals "is_head" = some (some (.ref f16)))
    (l16 : K.lookup f16 = some ⟨oc16, od16, .func (PySem.W.fnOf "is_head" "is_head" (defArgs sIsHead) (defBody sIsHead) (defScope sIsHead) .none kV16 dc16 pm16 an16 cd16 ct16), sl16⟩)
    (c16 : PySem.W.codeIn K cd16 "is_head" = true)
    (k16 : PySem.W.keepIn K (.ref f16) = true)
    (a17 : PySem.W.nsIn K mainGlobals "read_head" = some (some (.ref f17)))
    (l17 : K.lookup f17 = some ⟨oc17, od17, .func (PySem.W.fnOf "read_head" "read_head" (defArgs sRh) (defBody sRh) (defScope sRh) .none kV17 dc17 pm17 an17 cd17 ct17), sl17⟩)
    (c17 : PySem.W.codeIn K cd17 "read_head" = true)
    (k17 : PySem.W.keepIn K (.ref f17) = true)
    (a18 : PySem.W.nsIn K mainGlobals "is_cells" = some (some (.ref f18)))
    (l18 : K.lookup f18 = some ⟨oc18, od18, .func (PySem.W.fnOf "is_cells" "is_cells" (defArgs sCells) (defBody sCells) (defScope sCells) .none kV18 dc18 pm18 an18 cd18 ct18), sl18⟩)
    (c18 : PySem.W.codeIn K cd18 "is_cells" = true)
    (k18 : PySem.W.keepIn K (.ref f18) = true)
    (a19 : PySem.W.nsIn K mainGlobals "checked_changes" = some (some (.ref f19)))
    (l19 : K.lookup f19 = some ⟨oc19, od19, .func (PySem.W.fnOf "checked_changes" "checked_changes" (defArgs sChk) (defBody sChk) (defScope sChk) .none kV19 dc19 pm19 an19 cd19 ct19), sl19⟩)
    (c19 : PySem.W.codeIn K cd19 "checked_changes" = true)
    (k19 : PySem.W.keepIn K (.ref f19) = true)
    (a20 : PySem.W.nsIn K mainGlobals "slot_plate" = some (some (.ref f20)))
    (l20 : K.lookup f20 = some ⟨oc20, od20, .func (PySem.W.fnOf "slot_plate" "slot_plate" (defArgs sSlot) (defBody sSlot) (defScope sSlot) .none kV20 dc20 pm20 an20 cd20 ct20), sl20⟩)
    (c20 : PySem.W.codeIn K cd20 "slot_plate" = true)
    (k20 : PySem.W.keepIn K (.ref f20) = true)
    (a21 : PySem.W.nsIn K mainGlobals "log_rows" = some (some (.ref f21)))
    (l21 : K.lookup f21 = some ⟨oc21, od21, .func (PySem.W.fnOf "log_rows" "log_rows" (defArgs sRows) (defBody sRows) (defScope sRows) .none kV21 dc21 pm21 an21 cd21 ct21), sl21⟩)
    (c21 : PySem.W.codeIn K cd21 "log_rows" = true)
    (k21 : PySem.W.keepIn K (.ref f21) = true)
    (a22 : PySem.W.nsIn K mainGlobals "is_log_plate" = some (some (.ref f22)))
    (l22 : K.lookup f22 = some ⟨oc22, od22, .func (PySem.W.fnOf "is_log_plate" "is_log_plate" (defArgs sIsLog) (defBody sIsLog) (defScope sIsLog) .none kV22 dc22 pm22 an22 cd22 ct22), sl22⟩)
    (c22 : PySem.W.codeIn K cd22 "is_log_plate" = true)
    (k22 : PySem.W.keepIn K (.ref f22) = true)
    (a23 : PySem.W.nsIn K mainGlobals "whole_group" = some (some (.ref f23)))
    (l23 : K.lookup f23 = some ⟨oc23, od23, .func (PySem.W.fnOf "whole_group" "whole_group" (defArgs sWg) (defBody sWg) (defScope sWg) .none kV23 dc23 pm23 an23 cd23 ct23), sl23⟩)
    (c23 : PySem.W.codeIn K cd23 "whole_group" = true)
    (k23 : PySem.W.keepIn K (.ref f23) = true)
    (a24 : PySem.W.nsIn K mainGlobals "slots_of" = some (some (.ref f24)))
    (l24 : K.lookup f24 = some ⟨oc24, od24, .func (PySem.W.fnOf "slots_of" "slots_of" (defArgs sSlotsOf) (defBody sSlotsOf) (defScope sSlotsOf) .none kV24 dc24 pm24 an24 cd24 ct24), sl24⟩)
    (c24 : PySem.W.codeIn K cd24 "slots_of" = true)
    (k24 : PySem.W.keepIn K (.ref f24) = true)
    (a25 : PySem.W.nsIn K mainGlobals "read_groups" = some (some (.ref f25)))
    (l25 : K.lookup f25 = some ⟨oc25, od25, .func (PySem.W.fnOf "read_groups" "read_groups" (defArgs sRg) (defBody sRg) (defScope sRg) .none kV25 dc25 pm25 an25 cd25 ct25), sl25⟩)
    (c25 : PySem.W.codeIn K cd25 "read_groups" = true)
    (k25 : PySem.W.keepIn K (.ref f25) = true)
    (a26 : PySem.W.nsIn K mainGlobals "last_seen" = some (some (.ref f26)))
    (l26 : K.lookup f26 = some ⟨oc26, od26, .func (PySem.W.fnOf "last_seen" "last_seen" (defArgs sLast) (defBody sLast) (defScope sLast) .none kV26 dc26 pm26 an26 cd26 ct26), sl26⟩)
    (c26 : PySem.W.codeIn K cd26 "last_seen" = true)
    (k26 : PySem.W.keepIn K (.ref f26) = true)
    (a27 : PySem.W.nsIn K mainGlobals "home_plate" = some (some (.ref f27)))
    (l27 : K.lookup f27 = some ⟨oc27, od27, .func (PySem.W.fnOf "home_plate" "home_plate" (defArgs sHomeP) (defBody sHomeP) (defScope sHomeP) .none kV27 dc27 pm27 an27 cd27 ct27), sl27⟩)
    (c27 : PySem.W.codeIn K cd27 "home_plate" = true)
    (k27 : PySem.W.keepIn K (.ref f27) = true)
    (a28 : PySem.W.nsIn K mainGlobals "plates_of_disk" = some (some (.ref f28)))
    (l28 : K.lookup f28 = some ⟨oc28, od28, .func (PySem.W.fnOf "plates_of_disk" "plates_of_disk" (defArgs sPod) (defBody sPod) (defScope sPod) .none kV28 dc28 pm28 an28 cd28 ct28), sl28⟩)
    (c28 : PySem.W.codeIn K cd28 "plates_of_disk" = true)
    (k28 : PySem.W.keepIn K (.ref f28) = true)
    (a29 : PySem.W.nsIn K mainGlobals "last_changes" = some (some (.ref f29)))
    (l29 : K.lookup f29 = some ⟨oc29, od29, .func (PySem.W.fnOf "last_changes" "last_changes" (defArgs sLc) (defBody sLc) (defScope sLc) .none kV29 dc29 pm29 an29 cd29 ct29), sl29⟩)
    (c29 : PySem.W.codeIn K cd29 "last_changes" = true)
    (k29 : PySem.W.keepIn K (.ref f29) = true)
    (a30 : PySem.W.nsIn K mainGlobals "read_home" = some (some (.ref f30)))
    (l30 : K.lookup f30 = some ⟨oc30, od30, .func (PySem.W.fnOf "read_home" "read_home" (defArgs sRhome) (defBody sRhome) (defScope sRhome) .none kV30 dc30 pm30 an30 cd30 ct30), sl30⟩)
    (c30 : PySem.W.codeIn K cd30 "read_home" = true)
    (k30 : PySem.W.keepIn K (.ref f30) = true)
    (a31 : PySem.W.nsIn K mainGlobals "fresh_store" = some (some (.ref f31)))
    (l31 : K.lookup f31 = some ⟨oc31, od31, .func (PySem.W.fnOf "fresh_store" "fresh_store" (defArgs sFresh) (defBody sFresh) (defScope sFresh) .none kV31 dc31 pm31 an31 cd31 ct31), sl31⟩)
    (c31 : PySem.W.codeIn K cd31 "fresh_store" = true)
    (k31 : PySem.W.keepIn K (.ref f31) = true)
    (a32 : PySem.W.nsIn K mainGlobals "open_store" = some (some (.ref f32)))
    (l32 : K.lookup f32 = some ⟨oc32, od32, .func (PySem.W.fnOf "open_store" "open_store" (defArgs sOpen) (defBody sOpen) (defScope sOpen) .none kV32 dc32 pm32 an32 cd32 ct32), sl32⟩)
    (c32 : PySem.W.codeIn K cd32 "open_store" = true)
    (k32 : PySem.W.keepIn K (.ref f32) = true)
    (a33 : PySem.W.nsIn K mainGlobals "_law_number" = some (some (.ref f33)))
    (l33 : K.lookup f33 = some ⟨oc33, od33, .func (PySem.W.fnOf "_law_number" "_law_number" (defArgs sNum) (defBody sNum) (defScope sNum) .none kV33 dc33 pm33 an33 cd33 ct33), sl33⟩)
    (c33 : PySem.W.codeIn K cd33 "_law_number" = true)
    (k33 : PySem.W.keepIn K (.ref f33) = true)
    (a34 : PySem.W.nsIn K mainGlobals "_law_take" = some (some (.ref f34)))
    (l34 : K.lookup f34 = some ⟨oc34, od34, .func (PySem.W.fnOf "_law_take" "_law_take" (defArgs sTake) (defBody sTake) (defScope sTake) .none kV34 dc34 pm34 an34 cd34 ct34), sl34⟩)
    (c34 : PySem.W.codeIn K cd34 "_law_take" = true)
    (k34 : PySem.W.keepIn K (.ref f34) = true)
    (a35 : PySem.W.nsIn K mainGlobals "_law_pick" = some (some (.ref f35)))
    (l35 : K.lookup f35 = some ⟨oc35, od35, .func (PySem.W.fnOf "_law_pick" "_law_pick" (defArgs sPick) (defBody sPick) (defScope sPick) .none kV35 dc35 pm35 an35 cd35 ct35), sl35⟩)
    (c35 : PySem.W.codeIn K cd35 "_law_pick" = true)
    (k35 : PySem.W.keepIn K (.ref f35) = true)
    (a36 : PySem.W.nsIn K mainGlobals "_law_disk" = some (some (.ref f36)))
    (l36 : K.lookup f36 = some ⟨oc36, od36, .func (PySem.W.fnOf "_law_disk" "_law_disk" (defArgs sLDisk) (defBody sLDisk) (defScope sLDisk) .none kV36 dc36 pm36 an36 cd36 ct36), sl36⟩)
    (c36 : PySem.W.codeIn K cd36 "_law_disk" = true)
    (k36 : PySem.W.keepIn K (.ref f36) = true)
    (a37 : PySem.W.nsIn K mainGlobals "_law_text" = some (some (.ref f37)))
    (l37 : K.lookup f37 = some ⟨oc37, od37, .func (PySem.W.fnOf "_law_text" "_law_text" (defArgs sLText) (defBody sLText) (defScope sLText) .none kV37 dc37 pm37 an37 cd37 ct37), sl37⟩)
    (c37 : PySem.W.codeIn K cd37 "_law_text" = true)
    (k37 : PySem.W.keepIn K (.ref f37) = true)
    (a38 : PySem.W.nsIn K mainGlobals "law" = some (some (.ref f38)))
    (l38 : K.lookup f38 = some ⟨oc38, od38, .func (PySem.W.fnOf "law" "law" (defArgs sLaw) (defBody sLaw) (defScope sLaw) .none kV38 dc38 pm38 an38 cd38 ct38), sl38⟩)
    (c38 : PySem.W.codeIn K cd38 "law" = true)
    (k38 : PySem.W.keepIn K (.ref f38) = true)
    (a39 : PySem.W.findIn K (.ref CD) "__init__" = some (some (.ref f39)))
    (i39 : PySem.W.isFn K (.ref f39) = true)
    (l39 : K.lookup f39 = some ⟨oc39, od39, .func (PySem.W.fnOf "__init__" "Disk.__init__" (defArgs sInit) (defBody sInit) (defScope sInit) .none kV39 dc39 pm39 an39 cd39 ct39), sl39⟩)
    (c39 : PySem.W.codeIn K cd39 "Disk.__init__" = true)
    (k39 : PySem.W.keepIn K (.ref f39) = true)
    (a40 : PySem.W.findIn K (.ref CD) "write" = some (some (.ref f40)))
    (i40 : PySem.W.isFn K (.ref f40) = true)
    (l40 : K.lookup f40 = some ⟨oc40, od40, .func (PySem.W.fnOf "write" "Disk.write" (defArgs sWrite) (defBody sWrite) (defScope sWrite) .none kV40 dc40 pm40 an40 cd40 ct40), sl40⟩)
    (c40 : PySem.W.codeIn K cd40 "Disk.write" = true)
    (k40 : PySem.W.keepIn K (.ref f40) = true)
    (a41 : PySem.W.findIn K (.ref CD) "barrier" = some (some (.ref f41)))
    (i41 : PySem.W.isFn K (.ref f41) = true)
    (l41 : K.lookup f41 = some ⟨oc41, od41, .func (PySem.W.fnOf "barrier" "Disk.barrier" (defArgs sBar) (defBody sBar) (defScope sBar) .none kV41 dc41 pm41 an41 cd41 ct41), sl41⟩)
    (c41 : PySem.W.codeIn K cd41 "Disk.barrier" = true)
    (k41 : PySem.W.keepIn K (.ref f41) = true)
    (a42 : PySem.W.findIn K (.ref CD) "now" = some (some (.ref f42)))
    (i42 : PySem.W.isFn K (.ref f42) = true)
    (l42 : K.lookup f42 = some ⟨oc42, od42, .func (PySem.W.fnOf "now" "Disk.now" (defArgs sNow) (defBody sNow) (defScope sNow) .none kV42 dc42 pm42 an42 cd42 ct42), sl42⟩)
    (c42 : PySem.W.codeIn K cd42 "Disk.now" = true)
    (k42 : PySem.W.keepIn K (.ref f42) = true)
    (a43 : PySem.W.findIn K (.ref CD) "check_plate" = some (some (.ref f43)))
    (i43 : PySem.W.isFn K (.ref f43) = true)
    (l43 : K.lookup f43 = some ⟨oc43, od43, .func (PySem.W.fnOf "check_plate" "Disk.check_plate" (defArgs sCheck) (defBody sCheck) (defScope sCheck) .none kV43 dc43 pm43 an43 cd43 ct43), sl43⟩)
    (c43 : PySem.W.codeIn K cd43 "Disk.check_plate" = true)
    (k43 : PySem.W.keepIn K (.ref f43) = true)
    (a44 : PySem.W.findIn K (.ref CS) "__init__" = some (some (.ref f44)))
    (i44 : PySem.W.isFn K (.ref f44) = true)
    (l44 : K.lookup f44 = some ⟨oc44, od44, .func (PySem.W.fnOf "__init__" "Store.__init__" (defArgs sStI) (defBody sStI) (defScope sStI) .none kV44 dc44 pm44 an44 cd44 ct44), sl44⟩)
    (c44 : PySem.W.codeIn K cd44 "Store.__init__" = true)
    (k44 : PySem.W.keepIn K (.ref f44) = true)
    (a45 : PySem.W.findIn K (.ref CS) "home" = some (some (.ref f45)))
    (i45 : PySem.W.isFn K (.ref f45) = true)
    (l45 : K.lookup f45 = some ⟨oc45, od45, .func (PySem.W.fnOf "home" "Store.home" (defArgs sHomeM) (defBody sHomeM) (defScope sHomeM) .none kV45 dc45 pm45 an45 cd45 ct45), sl45⟩)
    (c45 : PySem.W.codeIn K cd45 "Store.home" = true)
    (k45 : PySem.W.keepIn K (.ref f45) = true)
    (a46 : PySem.W.findIn K (.ref CS) "disk" = some (some (.ref f46)))
    (i46 : PySem.W.isFn K (.ref f46) = true)
    (l46 : K.lookup f46 = some ⟨oc46, od46, .func (PySem.W.fnOf "disk" "Store.disk" (defArgs sDiskM) (defBody sDiskM) (defScope sDiskM) .none kV46 dc46 pm46 an46 cd46 ct46), sl46⟩)
    (c46 : PySem.W.codeIn K cd46 "Store.disk" = true)
    (k46 : PySem.W.keepIn K (.ref f46) = true)
    (a47 : PySem.W.findIn K (.ref CS) "put" = some (some (.ref f47)))
    (i47 : PySem.W.isFn K (.ref f47) = true)
    (l47 : K.lookup f47 = some ⟨oc47, od47, .func (PySem.W.fnOf "put" "Store.put" (defArgs sPut) (defBody sPut) (defScope sPut) .none kV47 dc47 pm47 an47 cd47 ct47), sl47⟩)
    (c47 : PySem.W.codeIn K cd47 "Store.put" = true)
    (k47 : PySem.W.keepIn K (.ref f47) = true)
    (a48 : PySem.W.findIn K (.ref CS) "push" = some (some (.ref f48)))
    (i48 : PySem.W.isFn K (.ref f48) = true)
    (l48 : K.lookup f48 = some ⟨oc48, od48, .func (PySem.W.fnOf "push" "Store.push" (defArgs sPush) (defBody sPush) (defScope sPush) .none kV48 dc48 pm48 an48 cd48 ct48), sl48⟩)
    (c48 : PySem.W.codeIn K cd48 "Store.push" = true)
    (k48 : PySem.W.keepIn K (.ref f48) = true)
    (a49 : PySem.W.findIn K (.ref CS) "sync" = some (some (.ref f49)))
    (i49 : PySem.W.isFn K (.ref f49) = true)
    (l49 : K.lookup f49 = some ⟨oc49, od49, .func (PySem.W.fnOf "sync" "Store.sync" (defArgs sSync) (defBody sSync) (defScope sSync) .none kV49 dc49 pm49 an49 cd49 ct49), sl49⟩)
    (c49 : PySem.W.codeIn K cd49 "Store.sync" = true)
    (k49 : PySem.W.keepIn K (.ref f49) = true)
    (a50 : PySem.W.findIn K (.ref CS) "lay" = some (some (.ref f50)))
    (i50 : PySem.W.isFn K (.ref f50) = true)
    (l50 : K.lookup f50 = some ⟨oc50, od50, .func (PySem.W.fnOf "lay" "Store.lay" (defArgs sLay) (defBody sLay) (defScope sLay) .none kV50 dc50 pm50 an50 cd50 ct50), sl50⟩)
    (c50 : PySem.W.codeIn K cd50 "Store.lay" = true)
    (k50 : PySem.W.keepIn K (.ref f50) = true)
    (a51 : PySem.W.findIn K (.ref CS) "bring_home" = some (some (.ref f51)))
    (i51 : PySem.W.isFn K (.ref f51) = true)
    (l51 : K.lookup f51 = some ⟨oc51, od51, .func (PySem.W.fnOf "bring_home" "Store.bring_home" (defArgs sBring) (defBody sBring) (defScope sBring) .none kV51 dc51 pm51 an51 cd51 ct51), sl51⟩)
    (c51 : PySem.W.codeIn K cd51 "Store.bring_home" = true)
    (k51 : PySem.W.keepIn K (.ref f51) = true)
    (a52 : PySem.W.findIn K (.ref CS) "_write" = some (some (.ref f52)))
    (i52 : PySem.W.isFn K (.ref f52) = true)
    (l52 : K.lookup f52 = some ⟨oc52, od52, .func (PySem.W.fnOf "_write" "Store._write" (defArgs s_write) (defBody s_write) (defScope s_write) .none kV52 dc52 pm52 an52 cd52 ct52), sl52⟩)
    (c52 : PySem.W.codeIn K cd52 "Store._write" = true)
    (k52 : PySem.W.keepIn K (.ref f52) = true)
    (a53 : PySem.W.findIn K (.ref CS) "_barrier" = some (some (.ref f53)))
    (i53 : PySem.W.isFn K (.ref f53) = true)
    (l53 : K.lookup f53 = some ⟨oc53, od53, .func (PySem.W.fnOf "_barrier" "Store._barrier" (defArgs s_bar) (defBody s_bar) (defScope s_bar) .none kV53 dc53 pm53 an53 cd53 ct53), sl53⟩)
    (c53 : PySem.W.codeIn K cd53 "Store._barrier" = true)
    (k53 : PySem.W.keepIn K (.ref f53) = true)
    (pgCD : PySem.W.plainGet K CD Str.empty = true)
    (hdCD : PySem.W.hasDictIn K CD = true)
    (poCD : PySem.W.plainOver K CD = true)
    (saCD : PySem.W.findIn K (.ref CD) "__setattr__" = some (some (.builtin "object.__setattr__")))
    (mkCD : PySem.W.makesIn K CD = true)
    (kcCD : PySem.W.keepIn K (.ref CD) = true)
    (pgCS : PySem.W.plainGet K CS Str.empty = true)
    (hdCS : PySem.W.hasDictIn K CS = true)
    (poCS : PySem.W.plainOver K CS = true)
    (saCS : PySem.W.findIn K (.ref CS) "__setattr__" = some (some (.builtin "object.__setattr__")))
    (mkCS : PySem.W.makesIn K CS = true)
    (kcCS : PySem.W.keepIn K (.ref CS) = true)
    (n_many : PySem.W.findIn K (.ref CD) "many" = some none)
    (n_settled : PySem.W.findIn K (.ref CD) "settled" = some none)
    (n_loose : PySem.W.findIn K (.ref CD) "loose" = some none)
    (m_plates : PySem.W.findIn K (.ref CS) "plates" = some none)
    (m_slots : PySem.W.findIn K (.ref CS) "slots" = some none)
    (m_begin : PySem.W.findIn K (.ref CS) "begin" = some none)
    (m_trace : PySem.W.findIn K (.ref CS) "trace" = some none)
    (m_deeds : PySem.W.findIn K (.ref CS) "deeds" = some none)
    (m_settled_deeds : PySem.W.findIn K (.ref CS) "settled_deeds" = some none)
    (m_groups : PySem.W.findIn K (.ref CS) "groups" = some none)
    (m_pushed : PySem.W.findIn K (.ref CS) "pushed" = some none)
    (m__disk : PySem.W.findIn K (.ref CS) "_disk" = some none)
    (m__home : PySem.W.findIn K (.ref CS) "_home" = some none)
    (m__running : PySem.W.findIn K (.ref CS) "_running" = some none)
    (m__head_number : PySem.W.findIn K (.ref CS) "_head_number" = some none)
    (m__next_group : PySem.W.findIn K (.ref CS) "_next_group" = some none)
    (m__next_slot : PySem.W.findIn K (.ref CS) "_next_slot" = some none)
    (nfal : PySem.W.findIn K (.ref CS) "now" = some none)
    (v_WIDTH : PySem.W.nsIn K mainGlobals "WIDTH" = some (some (.int 8 tk0)))
    (v_HEAD_PLATES : PySem.W.nsIn K mainGlobals "HEAD_PLATES" = some (some (.int 2 tk1)))
    (v_HEAD_NUMBERS : PySem.W.nsIn K mainGlobals "HEAD_NUMBERS" = some (some (.int 3 tk2)))
    (v_LOG_NUMBERS : PySem.W.nsIn K mainGlobals "LOG_NUMBERS" = some (some (.int 4 tk3)))
    (z_isinstance : PySem.W.nsIn K mainGlobals "isinstance" = some none)
    (z_int : PySem.W.nsIn K mainGlobals "int" = some none)
    (z_bool : PySem.W.nsIn K mainGlobals "bool" = some none)
    (z_tuple : PySem.W.nsIn K mainGlobals "tuple" = some none)
    (z_len : PySem.W.nsIn K mainGlobals "len" = some none)
    (z_all : PySem.W.nsIn K mainGlobals "all" = some none)
    (z_enumerate : PySem.W.nsIn K mainGlobals "enumerate" = some none)
    (z_range : PySem.W.nsIn K mainGlobals "range" = some none)
    (z_sum : PySem.W.nsIn K mainGlobals "sum" = some none)
    (z_max : PySem.W.nsIn K mainGlobals "max" = some none)
    (z_list : PySem.W.nsIn K mainGlobals "list" = some none)
    (z_abs : PySem.W.nsIn K mainGlobals "abs" = some none)
    (z_sorted : PySem.W.nsIn K mainGlobals "sorted" = some none)
    (z_dict : PySem.W.nsIn K mainGlobals "dict" = some none)
    (z_str : PySem.W.nsIn K mainGlobals "str" = some none)
    (vFig : PySem.W.nsIn K mainGlobals "FIGURES" = some (some (.str ("0123456789" : Str) tkF)))
    (vMoF : PySem.W.nsIn K mainGlobals "MOST_FIGURES" = some (some (.int 4000 tkM)))
    (vMoP : PySem.W.nsIn K mainGlobals "MOST_PLATES" = some (some (.int 1000 tkP)))
    (vTor : PySem.W.nsIn K mainGlobals "TORN" = some (some .none))
    : ∃ fd : FuncData, (∀ (s : Shared) (v : Value), BindsTo s fd ⟨[v], []⟩ [("script", v)]) ∧ ∀ base : Heap, K.In base → base.Ns mainGlobals mg → FnOk l.prog w K mg base CX0 9 fa fd ["script"] (spLaw K) := by
  have e := hfa.symm.trans (PySem.W.mg_of X G a38)
  cases e
  have b_isinstance : mg "isinstance" = none := PySem.W.mg_none_of X G z_isinstance
  have b_int : mg "int" = none := PySem.W.mg_none_of X G z_int
  have b_bool : mg "bool" = none := PySem.W.mg_none_of X G z_bool
  have b_tuple : mg "tuple" = none := PySem.W.mg_none_of X G z_tuple
  have b_len : mg "len" = none := PySem.W.mg_none_of X G z_len
  have b_all : mg "all" = none := PySem.W.mg_none_of X G z_all
  have b_enumerate : mg "enumerate" = none := PySem.W.mg_none_of X G z_enumerate
  have b_range : mg "range" = none := PySem.W.mg_none_of X G z_range
  have b_sum : mg "sum" = none := PySem.W.mg_none_of X G z_sum
  have b_max : mg "max" = none := PySem.W.mg_none_of X G z_max
  have b_list : mg "list" = none := PySem.W.mg_none_of X G z_list
  have b_abs : mg "abs" = none := PySem.W.mg_none_of X G z_abs
  have b_sorted : mg "sorted" = none := PySem.W.mg_none_of X G z_sorted
  have b_dict : mg "dict" = none := PySem.W.mg_none_of X G z_dict
  have b_str : mg "str" = none := PySem.W.mg_none_of X G z_str
  have m_WIDTH := PySem.W.mg_of X G v_WIDTH
  have m_HEAD_PLATES := PySem.W.mg_of X G v_HEAD_PLATES
  have m_HEAD_NUMBERS := PySem.W.mg_of X G v_HEAD_NUMBERS
  have m_LOG_NUMBERS := PySem.W.mg_of X G v_LOG_NUMBERS
  have mNo := PySem.W.mg_of X G aNo
  have mFi := PySem.W.mg_of X G aFi
  have hN : ∀ H, SqT K H aN (noughts.map V.int) := fun H => .inr ⟨_, _, _, lNo, rfl, rfl, (by show 8 ≤ sizeLine; decide), .cons ⟨_, rfl⟩ (.cons ⟨_, rfl⟩ (.cons ⟨_, rfl⟩ (.cons ⟨_, rfl⟩ (.cons ⟨_, rfl⟩ (.cons ⟨_, rfl⟩ (.cons ⟨_, rfl⟩ (.cons ⟨_, rfl⟩ .nil)))))))⟩
  have hF : ∀ H, SqT K H aF [.int 0, .int 0, .int 0] := fun H => .inr ⟨_, _, _, lFi, rfl, rfl, (by show 3 ≤ sizeLine; decide), .cons ⟨_, rfl⟩ (.cons ⟨_, rfl⟩ (.cons ⟨_, rfl⟩ .nil))⟩
  have T : DTxt K CD := ⟨⟨pgCD, hdCD, poCD, saCD⟩, n_many, n_settled, n_loose⟩
  have hne : CS ≠ CD := fun z => by rw [z, a42] at nfal; cases nfal
  have ST : STxt K CS CD := ⟨⟨pgCS, hdCS, poCS, saCS⟩, fun x hx => by
    simp only [SN, List.mem_cons, List.not_mem_nil, or_false] at hx
    rcases hx with rfl | rfl | rfl | rfl | rfl | rfl | rfl | rfl | rfl | rfl | rfl | rfl | rfl | rfl
    · exact m_plates
    · exact m_slots
    · exact m_begin
    · exact m_trace
    · exact m_deeds
    · exact m_settled_deeds
    · exact m_groups
    · exact m_pushed
    · exact m__disk
    · exact m__home
    · exact m__running
    · exact m__head_number
    · exact m__next_group
    · exact m__next_slot, hne⟩
  have N : NHTxt K mg CN := ⟨PySem.W.mg_of X G aH, xN, kN, bN, tN, exm_own bN iN tN sN⟩
  have F1 := fun_mk (st := sCopy) l1 c1 k1
  have b1 := F1.binds (ps := ["disk"]) fun _ _ _ _ _ _ us hl => match us, hl with | [_], _ => rfl
  have F2 := fun_mk (st := sNw) l2 c2 k2
  have b2 := F2.binds (ps := ["word"]) fun _ _ _ _ _ _ us hl => match us, hl with | [_], _ => rfl
  have F3 := fun_mk (st := sSnw) l3 c3 k3
  have b3 := F3.binds (ps := ["word"]) fun _ _ _ _ _ _ us hl => match us, hl with | [_], _ => rfl
  have F4 := fun_mk (st := sNin) l4 c4 k4
  have b4 := F4.binds (ps := ["word", "low", "high"]) fun _ _ _ _ _ _ us hl => match us, hl with | [_, _, _], _ => rfl
  have F5 := fun_mk (st := sFigs) l5 c5 k5
  have b5 := F5.binds (ps := ["word"]) fun _ _ _ _ _ _ us hl => match us, hl with | [_], _ => rfl
  have F6 := fun_mk (st := sWordAt) l6 c6 k6
  have b6 := F6.binds (ps := ["words", "place"]) fun _ _ _ _ _ _ us hl => match us, hl with | [_, _], _ => rfl
  have F7 := fun_mk (st := sVt) l7 c7 k7
  have b7 := F7.binds (ps := ["value"]) fun _ _ _ _ _ _ us hl => match us, hl with | [_], _ => rfl
  have F8 := fun_mk (st := sWd) l8 c8 k8
  have b8 := F8.binds (ps := ["disk"]) fun _ _ _ _ _ _ us hl => match us, hl with | [_], _ => rfl
  have F9 := fun_mk (st := sIvw) l9 c9 k9
  have b9 := F9.binds (ps := ["word"]) fun _ _ _ _ _ _ us hl => match us, hl with | [_], _ => rfl
  have F10 := fun_mk (st := sVo) l10 c10 k10
  have b10 := F10.binds (ps := ["word"]) fun _ _ _ _ _ _ us hl => match us, hl with | [_], _ => rfl
  have F11 := fun_mk (st := sCw) l11 c11 k11
  have b11 := F11.binds (ps := ["holds", "line", "word"]) fun _ _ _ _ _ _ us hl => match us, hl with | [_, _, _], _ => rfl
  have F12 := fun_mk (st := sRm) l12 c12 k12
  have b12 := F12.binds (ps := ["lines"]) fun _ _ _ _ _ _ us hl => match us, hl with | [_], _ => rfl
  have F13 := fun_mk (st := sRl) l13 c13 k13
  have b13 := F13.binds (ps := ["line", "words", "low", "many", "kinds"]) fun _ _ _ _ _ _ us hl => match us, hl with | [_, _, _, _, _], _ => rfl
  have F14 := fun_mk (st := sRdk) l14 c14 k14
  have b14 := F14.binds (ps := ["lines"]) fun _ _ _ _ _ _ us hl => match us, hl with | [_], _ => rfl
  have F15 := fun_mk (st := sHp) l15 c15 k15
  have b15 := F15.binds (ps := ["number"]) fun _ _ _ _ _ _ us hl => match us, hl with | [_], _ => rfl
  have F16 := fun_mk (st := sIsHead) l16 c16 k16
  have b16 := F16.binds (ps := ["plate", "value"]) fun _ _ _ _ _ _ us hl => match us, hl with | [_, _], _ => rfl
  have F17 := fun_mk (st := sRh) l17 c17 k17
  have b17 := F17.binds (ps := ["disk"]) fun _ _ _ _ _ _ us hl => match us, hl with | [_], _ => rfl
  have F18 := fun_mk (st := sCells) l18 c18 k18
  have b18 := F18.binds (ps := ["value"]) fun _ _ _ _ _ _ us hl => match us, hl with | [_], _ => rfl
  have F19 := fun_mk (st := sChk) l19 c19 k19
  have b19 := F19.binds (ps := ["plates", "changes"]) fun _ _ _ _ _ _ us hl => match us, hl with | [_, _], _ => rfl
  have F20 := fun_mk (st := sSlot) l20 c20 k20
  have b20 := F20.binds (ps := ["slots", "slot"]) fun _ _ _ _ _ _ us hl => match us, hl with | [_, _], _ => rfl
  have F21 := fun_mk (st := sRows) l21 c21 k21
  have b21 := F21.binds (ps := ["group", "changes"]) fun _ _ _ _ _ _ us hl => match us, hl with | [_, _], _ => rfl
  have F22 := fun_mk (st := sIsLog) l22 c22 k22
  have b22 := F22.binds (ps := ["value"]) fun _ _ _ _ _ _ us hl => match us, hl with | [_], _ => rfl
  have F23 := fun_mk (st := sWg) l23 c23 k23
  have b23 := F23.binds (ps := ["disk", "slots", "slot", "group"]) fun _ _ _ _ _ _ us hl => match us, hl with | [_, _, _, _], _ => rfl
  have F24 := fun_mk (st := sSlotsOf) l24 c24 k24
  have b24 := F24.binds (ps := ["groups"]) fun _ _ _ _ _ _ us hl => match us, hl with | [_], _ => rfl
  have F25 := fun_mk (st := sRg) l25 c25 k25
  have b25 := F25.binds (ps := ["disk", "slots", "head"]) fun _ _ _ _ _ _ us hl => match us, hl with | [_, _, _], _ => rfl
  have F26 := fun_mk (st := sLast) l26 c26 k26
  have b26 := F26.binds (ps := ["disk", "slots"]) fun _ _ _ _ _ _ us hl => match us, hl with | [_, _], _ => rfl
  have F27 := fun_mk (st := sHomeP) l27 c27 k27
  have b27 := F27.binds (ps := ["slots", "plate"]) fun _ _ _ _ _ _ us hl => match us, hl with | [_, _], _ => rfl
  have F28 := fun_mk (st := sPod) l28 c28 k28
  have b28 := F28.binds (ps := ["plates", "slots"]) fun _ _ _ _ _ _ us hl => match us, hl with | [_, _], _ => rfl
  have F29 := fun_mk (st := sLc) l29 c29 k29
  have b29 := F29.binds (ps := ["groups", "plates"]) fun _ _ _ _ _ _ us hl => match us, hl with | [_, _], _ => rfl
  have F30 := fun_mk (st := sRhome) l30 c30 k30
  have b30 := F30.binds (ps := ["disk", "plates", "slots", "groups"]) fun _ _ _ _ _ _ us hl => match us, hl with | [_, _, _, _], _ => rfl
  have F31 := fun_mk (st := sFresh) l31 c31 k31
  have b31 := F31.binds (ps := ["plates", "slots", "home"]) fun _ _ _ _ _ _ us hl => match us, hl with | [_, _, _], _ => rfl
  have F32 := fun_mk (st := sOpen) l32 c32 k32
  have b32 := F32.binds (ps := ["disk", "plates", "slots"]) fun _ _ _ _ _ _ us hl => match us, hl with | [_, _, _], _ => rfl
  have F33 := fun_mk (st := sNum) l33 c33 k33
  have b33 := F33.binds (ps := ["script", "index"]) fun _ _ _ _ _ _ us hl => match us, hl with | [_, _], _ => rfl
  have F34 := fun_mk (st := sTake) l34 c34 k34
  have b34 := F34.binds (ps := ["draw", "many"]) fun _ _ _ _ _ _ us hl => match us, hl with | [_, _], _ => rfl
  have F35 := fun_mk (st := sPick) l35 c35 k35
  have b35 := F35.binds (ps := ["draw", "items"]) fun _ _ _ _ _ _ us hl => match us, hl with | [_, _], _ => rfl
  have F36 := fun_mk (st := sLDisk) l36 c36 k36
  have b36 := F36.binds (ps := ["draw"]) fun _ _ _ _ _ _ us hl => match us, hl with | [_], _ => rfl
  have F37 := fun_mk (st := sLText) l37 c37 k37
  have b37 := F37.binds (ps := ["value"]) fun _ _ _ _ _ _ us hl => match us, hl with | [_], _ => rfl
  have F38 := fun_mk (st := sLaw) l38 c38 k38
  have b38 := F38.binds (ps := ["script"]) fun _ _ _ _ _ _ us hl => match us, hl with | [_], _ => rfl
  have F39 := fun_mk (st := sInit) l39 c39 k39
  have b39 := F39.binds (ps := ["self", "many"]) fun _ _ _ _ _ _ us hl => match us, hl with | [_, _], _ => rfl
  have F40 := fun_mk (st := sWrite) l40 c40 k40
  have b40 := F40.binds (ps := ["self", "plate", "value"]) fun _ _ _ _ _ _ us hl => match us, hl with | [_, _, _], _ => rfl
  have F41 := fun_mk (st := sBar) l41 c41 k41
  have b41 := F41.binds (ps := ["self"]) fun _ _ _ _ _ _ us hl => match us, hl with | [_], _ => rfl
  have F42 := fun_mk (st := sNow) l42 c42 k42
  have b42 := F42.binds (ps := ["self", "plate"]) fun _ _ _ _ _ _ us hl => match us, hl with | [_, _], _ => rfl
  have F43 := fun_mk (st := sCheck) l43 c43 k43
  have b43 := F43.binds (ps := ["self", "plate"]) fun _ _ _ _ _ _ us hl => match us, hl with | [_, _], _ => rfl
  have F44 := fun_mk (st := sStI) l44 c44 k44
  have b44 := F44.binds (ps := ["self", "plates", "slots", "disk"]) fun _ _ _ _ _ _ us hl => match us, hl with | [_, _, _, _], _ => rfl
  have F45 := fun_mk (st := sHomeM) l45 c45 k45
  have b45 := F45.binds (ps := ["self"]) fun _ _ _ _ _ _ us hl => match us, hl with | [_], _ => rfl
  have F46 := fun_mk (st := sDiskM) l46 c46 k46
  have b46 := F46.binds (ps := ["self"]) fun _ _ _ _ _ _ us hl => match us, hl with | [_], _ => rfl
  have F47 := fun_mk (st := sPut) l47 c47 k47
  have b47 := F47.binds (ps := ["self", "changes"]) fun _ _ _ _ _ _ us hl => match us, hl with | [_, _], _ => rfl
  have F48 := fun_mk (st := sPush) l48 c48 k48
  have b48 := F48.binds (ps := ["self"]) fun _ _ _ _ _ _ us hl => match us, hl with | [_], _ => rfl
  have F49 := fun_mk (st := sSync) l49 c49 k49
  have b49 := F49.binds (ps := ["self"]) fun _ _ _ _ _ _ us hl => match us, hl with | [_], _ => rfl
  have F50 := fun_mk (st := sLay) l50 c50 k50
  have b50 := F50.binds (ps := ["self"]) fun _ _ _ _ _ _ us hl => match us, hl with | [_], _ => rfl
  have F51 := fun_mk (st := sBring) l51 c51 k51
  have b51 := F51.binds (ps := ["self"]) fun _ _ _ _ _ _ us hl => match us, hl with | [_], _ => rfl
  have F52 := fun_mk (st := s_write) l52 c52 k52
  have b52 := F52.binds (ps := ["self", "plate", "value"]) fun _ _ _ _ _ _ us hl => match us, hl with | [_, _, _], _ => rfl
  have F53 := fun_mk (st := s_bar) l53 c53 k53
  have b53 := F53.binds (ps := ["self"]) fun _ _ _ _ _ _ us hl => match us, hl with | [_], _ => rfl
  have F0 : FunD K "is_whole" "is_whole" (defArgs sWhole) (defBody sWhole) (defScope sWhole) [.non, .non] [] f0 _ := ⟨⟨oc0, od0, .ref T0, kV0, dc0, pm0, an0, cd0, ct0, sl0, rfl, l0, c0, .inr ⟨by simp, T0, _, [.none, .none], nT, rfl, lT, rfl, .cons rfl (.cons rfl .nil)⟩, .inl rfl⟩, k0⟩
  obtain ⟨ds1, v1, bw1⟩ := F0.binds1 (ps := ["thing", "low", "high"]) 1 0 (by simp) rfl (fun _ _ _ _ _ _ _ us its h1 h2 => match us, its, h1, h2 with | [_], [_, _], _, _ => ⟨_, rfl, rfl⟩)
  obtain ⟨ds2, v2, bw2⟩ := F0.binds1 (ps := ["thing", "low", "high"]) 2 1 (by simp) rfl (fun _ _ _ _ _ _ _ us its h1 h2 => match us, its, h1, h2 with | [_, _], [_, _], _, _ => ⟨_, rfl, rfl⟩)
  obtain ⟨ds3, v3, bw3⟩ := F0.binds1 (ps := ["thing", "low", "high"]) 3 2 (by simp) rfl (fun _ _ _ _ _ _ _ us its h1 h2 => match us, its, h1, h2 with | [_, _, _], [_, _], _, _ => ⟨_, rfl, rfl⟩)
  cases v3
  refine ⟨PySem.W.fnOf "law" "law" (defArgs sLaw) (defBody sLaw) (defScope sLaw) .none kV38 dc38 pm38 an38 cd38 ct38, fun s v => .of_eq rfl, fun base _ _ => ?_⟩
  have GW := ok_whole (P := l.prog) (w := w) (mg := mg) (base := base) F0 b_isinstance b_int b_bool
  have mFig := PySem.W.mg_of X G vFig
  have mMoF := PySem.W.mg_of X G vMoF
  have mMoP := PySem.W.mg_of X G vMoP
  have mTor := PySem.W.mg_of X G vTor
  have GC := ok_cells (P := l.prog) (w := w) (K := K) (mg := mg) (base := base) F18 GW k0 (PySem.W.mg_of X G a0) bw1 v1 b_isinstance b_tuple b_len b_all m_WIDTH
  have GL := ok_isLog (P := l.prog) (w := w) (K := K) (mg := mg) (base := base) F22 GW k0 (PySem.W.mg_of X G a0) bw1 v1 bw2 v2 bw3 GC k18 (PySem.W.mg_of X G a18) b18 b_isinstance b_tuple m_LOG_NUMBERS
  have GS := ok_slot (P := l.prog) (w := w) (K := K) (mg := mg) (base := base) F20 m_HEAD_PLATES
  have GI := ok_init (P := l.prog) (w := w) (K := K) (mg := mg) (base := base) F39 T
  have GK := ok_check (P := l.prog) (w := w) (K := K) (mg := mg) (base := base) F43 T GW k0 (PySem.W.mg_of X G a0) bw3
  have GWr := ok_write (P := l.prog) (w := w) (K := K) (mg := mg) (base := base) F40 T GK ⟨a43, i43, k43⟩ b43
  have GN := ok_now (P := l.prog) (w := w) (K := K) (mg := mg) (base := base) F42 T GK ⟨a43, i43, k43⟩ b43
  have GR := ok_rows (P := l.prog) (w := w) (K := K) (mg := mg) (base := base) F21 b_len b_enumerate
  have WT : WTxt l.prog w K mg base CD f42 f20 f22 _ _ _ _ := ⟨T, GN, ⟨a42, i42, k42⟩, b42, GS, k20, (PySem.W.mg_of X G a20), b20, GL, k22, (PySem.W.mg_of X G a22), b22, b_range, b_tuple, m_LOG_NUMBERS⟩
  have GG := ok_wg (base := base) F23 WT
  have GZ := ok_slotsOf (P := l.prog) (w := w) (K := K) (mg := mg) (base := base) F24 b_len b_sum
  have GZT := ok_slotsT (P := l.prog) (w := w) (K := K) (mg := mg) (base := base) F24 b_len b_sum
  have GRg := ok_rg (base := base) F25 GG k23 (PySem.W.mg_of X G a23) b23 GZ k24 (PySem.W.mg_of X G a24) b24 b_len b_tuple
  have GLa := ok_last (base := base) F26 WT b_max
  have GNu := ok_num (P := l.prog) (w := w) (K := K) (mg := mg) (base := base) F33 b_int b_len b_abs
  have GT := ok_take (base := base) F34 GNu k33 (PySem.W.mg_of X G a33) b33 b_int
  have GP := ok_pick (base := base) F35 GT k34 (PySem.W.mg_of X G a34) b34 b_len
  have GHp := ok_hp (P := l.prog) (w := w) (K := K) (mg := mg) (base := base) F15 m_HEAD_PLATES
  have GIh := ok_isHead (P := l.prog) (w := w) (K := K) (mg := mg) (base := base) F16 GW k0 (PySem.W.mg_of X G a0) bw2 v2 GHp k15 (PySem.W.mg_of X G a15) b15 b_isinstance b_tuple b_len b_all m_HEAD_NUMBERS
  have GRh := ok_rh (P := l.prog) (w := w) (K := K) (mg := mg) (base := base) F17 T GN ⟨a42, i42, k42⟩ b42 GIh k16 (PySem.W.mg_of X G a16) b16 N b_len b_max b_range m_HEAD_PLATES
  have GB := ok_bar (P := l.prog) (w := w) (K := K) (mg := mg) (base := base) F41 T b_list b_tuple
  have GCp := ok_copy (P := l.prog) (w := w) (K := K) (mg := mg) (base := base) F1 T ⟨mkCD, a39, i39, kcCD⟩ GI (PySem.W.mg_of X G aD) b39
  have GHm := ok_homeP (P := l.prog) (w := w) (K := K) (mg := mg) (base := base) F27 m_HEAD_PLATES
  have GPd := ok_pod (P := l.prog) (w := w) (K := K) (mg := mg) (base := base) F28 GHm k27 (PySem.W.mg_of X G a27) b27
  have GCk := ok_chk (P := l.prog) (w := w) (K := K) (mg := mg) (base := base) F19 GW k0 (PySem.W.mg_of X G a0) bw3 GC k18 (PySem.W.mg_of X G a18) b18 b_sorted b_tuple
  have GLc := ok_lc (P := l.prog) (w := w) (K := K) (mg := mg) (base := base) F29 b_sorted
  have GRo := ok_rhome (P := l.prog) (w := w) (K := K) (mg := mg) (base := base) F30 T GN ⟨a42, i42, k42⟩ b42 GHm k27 (PySem.W.mg_of X G a27) b27 GC k18 (PySem.W.mg_of X G a18) b18 GLc k29 (PySem.W.mg_of X G a29) b29 b_range mNo hN
  have GWs := ok_write_ (P := l.prog) (w := w) (K := K) (mg := mg) (base := base) F52 ST T GWr ⟨a40, i40, k40⟩ b40
  have GBs := ok_bar_ (P := l.prog) (w := w) (K := K) (mg := mg) (base := base) F53 ST T GB ⟨a41, i41, k41⟩ b41 b_len
  have GBr := ok_bring (P := l.prog) (w := w) (K := K) (mg := mg) (base := base) F51 ST GLc k29 (PySem.W.mg_of X G a29) b29 GHm k27 (PySem.W.mg_of X G a27) b27 GHp k15 (PySem.W.mg_of X G a15) b15 GWs ⟨a52, i52, k52⟩ b52 GBs ⟨a53, i53, k53⟩ b53
  have GLy := ok_lay (P := l.prog) (w := w) (K := K) (mg := mg) (base := base) F50 ST GBs ⟨a53, i53, k53⟩ b53 GBr ⟨a51, i51, k51⟩ b51 b_len
  have GPu := ok_push (P := l.prog) (w := w) (K := K) (mg := mg) (base := base) F48 ST GZT k24 (PySem.W.mg_of X G a24) b24 GR k21 (PySem.W.mg_of X G a21) b21 GS k20 (PySem.W.mg_of X G a20) b20 GWs ⟨a52, i52, k52⟩ b52 GLy ⟨a50, i50, k50⟩ b50 b_len b_tuple b_sorted b_enumerate
  have GSy := ok_sync (P := l.prog) (w := w) (K := K) (mg := mg) (base := base) F49 ST GPu ⟨a48, i48, k48⟩ b48 GBs ⟨a53, i53, k53⟩ b53
  have GPt := ok_put (P := l.prog) (w := w) (K := K) (mg := mg) (base := base) F47 ST GCk k19 (PySem.W.mg_of X G a19) b19 GPu ⟨a48, i48, k48⟩ b48 b_len
  have GHo := ok_home (P := l.prog) (w := w) (K := K) (mg := mg) (base := base) F45 ST b_dict
  have GDi := ok_disk (P := l.prog) (w := w) (K := K) (mg := mg) (base := base) F46 ST GCp k1 (PySem.W.mg_of X G a1) b1
  have IT : ITxt l.prog w K mg base CD CN _ _ _ _ _ _ _ _ _ _ _ _ := ⟨GRh, k17, (PySem.W.mg_of X G a17), b17, GRg, k25, (PySem.W.mg_of X G a25), b25, GCp, k1, (PySem.W.mg_of X G a1), b1, GRo, k30, (PySem.W.mg_of X G a30), b30, GLa, k26, (PySem.W.mg_of X G a26), b26, GZT, k24, (PySem.W.mg_of X G a24), b24, b_max⟩
  have GSI := ok_stI F44 ST IT
  have GOp := ok_open F32 ST ⟨mkCS, a44, i44, kcCS⟩ GSI (PySem.W.mg_of X G aS) b44 GBr ⟨a51, i51, k51⟩ b51
  have GFr := ok_fresh F31 ST T GCk k19 (PySem.W.mg_of X G a19) b19 GPd k28 (PySem.W.mg_of X G a28) b28 ⟨mkCD, a39, i39, kcCD⟩ GI (PySem.W.mg_of X G aD) b39 GWr ⟨a40, i40, k40⟩ b40 GHm k27 (PySem.W.mg_of X G a27) b27 GHp k15 (PySem.W.mg_of X G a15) b15 GB ⟨a41, i41, k41⟩ b41 ⟨mkCS, a44, i44, kcCS⟩ GSI (PySem.W.mg_of X G aS) b44 b_range mFi hF
  have GI1 := ok_init1 (P := l.prog) (w := w) (K := K) (mg := mg) (base := base) F39 T
  have GIO := FnOk.weak (sp' := spInO K CD) (okOr GI GI1) inO_of
  have MkDk : MkO l.prog w K mg base CD _ _ := ⟨⟨mkCD, a39, i39, kcCD⟩, GIO, (PySem.W.mg_of X G aD), b39⟩
  have GWrO := FnOk.weak (sp' := spWrO K CD) GWr wrO_of
  have GBO := FnOk.weak (sp' := spBrO K CD) GB brO_of
  have GFi := ok_figs (P := l.prog) (w := w) (K := K) (mg := mg) (base := base) F5
  have GNw := ok_nw (P := l.prog) (w := w) (K := K) (mg := mg) (base := base) F2 ⟨GFi, k5, (PySem.W.mg_of X G a5), b5⟩ mFig b_all
  have GSnw := ok_snw (P := l.prog) (w := w) (K := K) (mg := mg) (base := base) F3 ⟨GFi, k5, (PySem.W.mg_of X G a5), b5⟩ ⟨GNw, k2, (PySem.W.mg_of X G a2), b2⟩ mMoF b_len
  have GNin := ok_nin (P := l.prog) (w := w) (K := K) (mg := mg) (base := base) F4 ⟨GSnw, k3, (PySem.W.mg_of X G a3), b3⟩ b_int
  have GWa := ok_wordAt (P := l.prog) (w := w) (K := K) (mg := mg) (base := base) F6 b_len
  have GVt := ok_vt (P := l.prog) (w := w) (K := K) (mg := mg) (base := base) F7 b_str
  have GIvw := ok_ivw (P := l.prog) (w := w) (K := K) (mg := mg) (base := base) F9 ⟨GSnw, k3, (PySem.W.mg_of X G a3), b3⟩ b_all
  have GVo := ok_vo (P := l.prog) (w := w) (K := K) (mg := mg) (base := base) F10 mTor b_int b_tuple
  have GWd := ok_wd (P := l.prog) (w := w) (K := K) (mg := mg) (base := base) F8 T ⟨GVt, k7, (PySem.W.mg_of X G a7), b7⟩ b_len b_enumerate b_tuple
  have GCw := ok_cw (P := l.prog) (w := w) (K := K) (mg := mg) (base := base) F11
  have GRm := ok_rm (P := l.prog) (w := w) (K := K) (mg := mg) (base := base) F12 ⟨GWa, k6, (PySem.W.mg_of X G a6), b6⟩ ⟨GCw, k11, (PySem.W.mg_of X G a11), b11⟩ ⟨GNin, k4, (PySem.W.mg_of X G a4), b4⟩ mMoP b_len b_int
  have GRl := ok_rl (P := l.prog) (w := w) (K := K) (mg := mg) (base := base) F13 ⟨GWa, k6, (PySem.W.mg_of X G a6), b6⟩ ⟨GCw, k11, (PySem.W.mg_of X G a11), b11⟩ ⟨GNin, k4, (PySem.W.mg_of X G a4), b4⟩ ⟨GIvw, k9, (PySem.W.mg_of X G a9), b9⟩ ⟨GVo, k10, (PySem.W.mg_of X G a10), b10⟩ b_len b_int
  have GRdk := ok_rdk (P := l.prog) (w := w) (K := K) (mg := mg) (base := base) F14 T ⟨GRm, k12, (PySem.W.mg_of X G a12), b12⟩ MkDk ⟨GRl, k13, (PySem.W.mg_of X G a13), b13⟩ ⟨GWrO, ⟨a40, i40, k40⟩, b40⟩ ⟨GBO, ⟨a41, i41, k41⟩, b41⟩ b_len b_range
  have GLt := ok_ltext (P := l.prog) (w := w) (K := K) (mg := mg) (base := base) F37 b_str
  have GLdk := ok_ldisk (P := l.prog) (w := w) (K := K) (mg := mg) (base := base) F36 T ⟨GP, k35, (PySem.W.mg_of X G a35), b35⟩ ⟨GT, k34, (PySem.W.mg_of X G a34), b34⟩ MkDk ⟨GWrO, ⟨a40, i40, k40⟩, b40⟩ ⟨GBO, ⟨a41, i41, k41⟩, b41⟩ b_len b_range
  exact ok_law F38 ST T ⟨GLdk, k36, (PySem.W.mg_of X G a36), b36⟩ ⟨GLt, k37, (PySem.W.mg_of X G a37), b37⟩ ⟨GWd, k8, (PySem.W.mg_of X G a8), b8⟩ ⟨GRdk, k14, (PySem.W.mg_of X G a14), b14⟩ ⟨GFr, k31, (PySem.W.mg_of X G a31), b31⟩ ⟨GT, k34, (PySem.W.mg_of X G a34), b34⟩ ⟨GPt, ⟨a47, i47, k47⟩, b47⟩ ⟨GPu, ⟨a48, i48, k48⟩, b48⟩ ⟨GDi, ⟨a46, i46, k46⟩, b46⟩ ⟨GBO, ⟨a41, i41, k41⟩, b41⟩ ⟨GSy, ⟨a49, i49, k49⟩, b49⟩ ⟨GOp, k32, (PySem.W.mg_of X G a32), b32⟩ ⟨GHo, ⟨a45, i45, k45⟩, b45⟩ b_len b_str b_enumerate b_list b_range
theorem walk {l : PySem.W.OpenLaw} {q : Program} {loose : List Str} {XP : (Str → Option Value) → Heap → Prop} {YP : World → Heap → Prop} {d : DefRec} {K : Params → PySem.W.Frag} (hn : l.most = some 63) (hdf : d.params.defaults = [])
    (hY : ∀ (w : World) (h : Heap), YP w h → (K w.params).In h)
    (F : ∀ (w : World) (mg : Str → Option Value) (fa : Addr) (h : Heap), (K w.params).In h → h.Ns mainGlobals mg → mg d.name = some (.ref fa) →
      ∃ fd : FuncData, (∀ (s : Shared) (u : Value), BindsTo s fd ⟨[u], []⟩ [("script", u)]) ∧ ∀ base : Heap, (K w.params).In base → base.Ns mainGlobals mg → FnOk l.prog w (K w.params) mg base CX0 9 fa fd ["script"] (spLaw (K w.params))) :
    PySem.W.WalkO q loose XP YP l.row.toRowW d [] (fun f vs => PySem.call f vs) :=
  L2.walk_of (n := 63) (k := 9) (x := "script") (CX := fun _ => CX0) (sp := fun w => spLaw (K w.params)) hn (by decide) hdf ⟨rfl, by decide, by decide⟩ hY F (fun _ _ a ns hl _ hS => ⟨a, ns, rfl, hS, hl, fun _ => rfl⟩) fun _ _ _ _ _ z => z
end Pf

set_option Elab.async false
open PySem PySem.W PyProof.Rows
set_option maxRecDepth 100000 in
set_option maxHeartbeats 0 in
theorem PySem.Challenge.cw_plugproof_k38_whole_disk_texts_holds : PySem.Challenge.rw_plugproof_k38_whole_disk_texts.Holds := by
  w_on; o_law; k_head; (case hw => w_witness2)
  k_fill
  refine Pf.walk (l := PySem.Challenge.rw_plugproof_k38_whole_disk_texts) rfl rfl (fun w h Y => PySem.W.kIn_of Y) ?F
  case F =>
    intro w mg fa h KX G hmg
    refine' Pf.all_mk KX G hmg ?aD ?aS ?aH ?xN ?kN ?bN ?tN ?iN ?sN ?a0 ?l0 ?lT ?c0 ?k0 ?aNo ?lNo ?aFi ?lFi ?a1 ?l1 ?c1 ?k1 ?a2 ?l2 ?c2 ?k2 ?a3 ?l3 ?c3 ?k3 ?a4 ?l4 ?c4 ?k4 ?a5 ?l5 ?c5 ?k5 ?a6 ?l6 ?c6 ?k6 ?a7 ?l7 ?c7 ?k7 ?a8 ?l8 ?c8 ?k8 ?a9 ?l9 ?c9 ?k9 ?a10 ?l10 ?c10 ?k10 ?a11 ?l11 ?c11 ?k11 ?a12 ?l12 ?c12 ?k12 ?a13 ?l13 ?c13 ?k13 ?a14 ?l14 ?c14 ?k14 ?a15 ?l15 ?c15 ?k15 ?a16 ?l16 ?c16 ?k16 ?a17 ?l17 ?c17 ?k17 ?a18 ?l18 ?c18 ?k18 ?a19 ?l19 ?c19 ?k19 ?a20 ?l20 ?c20 ?k20 ?a21 ?l21 ?c21 ?k21 ?a22 ?l22 ?c22 ?k22 ?a23 ?l23 ?c23 ?k23 ?a24 ?l24 ?c24 ?k24 ?a25 ?l25 ?c25 ?k25 ?a26 ?l26 ?c26 ?k26 ?a27 ?l27 ?c27 ?k27 ?a28 ?l28 ?c28 ?k28 ?a29 ?l29 ?c29 ?k29 ?a30 ?l30 ?c30 ?k30 ?a31 ?l31 ?c31 ?k31 ?a32 ?l32 ?c32 ?k32 ?a33 ?l33 ?c33 ?k33 ?a34 ?l34 ?c34 ?k34 ?a35 ?l35 ?c35 ?k35 ?a36 ?l36 ?c36 ?k36 ?a37 ?l37 ?c37 ?k37 ?a38 ?l38 ?c38 ?k38 ?a39 ?i39 ?l39 ?c39 ?k39 ?a40 ?i40 ?l40 ?c40 ?k40 ?a41 ?i41 ?l41 ?c41 ?k41 ?a42 ?i42 ?l42 ?c42 ?k42 ?a43 ?i43 ?l43 ?c43 ?k43 ?a44 ?i44 ?l44 ?c44 ?k44 ?a45 ?i45 ?l45 ?c45 ?k45 ?a46 ?i46 ?l46 ?c46 ?k46 ?a47 ?i47 ?l47 ?c47 ?k47 ?a48 ?i48 ?l48 ?c48 ?k48 ?a49 ?i49 ?l49 ?c49 ?k49 ?a50 ?i50 ?l50 ?c50 ?k50 ?a51 ?i51 ?l51 ?c51 ?k51 ?a52 ?i52 ?l52 ?c52 ?k52 ?a53 ?i53 ?l53 ?c53 ?k53 ?pgCD ?hdCD ?poCD ?saCD ?mkCD ?kcCD ?pgCS ?hdCS ?poCS ?saCS ?mkCS ?kcCS ?n_many ?n_settled ?n_loose ?m_plates ?m_slots ?m_begin ?m_trace ?m_deeds ?m_settled_deeds ?m_groups ?m_pushed ?m__disk ?m__home ?m__running ?m__head_number ?m__next_group ?m__next_slot ?nfal ?v_WIDTH ?v_HEAD_PLATES ?v_HEAD_NUMBERS ?v_LOG_NUMBERS ?z_isinstance ?z_int ?z_bool ?z_tuple ?z_len ?z_all ?z_enumerate ?z_range ?z_sum ?z_max ?z_list ?z_abs ?z_sorted ?z_dict ?z_str ?vFig ?vMoF ?vMoP ?vTor
    (case aD => k_is)
    (case aS => k_is)
    (case aH => k_is)
    (case xN => k_exc)
    (case kN => k_is)
    (case bN => k_is)
    (case tN => k_is)
    (case iN => k_is)
    (case sN => first | rfl | k_is)
    (case a0 => k_is)
    (case l0 => k_is)
    (case lT => k_is)
    (case c0 => k_is)
    (case k0 => k_is)
    (case aNo => k_is)
    (case lNo => k_is)
    (case aFi => k_is)
    (case lFi => k_is)
    (case a1 => k_is)
    (case l1 => k_is)
    (case c1 => k_is)
    (case k1 => k_is)
    (case a2 => k_is)
    (case l2 => k_is)
    (case c2 => k_is)
    (case k2 => k_is)
    (case a3 => k_is)
    (case l3 => k_is)
    (case c3 => k_is)
    (case k3 => k_is)
    (case a4 => k_is)
    (case l4 => k_is)
    (case c4 => k_is)
    (case k4 => k_is)
    (case a5 => k_is)
    (case l5 => k_is)
    (case c5 => k_is)
    (case k5 => k_is)
    (case a6 => k_is)
    (case l6 => k_is)
    (case c6 => k_is)
    (case k6 => k_is)
    (case a7 => k_is)
    (case l7 => k_is)
    (case c7 => k_is)
    (case k7 => k_is)
    (case a8 => k_is)
    (case l8 => k_is)
    (case c8 => k_is)
    (case k8 => k_is)
    (case a9 => k_is)
    (case l9 => k_is)
    (case c9 => k_is)
    (case k9 => k_is)
    (case a10 => k_is)
    (case l10 => k_is)
    (case c10 => k_is)
    (case k10 => k_is)
    (case a11 => k_is)
    (case l11 => k_is)
    (case c11 => k_is)
    (case k11 => k_is)
    (case a12 => k_is)
    (case l12 => k_is)
    (case c12 => k_is)
    (case k12 => k_is)
    (case a13 => k_is)
    (case l13 => k_is)
    (case c13 => k_is)
    (case k13 => k_is)
    (case a14 => k_is)
    (case l14 => k_is)
    (case c14 => k_is)
    (case k14 => k_is)
    (case a15 => k_is)
    (case l15 => k_is)
    (case c15 => k_is)
    (case k15 => k_is)
    (case a16 => k_is)
    (case l16 => k_is)
    (case c16 => k_is)
    (case k16 => k_is)
    (case a17 => k_is)
    (case l17 => k_is)
    (case c17 => k_is)
    (case k17 => k_is)
    (case a18 => k_is)
    (case l18 => k_is)
    (case c18 => k_is)
    (case k18 => k_is)
    (case a19 => k_is)
    (case l19 => k_is)
    (case c19 => k_is)
    (case k19 => k_is)
    (case a20 => k_is)
    (case l20 => k_is)
    (case c20 => k_is)
    (case k20 => k_is)
    (case a21 => k_is)
    (case l21 => k_is)
    (case c21 => k_is)
    (case k21 => k_is)
    (case a22 => k_is)
    (case l22 => k_is)
    (case c22 => k_is)
    (case k22 => k_is)
    (case a23 => k_is)
    (case l23 => k_is)
    (case c23 => k_is)
    (case k23 => k_is)
    (case a24 => k_is)
    (case l24 => k_is)
    (case c24 => k_is)
    (case k24 => k_is)
    (case a25 => k_is)
    (case l25 => k_is)
    (case c25 => k_is)
    (case k25 => k_is)
    (case a26 => k_is)
    (case l26 => k_is)
    (case c26 => k_is)
    (case k26 => k_is)
    (case a27 => k_is)
    (case l27 => k_is)
    (case c27 => k_is)
    (case k27 => k_is)
    (case a28 => k_is)
    (case l28 => k_is)
    (case c28 => k_is)
    (case k28 => k_is)
    (case a29 => k_is)
    (case l29 => k_is)
    (case c29 => k_is)
    (case k29 => k_is)
    (case a30 => k_is)
    (case l30 => k_is)
    (case c30 => k_is)
    (case k30 => k_is)
    (case a31 => k_is)
    (case l31 => k_is)
    (case c31 => k_is)
    (case k31 => k_is)
    (case a32 => k_is)
    (case l32 => k_is)
    (case c32 => k_is)
    (case k32 => k_is)
    (case a33 => k_is)
    (case l33 => k_is)
    (case c33 => k_is)
    (case k33 => k_is)
    (case a34 => k_is)
    (case l34 => k_is)
    (case c34 => k_is)
    (case k34 => k_is)
    (case a35 => k_is)
    (case l35 => k_is)
    (case c35 => k_is)
    (case k35 => k_is)
    (case a36 => k_is)
    (case l36 => k_is)
    (case c36 => k_is)
    (case k36 => k_is)
    (case a37 => k_is)
    (case l37 => k_is)
    (case c37 => k_is)
    (case k37 => k_is)
    (case a38 => k_is)
    (case l38 => k_is)
    (case c38 => k_is)
    (case k38 => k_is)
    (case a39 => k_is)
    (case i39 => k_is)
    (case l39 => k_is)
    (case c39 => k_is)
    (case k39 => k_is)
    (case a40 => k_is)
    (case i40 => k_is)
    (case l40 => k_is)
    (case c40 => k_is)
    (case k40 => k_is)
    (case a41 => k_is)
    (case i41 => k_is)
    (case l41 => k_is)
    (case c41 => k_is)
    (case k41 => k_is)
    (case a42 => k_is)
    (case i42 => k_is)
    (case l42 => k_is)
    (case c42 => k_is)
    (case k42 => k_is)
    (case a43 => k_is)
    (case i43 => k_is)
    (case l43 => k_is)
    (case c43 => k_is)
    (case k43 => k_is)
    (case a44 => k_is)
    (case i44 => k_is)
    (case l44 => k_is)
    (case c44 => k_is)
    (case k44 => k_is)
    (case a45 => k_is)
    (case i45 => k_is)
    (case l45 => k_is)
    (case c45 => k_is)
    (case k45 => k_is)
    (case a46 => k_is)
    (case i46 => k_is)
    (case l46 => k_is)
    (case c46 => k_is)
    (case k46 => k_is)
    (case a47 => k_is)
    (case i47 => k_is)
    (case l47 => k_is)
    (case c47 => k_is)
    (case k47 => k_is)
    (case a48 => k_is)
    (case i48 => k_is)
    (case l48 => k_is)
    (case c48 => k_is)
    (case k48 => k_is)
    (case a49 => k_is)
    (case i49 => k_is)
    (case l49 => k_is)
    (case c49 => k_is)
    (case k49 => k_is)
    (case a50 => k_is)
    (case i50 => k_is)
    (case l50 => k_is)
    (case c50 => k_is)
    (case k50 => k_is)
    (case a51 => k_is)
    (case i51 => k_is)
    (case l51 => k_is)
    (case c51 => k_is)
    (case k51 => k_is)
    (case a52 => k_is)
    (case i52 => k_is)
    (case l52 => k_is)
    (case c52 => k_is)
    (case k52 => k_is)
    (case a53 => k_is)
    (case i53 => k_is)
    (case l53 => k_is)
    (case c53 => k_is)
    (case k53 => k_is)
    (case pgCD => k_is)
    (case hdCD => k_is)
    (case poCD => k_is)
    (case saCD => k_is)
    (case mkCD => k_is)
    (case kcCD => k_is)
    (case pgCS => k_is)
    (case hdCS => k_is)
    (case poCS => k_is)
    (case saCS => k_is)
    (case mkCS => k_is)
    (case kcCS => k_is)
    (case n_many => k_is)
    (case n_settled => k_is)
    (case n_loose => k_is)
    (case m_plates => k_is)
    (case m_slots => k_is)
    (case m_begin => k_is)
    (case m_trace => k_is)
    (case m_deeds => k_is)
    (case m_settled_deeds => k_is)
    (case m_groups => k_is)
    (case m_pushed => k_is)
    (case m__disk => k_is)
    (case m__home => k_is)
    (case m__running => k_is)
    (case m__head_number => k_is)
    (case m__next_group => k_is)
    (case m__next_slot => k_is)
    (case nfal => k_is)
    (case v_WIDTH => k_is)
    (case v_HEAD_PLATES => k_is)
    (case v_HEAD_NUMBERS => k_is)
    (case v_LOG_NUMBERS => k_is)
    (case z_isinstance => k_is)
    (case z_int => k_is)
    (case z_bool => k_is)
    (case z_tuple => k_is)
    (case z_len => k_is)
    (case z_all => k_is)
    (case z_enumerate => k_is)
    (case z_range => k_is)
    (case z_sum => k_is)
    (case z_max => k_is)
    (case z_list => k_is)
    (case z_abs => k_is)
    (case z_sorted => k_is)
    (case z_dict => k_is)
    (case z_str => k_is)
    (case vFig => k_is)
    (case vMoF => k_is)
    (case vMoP => k_is)
    (case vTor => k_is)
