import PyProof.Rows.All
import Wide.All
import OpenK.AllK
import Wide.FinOn
import HandS.ForMost
import HandS.IsInst
import HandS.Defaults
import HandS.TupAny
import HandS.TupMul
import HandS.Style
import HandS.Conv
import HandS.Walk
import KE.GoesEnum
import PySem.Challenge.RW_plugproof_k02_whole_disk_falls
import HandS.More
import HandS.RaiseMore
import HandS.Small
import HandS.TryOnly
import HandS.WordsExc
import HandS.Iter
import HandS.Dict
import KE.DataMinMax
import KE.SortData
import KE.KEqDict
import HandS.TupSets
import HandS.Deep
import HandS.SortInts
import HandS.ExcSuper
import HandS.ExcField
import HandS.ExcCtx
import HandS.ExcOwn
import HandS.HotCalls
import HandS.ExcInitHot
import HandS.TryMany
import HandS.Lambda
import HandS.EndOwn
import HandS.DictTup
import KE.KDictKeyed
import PyProof.ListNew
import HandS.SetFor
import HandS.Zip
import KE.KeyNested
set_option Elab.async false
namespace Pf
open PySem PySem.Spec PyProof.Rows L2
def topS (i : Nat) : Stmt := PySem.Challenge.pw_plugproof_k02_whole_disk_falls.main.body.getD i (.Pass ⟨0, 0, 0, 0⟩)
abbrev sWhole : Stmt := topS 3
abbrev sBpI : Stmt := inClass (topS 5) 0
abbrev sBhI : Stmt := inClass (topS 6) 0
abbrev sBmI : Stmt := inClass (topS 7) 0
abbrev sInit : Stmt := inClass (topS 10) 0
abbrev sWrite : Stmt := inClass (topS 10) 1
abbrev sBar : Stmt := inClass (topS 10) 2
abbrev sNow : Stmt := inClass (topS 10) 3
abbrev sVers : Stmt := inClass (topS 10) 4
abbrev sCount : Stmt := inClass (topS 10) 5
abbrev sFallen : Stmt := inClass (topS 10) 6
abbrev sCan : Stmt := inClass (topS 10) 7
abbrev sCheck : Stmt := inClass (topS 10) 8
abbrev sCu : Stmt := topS 11
abbrev sCopy : Stmt := topS 12
abbrev sCm : Stmt := topS 13
abbrev sDa : Stmt := topS 14
abbrev sNum : Stmt := topS 16
abbrev sTake : Stmt := topS 17
abbrev sPick : Stmt := topS 18
abbrev sLfl : Stmt := topS 19
abbrev sFault : Stmt := topS 20
abbrev sLaw : Stmt := topS 21
end Pf

set_option Elab.async false
set_option linter.all false
set_option maxRecDepth 100000
set_option maxHeartbeats 4000000
namespace Pf
open PySem PySem.Spec PyProof.Rows L2

theorem same_upd {H : Hp} {p : Addr} {o : HO} (h : H p = none) : Same H (upd H p o) := fun b x e => by
  rw [upd_ne (ne_of_none e h)]
  exact e
theorem Same.up {G H : Hp} {p : Addr} {o : HO} (s : Same G H) (h : H p = none) : Same G (upd H p o) := s.trans (same_upd h)
theorem same_seqT {K : PySem.W.Frag} {H H' : Hp} {a : Addr} {xs : List V} (e : Same H H') (h : SqT K H a xs) : SqT K H' a xs := by
  rcases h with (h | ⟨o, h⟩) | h
  · exact .inl (.inl (e _ _ h))
  · exact .inl (.inr ⟨o, e _ _ h⟩)
  · exact .inr h
section
variable {K : PySem.W.Frag} {H H' : Hp}
mutual
theorem dp_same (e : Same H H') : ∀ (d : PyData) (v : V), Dp K H v d → Dp K H' v d
  | .none, _, h => by cases h; exact .non
  | .bool b, _, h => by cases h; exact .bl b
  | .int i, _, h => by cases h; exact .int i
  | .str x, _, h => by cases h; exact .str x
  | .list ds, _, h => by cases h with | lst hs ha => exact .lst (Same.seq e hs) (dps_same e ds _ ha)
  | .tuple ds, _, h => by cases h with | tup hs ha => exact .tup (same_seqT e hs) (dps_same e ds _ ha)
  | .dict _, _, h => by cases h
theorem dps_same (e : Same H H') : ∀ (ds : List PyData) (vs : List V), DpAll K H vs ds → DpAll K H' vs ds
  | [], _, h => by cases h; exact .nil
  | d :: ds, _, h => by cases h with | cons h1 h2 => exact .cons (dp_same e d _ h1) (dps_same e ds _ h2)
end
theorem dps_ints : ∀ ns : List Int, DpAll K H (ns.map V.int) (ns.map PyData.int)
  | [] => .nil
  | n :: ns => .cons (.int n) (dps_ints ns)
theorem dps_len : ∀ {vs : List V} {ds : List PyData}, DpAll K H vs ds → vs.length = ds.length
  | [], _, h => by cases h; rfl
  | v :: vs, _, h => by cases h with | cons h1 h2 => simp [dps_len h2]
theorem dps_get : ∀ {vs : List V} {ds : List PyData} {i : Nat} {v : V}, DpAll K H vs ds → vs[i]? = some v → ∃ d, ds[i]? = some d ∧ Dp K H v d
  | [], _, i, v, h, e => by simp at e
  | x :: vs, _, 0, v, h, e => by
    cases h with
    | cons h1 h2 =>
      cases (Option.some.inj e)
      exact ⟨_, rfl, h1⟩
  | x :: vs, _, i + 1, v, h, e => by
    cases h with
    | cons h1 h2 =>
      obtain ⟨d, e1, e2⟩ := dps_get h2 (show vs[i]? = some v from e)
      exact ⟨d, e1, e2⟩
theorem dps_app : ∀ {vs ws : List V} {ds es : List PyData}, DpAll K H vs ds → DpAll K H ws es → DpAll K H (vs ++ ws) (ds ++ es)
  | [], _, _, _, h, g => by cases h; exact g
  | v :: vs, _, _, _, h, g => by cases h with | cons h1 h2 => exact .cons h1 (dps_app h2 g)
theorem dps_take : ∀ {vs : List V} {ds : List PyData} (n : Nat), DpAll K H vs ds → DpAll K H (vs.take n) (ds.take n)
  | _, _, 0, _ => .nil
  | [], _, n + 1, h => by cases h; exact .nil
  | v :: vs, _, n + 1, h => by cases h with | cons h1 h2 => exact .cons h1 (dps_take n h2)
theorem dps_drop : ∀ {vs : List V} {ds : List PyData} (n : Nat), DpAll K H vs ds → DpAll K H (vs.drop n) (ds.drop n)
  | _, _, 0, h => h
  | [], _, n + 1, h => by cases h; exact .nil
  | v :: vs, _, n + 1, h => by cases h with | cons h1 h2 => exact dps_drop n h2
theorem dps_set : ∀ {vs : List V} {ds : List PyData} {v : V} {d : PyData} (i : Nat), DpAll K H vs ds → Dp K H v d → DpAll K H (vs.set i v) (ds.set i d)
  | [], _, _, _, _, h, _ => by cases h; exact .nil
  | x :: vs, _, v, d, 0, h, q => by cases h with | cons h1 h2 => exact .cons q h2
  | x :: vs, _, v, d, i + 1, h, q => by cases h with | cons h1 h2 => exact .cons h1 (dps_set i h2 q)
theorem tyx_tup {a : Addr} {xs : List V} (h : SqT K H a xs) : TyX K H (.ref a) (.type "tuple") := by
  rcases h with (h | ⟨o, h⟩) | ⟨o, its, n, h, c, _⟩
  · exact .base (.tup h)
  · exact .fTuple h
  · exact .kTuple h c
theorem tyx_lst {a : Addr} {xs : List V} (h : SqL K H a xs) : TyX K H (.ref a) (.type "list") := by
  rcases h with (h | ⟨o, h⟩) | ⟨o, its, n, h, c, _⟩
  · exact .base (.lst h)
  · exact .base (.frz h)
  · exact .kList h c
end
def intB : PyData → Bool | .int _ => true | .bool _ => true | _ => false
def boolB : PyData → Bool | .bool _ => true | _ => false
def tupB : PyData → Bool | .tuple _ => true | _ => false
section
variable {K : PySem.W.Frag} {H : Hp} {v : V} {d : PyData}
theorem isi_int (h : Dp K H v d) : ∃ t, TyX K H v t ∧ PySem.W.kitOne K t (.type "int") = some (intB d) := by
  cases h with
  | non => exact ⟨_, .base .non, kit_ty (show kitB "NoneType" "int" = some false by decide +kernel)⟩
  | bl b => exact ⟨_, .base (.bl b), kit_ty (show kitB "bool" "int" = some true by decide +kernel)⟩
  | int i => exact ⟨_, .base (.int i), kit_ty (show kitB "int" "int" = some true by decide +kernel)⟩
  | str x => exact ⟨_, .base (.str x), kit_ty (show kitB "str" "int" = some false by decide +kernel)⟩
  | lst hs _ => exact ⟨_, tyx_lst hs, kit_ty (show kitB "list" "int" = some false by decide +kernel)⟩
  | tup hs _ => exact ⟨_, tyx_tup hs, kit_ty (show kitB "tuple" "int" = some false by decide +kernel)⟩
theorem isi_bool (h : Dp K H v d) : ∃ t, TyX K H v t ∧ PySem.W.kitOne K t (.type "bool") = some (boolB d) := by
  cases h with
  | non => exact ⟨_, .base .non, kit_ty (show kitB "NoneType" "bool" = some false by decide +kernel)⟩
  | bl b => exact ⟨_, .base (.bl b), kit_ty (show kitB "bool" "bool" = some true by decide +kernel)⟩
  | int i => exact ⟨_, .base (.int i), kit_ty (show kitB "int" "bool" = some false by decide +kernel)⟩
  | str x => exact ⟨_, .base (.str x), kit_ty (show kitB "str" "bool" = some false by decide +kernel)⟩
  | lst hs _ => exact ⟨_, tyx_lst hs, kit_ty (show kitB "list" "bool" = some false by decide +kernel)⟩
  | tup hs _ => exact ⟨_, tyx_tup hs, kit_ty (show kitB "tuple" "bool" = some false by decide +kernel)⟩
theorem isi_tup (h : Dp K H v d) : ∃ t, TyX K H v t ∧ PySem.W.kitOne K t (.type "tuple") = some (tupB d) := by
  cases h with
  | non => exact ⟨_, .base .non, kit_ty (show kitB "NoneType" "tuple" = some false by decide +kernel)⟩
  | bl b => exact ⟨_, .base (.bl b), kit_ty (show kitB "bool" "tuple" = some false by decide +kernel)⟩
  | int i => exact ⟨_, .base (.int i), kit_ty (show kitB "int" "tuple" = some false by decide +kernel)⟩
  | str x => exact ⟨_, .base (.str x), kit_ty (show kitB "str" "tuple" = some false by decide +kernel)⟩
  | lst hs _ => exact ⟨_, tyx_lst hs, kit_ty (show kitB "list" "tuple" = some false by decide +kernel)⟩
  | tup hs _ => exact ⟨_, tyx_tup hs, kit_ty (show kitB "tuple" "tuple" = some true by decide +kernel)⟩
end
theorem get_list {X : Cx} : PGet X (rIxL X.K) := by
  intro pins s σ H x y v u Q I rx ry h
  obtain ⟨p, xs, i, z, rfl, rfl, hq, he, q⟩ := h
  cases rx
  obtain ⟨t, rfl⟩ := ry
  obtain ⟨its, r, pl, hz⟩ := I.list hq
  obtain ⟨j, h1, h2, h3, h4, h5⟩ := atI_get he
  obtain ⟨w, ew, rw'⟩ := r.get h2
  have hl := r.length
  have hn := line63
  have fin : EP X pins σ Q w s := ⟨z, H, I, rw', q⟩
  by_cases h0 : 0 ≤ i
  · have hj : i.toNat = j := by
      rw [seqIndex_of h0 h5] at h1
      exact Option.some.inj h1
    exact wpAny_getItem_list pl.isList h0 (by omega) (by rw [hj]; simpa using ew) fin
  · have hj : (i + (its.toArray.size : Int)).toNat = j := by
      rw [seqIndex_neg (by omega) h4] at h1
      rw [List.size_toArray, ← hl]
      exact Option.some.inj h1
    exact wpAny_getItem_list_neg pl.isList (by omega) (by rw [List.size_toArray] <;> omega) (by omega) (by rw [hj]; simpa using ew) fin

set_option maxHeartbeats 1000000 in
theorem meets_enum1 {v : Value} {o : Obj} {H : Heap → Prop} (B : Begins v o H) :
    Meets (Builtin.«enumerate.__new__» ⟨[.type "enumerate", v], []⟩) (fun _ R s => H s.heap ∧
      R (.ok (.ret (.ref (s.heap.push o).objs.size))) { s with heap := (s.heap.push o).push { cls := .type "enumerate", data := .fields #[.none, .bool false, .ref s.heap.objs.size, rawInt 0, .none, .none] } }) :=
  .of_wp fun prog w A R s h => by
    obtain ⟨hp, g, d, tk, os⟩ := s; obtain ⟨h1, h⟩ := h
    have hsub := sub_enumerate
    have q1 : ∀ {A' : Around} {E : Value → Shared → Prop} {Q : Value → Shared → Prop}, Q (.ref hp.objs.size) ⟨hp.push o, g, d, tk, os⟩ → wpAny (model prog w) A' (pyIter v) Q E ⟨hp, g, d, tk, os⟩ :=
      fun q => B.iter prog w _ _ ⟨hp, g, d, tk, os⟩ _ h1 q
    wp_walk using q1
    refine wpAny_stack_any fun st => wpAny_pure ?_
    split
    · rename_i c _ _ _ _ _
      cases (c == Value.type "enumerate")
      · wp_walk using q1
        exact ⟨_, rfl, h⟩
      · wp_walk using q1
        exact ⟨_, rfl, h⟩
    · wp_walk using q1
      exact ⟨_, rfl, h⟩
theorem call_enum1 {prog : Program} {w : World} {A : Around} {E : Value → Shared → Prop} {s : Shared} {v : Value} {o : Obj} {H : Heap → Prop} {Q : Value → Shared → Prop} (B : Begins v o H) (h1 : H s.heap)
    (h : ∀ h', IsEnum h' (s.heap.objs.size + 1) s.heap.objs.size 0 .none → h'.get? s.heap.objs.size = some o → h'.objs.size = s.heap.objs.size + 2 →
      (∀ b o, s.heap.get? b = some o → h'.get? b = some o) → Q (.ref (s.heap.objs.size + 1)) { s with heap := h' }) :
    wpAny (model prog w) A (call (.type "enumerate") [v]) Q E s := by
  refine callType_new F.called_enumerate (by decide) (F.typeCall_enumerate_1 _) (F.newCall_enumerate_1 _) (fun obj => F.args_object_init_2 obj _) F.entry_enumerate_new
    (meets_enum1 B) ⟨h1, ?_⟩
  have hz : (s.heap.push o).objs.size = s.heap.objs.size + 1 := Heap.size_push ..
  show _ ∧ _
  rw [hz]
  have he : IsEnum ((s.heap.push o).push { cls := .type "enumerate", data := .fields #[.none, .bool false, .ref s.heap.objs.size, rawInt 0, .none, .none] }) (s.heap.objs.size + 1) s.heap.objs.size 0 .none := by
    have := Heap.get?_push_size (s.heap.push o) (o := { cls := .type "enumerate", data := .fields #[.none, .bool false, .ref s.heap.objs.size, rawInt 0, .none, .none] }) rfl
    rw [hz] at this; exact this
  refine ⟨⟨_, he, rfl⟩, h _ he (Heap.get?_push_of_some _ (Heap.get?_push_size _ B.free)) (by rw [Heap.size_push, hz]) fun b o x => Heap.get?_push_of_some _ (Heap.get?_push_of_some _ x)⟩
def IteT (K : PySem.W.Frag) (a : Addr) : It :=
  ⟨fun i H => ∃ (xs : List V) (x : V), SqT K H a xs ∧ xs[i]? = some x, fun i H v H' => ∃ T x, v = .ref T ∧ H T = none ∧ H' = upd H T (.tup [.int (i : Nat), x]) ∧ ∀ xs, SqT K H a xs → xs[i]? = some x, fun i H => ∃ xs : List V, SqT K H a xs ∧ xs.length = i⟩
theorem turn_enumT {P : Program} {w : World} {K : PySem.W.Frag} {elts : List Expr} {kk : Nat} {tpos : Pos} (a e it : Addr) :
    Turn P w K (.Tuple elts kk tpos) (IteT K a) [e, it] e (fun i h => (∃ old, IsEnum h e it ((i : Nat) : Int) old) ∧ h.IsTupleIter it a i ∧ e ≠ it) where
  mem := by simp
  obj := fun i h st b hb => by
    obtain ⟨⟨old, he⟩, ⟨o, ho, hc, hd⟩, _⟩ := st
    have e' : b = e ∨ b = it := by simpa using hb
    rcases e' with z | z
    · rw [z]; exact ⟨_, he, fun v q => nomatch q⟩
    · rw [z]; exact ⟨o, ho, fun v q => by rw [hd] at q; cases q⟩
  keep := fun i h h' st k => let ⟨⟨old, he⟩, hi, hne⟩ := st; ⟨⟨old, k e (by simp) _ he⟩, hi.at fun o q => k it (by simp) o q, hne⟩
  item := by
    intro X hP hw hK hc i pins s σ H E I hf st hg
    subst hP hw hK
    obtain ⟨⟨old, he⟩, hit, hne⟩ := st
    obtain ⟨xs, x, hq, hx⟩ := hg
    obtain ⟨its, rv, p, hz⟩ := I.tuple hq
    obtain ⟨u, hu, ru⟩ := rv.get hx
    have hel : e < s.heap.objs.size := Heap.lt_size he
    have hil : it < s.heap.objs.size := by obtain ⟨_, q, _⟩ := hit; exact Heap.lt_size q
    have hai : a ≠ it := by
      rintro rfl
      obtain ⟨o1, q1, c1, _⟩ := hit
      obtain ⟨o2, q2, c2, _⟩ := p
      rw [q1] at q2
      cases q2
      rw [c1] at c2
      exact absurd c2 (by decide)
    have hea : e ≠ a := by
      rintro rfl
      obtain ⟨o2, q2, c2, _⟩ := p
      have q3 := he.symm.trans q2
      cases q3
      simp at c2
    have hlt : i < its.toArray.size := by
      rw [List.size_toArray, ← rv.length]
      exact (List.getElem?_eq_some_iff.mp hx).1
    refine wpAny_pyNext_enum_itemD (Draws.tuple (A := X.A.in1) (I.ok.hd hc) it a hai its.toArray) he ⟨hit, p⟩ hlt hne (by simp [hne, hea]) fun y h' tk hy ho hst hT hsz hk => ?_
    have eyu : y = u := by
      have h2 : its.toArray[i]? = some u := by simpa using hu
      exact Option.some.inj ((show its.toArray[i]? = some y from hy).symm.trans h2)
    subst eyu
    refine ⟨_, rfl, wpAny_letOwnedTupleGo_enum (s := { s with heap := h', toks := tk + 1 }) ho fun h'' he' sb => ?_⟩
    have hT2 : h''.get? s.heap.objs.size = some { cls := .type "tuple", data := .seq #[.int i tk, y] } := (sb.2 _ (Nat.ne_of_gt hel)).trans hT
    have new : ObjOk X.prog X.w (upd H s.heap.objs.size (.tup [.int (i : Nat), x])) h'' s.heap.objs.size (.tup [.int (i : Nat), x]) :=
      ⟨by show 2 ≤ sizeLine; decide, [.int i tk, y], .cons ⟨_, rfl⟩ (.cons ru .nil), ⟨_, hT2, rfl, _, rfl⟩⟩
    have I1 : Inv X pins σ (upd H s.heap.objs.size (.tup [.int (i : Nat), x])) { s with heap := h'', toks := tk + 1 } :=
      I.turnedNew (ch := [e, it]) (fun b ob hb q => (sb.2 b (fun z => hb (by simp [z]))).trans (hk b ob (fun z => hb (by simp [z])) (fun z => hb (by simp [z])) q)) hf (Nat.le_refl _) new
    refine ⟨.ref s.heap.objs.size, _, I1, rfl, ⟨_, x, rfl, I.hok.fresh (Nat.le_refl _), rfl, fun ys hy => by rw [I.tuple_inj hy hq]; exact hx⟩, ⟨⟨y, ?_⟩, hst.1.at fun o q => (sb.2 it (Ne.symm hne)).trans q, hne⟩, fun b hb => ?_⟩
    · have e1 : ((i + 1 : Nat) : Int) = (i : Int) + 1 := by omega
      rw [e1]; exact he'
    · have hb' : b < s.heap.objs.size := by
        have e' : b = e ∨ b = it := by simpa using hb
        rcases e' with z | z
        · rw [z]; exact hel
        · rw [z]; exact hil
      rw [upd_ne (Nat.ne_of_lt hb')]
      exact (hf b hb).1
  done := by
    intro X hP hw hK hc i pins s σ H E I hf st hg
    subst hP hw hK
    obtain ⟨⟨old, he⟩, hit, hne⟩ := st
    obtain ⟨xs, hq, hx⟩ := hg
    obtain ⟨its, rv, p, hz⟩ := I.tuple hq
    obtain ⟨f0, f1, f2, f3, f4, f5⟩ := hf it (by simp)
    have hl := rv.length
    have hai : a ≠ it := by
      rintro rfl
      obtain ⟨o1, q1, c1, _⟩ := hit
      obtain ⟨o2, q2, c2, _⟩ := p
      rw [q1] at q2
      cases q2
      rw [c1] at c2
      exact absurd c2 (by decide)
    have en : its.toArray.size = i := by rw [List.size_toArray, ← hl]; exact hx
    exact wpAny_pyNext_enum_endD (Draws.tuple (A := X.A.in1) (I.ok.hd hc) it a hai its.toArray) he (by rw [en]; exact ⟨hit, p⟩) fun h' eb => ⟨rfl, I.turned (t' := s.toks) (fun b o hb q => eb b o hb q) f0 f1 f3 f4 f5⟩
  self := fun A i s Q E st h => let ⟨⟨_, he⟩, _⟩ := st; wpAny_pyIter_enum he h
def iEnumT (K : PySem.W.Frag) (ta : TA) : TI := fun σ H R => ta σ H fun vs H1 => ∃ a xs, vs = [.ref a] ∧ SqT K H1 a xs ∧ R (IteT K a) H1
theorem pi_enumT {X : Cx} {e : Expr} {ta : TA} {p pos tpos : Pos} {elts : List Expr} {kk : Nat} (hg : Gl X "enumerate") (hm : X.mg "enumerate" = none) (ha : PA X [e] ta) (hs : starEach [e] X.env = [(false, eval e X.env)] := by rfl) :
    PI X (.Tuple elts kk tpos) (.Call (.Name "enumerate" p) [e] [] pos) (iEnumT X.K ta) := by
  refine ⟨fun pins s σ H R I h => ?_⟩
  refine Call_ (ld_blt I hg hm boot_enumerate (PyProof.Rows.callWith_type1 (thn (ha.run pos pins s σ H _ I h) fun us s1 ⟨vs, H1, I1, r1, q1⟩ => ?_) hs rfl))
  obtain ⟨a, xs, ex, hq, q⟩ := q1
  subst ex
  cases r1 with
  | cons r rr =>
    cases rr
    cases r
    obtain ⟨its, rv, p', hz⟩ := I1.tuple hq
    refine call_enum1 (begins_tuple a its.toArray) p' fun h' he hit hsz hk => wpAny_pyIter_enum he ?_
    have I2 : Inv X pins σ H1 { s1 with heap := h' } := I1.kept (t' := s1.toks) hk
    refine ⟨s1.heap.objs.size + 1, [s1.heap.objs.size + 1, s1.heap.objs.size], _, _, H1, rfl, I2, turn_enumT a (s1.heap.objs.size + 1) s1.heap.objs.size, ⟨⟨.none, he⟩, ⟨_, hit, rfl, rfl⟩, Nat.succ_ne_self _⟩, fun b hb => ?_, q⟩
    have e' : b = s1.heap.objs.size + 1 ∨ b = s1.heap.objs.size := by simpa using hb
    have hle : s1.heap.objs.size ≤ b := by
      rcases e' with z | z
      · rw [z]; exact Nat.le_add_right _ _
      · rw [z]; exact Nat.le_refl _
    exact I1.fpOk hle (I1.hok.fresh hle)
theorem walk_enumT {K : PySem.W.Frag} {a : Addr} {xs : List V} : Walk (IteT K a) xs.length (fun H => SqT K H a xs) (YPair (fun i => some (.int (i : Nat))) (fun i => xs[i]?)) := by
  refine ⟨fun i _ hi q => ⟨xs, xs[i], q, by simp [hi]⟩, fun _ q => ⟨xs, q, rfl⟩, fun i H v H' _ q y => ?_⟩
  obtain ⟨T, x, h1, h2, h3, h4⟩ := y
  exact ⟨T, .int (i : Nat), x, h1, h2, h3, rfl, h4 xs q⟩
end Pf

set_option Elab.async false
set_option linter.all false
set_option maxRecDepth 100000
set_option maxHeartbeats 4000000
namespace Pf
open PySem PySem.Spec PyProof.Rows L2
theorem scWhole : FnScope ["thing", "low", "high"] ["thing", "low", "high"] (defScope sWhole) := ⟨rfl, rfl, rfl, by decide +kernel, rfl, by decide +kernel, by decide +kernel⟩
def loB (i : Int) : Option Int → Bool
  | none => true
  | some l => decide (l ≤ i)
def hiB (i : Int) : Option Int → Bool
  | none => true
  | some h => decide (i ≤ h)
def wholeB (d : PyData) (lo hi : Option Int) : Bool := match d with
  | .int i => loB i lo && hiB i hi
  | _ => false
def optV : Option Int → V
  | none => .non
  | some i => .int i
def spWhole (K : PySem.W.Frag) : Sp := fun vs H Q _ => ∃ v d lo hi, vs = [v, optV lo, optV hi] ∧ Dp K H v d ∧ Q (.bl (wholeB d lo hi)) H
section
variable {P : Program} {w : World} {K : PySem.W.Frag} {mg : Str → Option Value} {base : Heap}
theorem ok_whole {f : Addr} {fd : FuncData} {kws : List (Str × V)} (F : FunD K "is_whole" "is_whole" (defArgs sWhole) (defBody sWhole) (defScope sWhole) [.non, .non] kws f fd) (mi : mg "isinstance" = none) (mt : mg "int" = none) (mb : mg "bool" = none) :
    FnOk P w K mg base CX0 1 f fd ["thing", "low", "high"] (spWhole K) := by
  refine F.ok scWhole (fun vs H Q E h => ?_) (fun cdv A outer s H vs Q E hr h => ?_)
  · obtain ⟨v, d, lo, hi, rfl, _⟩ := h
    rfl
  · obtain ⟨v, d, lo, hi, rfl, hd, q⟩ := h
    refine ⟨_, pss_cons (ps_if (PW.pt (pw_or (pt_not (pt_val (pe_callB call_isi (by rfl) mi (by decide +kernel) (pa_cons (pv 0) (pa_cons (pe_bltn (v := .ty "int") (by rfl) mt boot_int rfl) pa_nil)))))
        (pw_or1 (pt_val (pe_callB call_isi (by rfl) mi (by decide +kernel) (pa_cons (pv 0) (pa_cons (pe_bltn (v := .ty "bool") (by rfl) mb boot_bool rfl) pa_nil))))))) (pss_one (ps_ret pe_bl)) pss_nil)
      (pss_cons (ps_if (PW.pt (pw_and (pt_cmpR op_notN (pv 1) pe_non (nomark _)) (pw_and1 (pt_cmpR op_lt (pv 0) (pv 1) (nomark _))))) (pss_one (ps_ret pe_bl)) pss_nil)
      (pss_one (ps_ret (pe_or (pe_cmp (pc_isN (pv 2))) (pe_one (pe_cmp (pc_le (pv 0) (pv 2)))))))), ?_⟩
    obtain ⟨t, ty, kt⟩ := isi_int hd
    obtain ⟨t2, ty2, kt2⟩ := isi_bool hd
    refine ⟨_, rfl, _, _, t, _, _, rfl, .ty _, ty, kt, _, rfl, ?_⟩
    cases hd with
    | non => exact iteT (iteT q)
    | str x => exact iteT (iteT q)
    | lst _ _ => exact iteT (iteT q)
    | tup _ _ => exact iteT (iteT q)
    | bl b => exact iteF ⟨_, rfl, _, _, t2, _, _, rfl, .ty _, ty2, kt2, _, rfl, iteT q⟩
    | int i =>
      refine iteF ⟨_, rfl, _, _, t2, _, _, rfl, .ty _, ty2, kt2, _, rfl, iteF ?_⟩
      have fin : ∀ b : Bool, Q (.bl (b && hiB i hi)) H → b = true → tRet (tOrV (tIsN (tVar 2)) (tLe (tVar 0) (tVar 2))) { nx := fun _ H' => Q .non H', rt := Q } [some (V.int i), some (optV lo), some (optV hi)] H := by
        intro b q hb
        subst hb
        cases hi with
        | none => exact ⟨_, rfl, _, rfl, iteT q⟩
        | some h => exact ⟨_, rfl, _, rfl, iteF ⟨_, rfl, _, rfl, i, h, rfl, rfl, q⟩⟩
      cases lo with
      | none => exact ⟨_, rfl, rfl, _, rfl, iteF (iteF (fin true q rfl))⟩
      | some l =>
        refine ⟨_, rfl, rfl, _, rfl, iteT ⟨_, rfl, _, rfl, i, l, rfl, rfl, _, rfl, ite2 (fun hc => ?_) (fun hc => ?_)⟩⟩
        · have hl : i < l := of_decide_eq_true hc
          have e : wholeB (.int i) (some l) hi = false := by
            show (decide (l ≤ i) && _) = false
            rw [decide_eq_false (by omega)]
            rfl
          rw [e] at q
          exact q
        · have hl : ¬ i < l := fun z => hc (decide_eq_true z)
          exact fin (decide (l ≤ i)) q (decide_eq_true (by omega))
def isI : PyData → Bool
  | .int _ => true
  | _ => false
end
end Pf

set_option Elab.async false
set_option linter.all false
set_option maxRecDepth 100000
set_option maxHeartbeats 4000000
namespace Pf
open PySem PySem.Spec PyProof.Rows L2

def Off (cs : List Addr) (H : Hp) : Hp := fun b => if b ∈ cs then none else H b
theorem off_in {cs : List Addr} {H : Hp} {b : Addr} (h : b ∈ cs) : Off cs H b = none := by unfold Off; rw [if_pos h]
theorem off_out {cs : List Addr} {H : Hp} {b : Addr} (h : b ∉ cs) : Off cs H b = H b := by unfold Off; rw [if_neg h]
theorem off_le {cs : List Addr} {H : Hp} : Same (Off cs H) H := fun b o e => by
  by_cases h : b ∈ cs
  · rw [off_in h] at e; cases e
  · rw [off_out h] at e; exact e
theorem off_same {cs : List Addr} {H H' : Hp} (s : Same H H') : Same (Off cs H) (Off cs H') := fun b o e => by
  by_cases h : b ∈ cs
  · rw [off_in h] at e; cases e
  · rw [off_out h] at e ⊢; exact s b o e
theorem off_upd {cs : List Addr} {H : Hp} {c : Addr} {o : HO} (h : c ∈ cs) : Off cs (upd H c o) = Off cs H := by
  funext b
  by_cases hb : b ∈ cs
  · rw [off_in hb, off_in hb]
  · rw [off_out hb, off_out hb, upd_ne (fun z => hb (by rw [z]; exact h))]
theorem off_new {cs : List Addr} {H : Hp} {p : Addr} {o : HO} (h : H p = none) : Same (Off cs H) (Off cs (upd H p o)) := off_same (same_upd h)
theorem off_more {cs ds : List Addr} {H : Hp} (h : ∀ c ∈ ds, c ∈ cs ∨ H c = none) : Same (Off cs H) (Off ds H) := fun b o e => by
  by_cases hb : b ∈ cs
  · rw [off_in hb] at e; cases e
  · rw [off_out hb] at e
    by_cases hd : b ∈ ds
    · rcases h b hd with z | z
      · exact absurd z hb
      · rw [z] at e; cases e
    · rw [off_out hd]; exact e
def But (cs : List Addr) (H H' : Hp) : Prop := Same (Off cs H) H'
theorem But.at {cs : List Addr} {H H' : Hp} (s : But cs H H') {b : Addr} {o : HO} (h : H b = some o) (n : b ∉ cs) : H' b = some o := s b o (by rw [off_out n]; exact h)
theorem But.of {cs : List Addr} {H H' : Hp} (s : Same H H') : But cs H H' := (off_le).trans s
theorem But.off {cs ds : List Addr} {H H' : Hp} (s : But cs H H') (h : ∀ c ∈ cs, c ∈ ds) : Same (Off ds H) (Off ds H') := fun b o e => by
  by_cases hb : b ∈ ds
  · rw [off_in hb] at e; cases e
  · rw [off_out hb] at e ⊢
    exact s b o (by rw [off_out (fun z => hb (h b z))]; exact e)

def New (H H' : Hp) : Hp := fun b => match H b with
  | none => H' b
  | some _ => none
theorem new_at {H H' : Hp} {b : Addr} (h : H b = none) : New H H' b = H' b := by unfold New; rw [h]
theorem new_some {H H' : Hp} {b : Addr} {o : HO} (h : New H H' b = some o) : H b = none ∧ H' b = some o := by
  cases e : H b with
  | none => rw [new_at e] at h; exact ⟨rfl, h⟩
  | some u => unfold New at h; rw [e] at h; cases h
theorem new_same {H H1 H2 : Hp} (s : Same H1 H2) : Same (New H H1) (New H H2) := fun b o e => by
  obtain ⟨e1, e2⟩ := new_some e
  rw [new_at e1]
  exact s _ _ e2
theorem new_le {H H' : Hp} : Same (New H H') H' := fun b o e => (new_some e).2
theorem new_off {cs : List Addr} {H H' : Hp} (h : ∀ c ∈ cs, H c ≠ none) : Same (New H H') (Off cs H') := fun b o e => by
  obtain ⟨e1, e2⟩ := new_some e
  rw [off_out (fun z => h b z e1)]
  exact e2
theorem new_upd {cs : List Addr} {H H' : Hp} {c : Addr} {o : HO} (h : c ∈ cs) : Off cs (New H (upd H' c o)) = Off cs (New H H') := by
  funext b
  by_cases hb : b ∈ cs
  · rw [off_in hb, off_in hb]
  · rw [off_out hb, off_out hb]
    unfold New
    cases H b with
    | none => exact upd_ne (fun z => hb (by rw [z]; exact h))
    | some u => rfl
theorem new_start {H H1 H2 : Hp} (s : Same H H1) : Same (New H1 H2) (New H H2) := fun b o e => by
  obtain ⟨e1, e2⟩ := new_some e
  rw [new_at (s.free e1)]
  exact e2

theorem new_step {cs : List Addr} {H H1 H2 : Hp} (s : Same H H1) (h : ∀ c ∈ cs, H1 c ≠ none) : Same (New H1 H2) (Off cs (New H H2)) := fun b o e => by
  obtain ⟨e1, e2⟩ := new_some e
  rw [off_out (fun z => h b z e1), new_at (s.free e1)]
  exact e2

theorem cut_from (xs : List V) (n : Nat) : cutV xs (some (n : Int)) none = xs.drop n := by
  unfold cutV
  rw [HT.sIx_nat, HT.sIx_none]
  by_cases h : n ≤ xs.length
  · rw [Nat.min_eq_left h]
    exact List.take_of_length_le (by rw [List.length_drop]; omega)
  · rw [Nat.min_eq_right (by omega), List.drop_of_length_le (by omega), List.drop_of_length_le (by omega)]
    exact List.take_nil
theorem cut_to (xs : List V) (n : Nat) : cutV xs none (some (n : Int)) = xs.take n := by
  unfold cutV
  rw [HT.sIx_nat, HT.sIx_none]
  rw [List.drop_zero, Nat.sub_zero]
  by_cases h : n ≤ xs.length
  · rw [Nat.min_eq_left h]
  · rw [Nat.min_eq_right (by omega), List.take_of_length_le (by omega), List.take_of_length_le (by omega)]
theorem slA_use {K : PySem.W.Frag} {a : Addr} {xs : List V} {lo hi : Option Int} {H : Hp} {Q : VK} (h : SqT K H a xs) (k : ∀ p H', Same H H' → SqT K H' p (cutV xs lo hi) → Q (.ref p) H') : rSlA K (.ref a) lo hi H Q := by
  refine ⟨a, xs, rfl, h, fun c => ?_, fun _ p hp => ?_⟩
  · have e : cutV xs lo hi = xs := by
      unfold cutV
      rw [c.1, c.2, List.drop_zero, Nat.sub_zero, List.take_length]
    exact k a H (Same.refl _) (by rw [e]; exact h)
  · exact k p _ (same_upd hp) (.inl (.inl upd_same))

theorem slA_new {K : PySem.W.Frag} {a : Addr} {xs : List V} {lo hi : Option Int} {H : Hp} {Q : VK} (h : SqT K H a xs) (hl : (cutV xs lo hi).length ≠ xs.length) (k : ∀ p, H p = none → Q (.ref p) (upd H p (.tup (cutV xs lo hi)))) : rSlA K (.ref a) lo hi H Q := by
  refine ⟨a, xs, rfl, h, fun c => ?_, fun _ p hp => k p hp⟩
  refine absurd ?_ hl
  unfold cutV
  rw [c.1, c.2, List.drop_zero, Nat.sub_zero, List.take_length]

def intsOf : List PyData → Option (List Int)
  | [] => some []
  | .int i :: r => (intsOf r).map (i :: ·)
  | _ :: _ => none
theorem intsOf_map : ∀ ns : List Int, intsOf (ns.map PyData.int) = some ns
  | [] => rfl
  | n :: ns => by
    show (intsOf (ns.map PyData.int)).map (n :: ·) = _
    rw [intsOf_map ns]
    rfl
theorem intsOf_some : ∀ {ds : List PyData} {ns : List Int}, intsOf ds = some ns → ds = ns.map PyData.int
  | [], ns, h => by cases h; rfl
  | .int i :: r, ns, h => by
    have h' : (intsOf r).map (i :: ·) = some ns := h
    cases e : intsOf r with
    | none => rw [e] at h'; cases h'
    | some ms =>
      rw [e] at h'
      cases h'
      rw [intsOf_some e]
      rfl
  | .none :: _, _, h => by cases h
  | .bool _ :: _, _, h => by cases h
  | .str _ :: _, _, h => by cases h
  | .list _ :: _, _, h => by cases h
  | .tuple _ :: _, _, h => by cases h
  | .dict _ :: _, _, h => by cases h
theorem isI_of {d : PyData} (h : isI d = true) : ∃ i, d = .int i := by
  cases d <;> first | exact ⟨_, rfl⟩ | cases h
theorem allI_of : ∀ {ds : List PyData}, ds.all isI = true → ∃ ns : List Int, ds = ns.map PyData.int
  | [], _ => ⟨[], rfl⟩
  | d :: ds, h => by
    rw [List.all_cons, Bool.and_eq_true] at h
    obtain ⟨i, rfl⟩ := isI_of h.1
    obtain ⟨ns, rfl⟩ := allI_of h.2
    exact ⟨i :: ns, rfl⟩
theorem allI_map : ∀ ns : List Int, (ns.map PyData.int).all isI = true
  | [] => rfl
  | _ :: ns => by
    rw [List.map_cons, List.all_cons, allI_map ns]
    rfl
structure LP where
  g : Int
  a : Int
  m : Int
  h : Int
  cs : List Int
def LP.all (l : LP) : List Int := l.g :: l.a :: l.m :: l.h :: l.cs
def mkLog : List Int → Option LP
  | g :: a :: m :: h :: cs => if cs.length = 8 ∧ 0 ≤ g ∧ 0 ≤ a ∧ a < m ∧ 0 ≤ h then some ⟨g, a, m, h, cs⟩ else none
  | _ => none
def asLog (d : PyData) : Option LP := match d with
  | .tuple ds => (intsOf ds).bind mkLog
  | _ => none
theorem mkLog_some {ns : List Int} {l : LP} (h : mkLog ns = some l) : ns = l.all ∧ l.cs.length = 8 ∧ 0 ≤ l.g ∧ 0 ≤ l.a ∧ l.a < l.m ∧ 0 ≤ l.h := by
  unfold mkLog at h
  split at h
  · split at h
    · rename_i c
      cases h
      exact ⟨rfl, c⟩
    · cases h
  · cases h
theorem asLog_some {d : PyData} {l : LP} (h : asLog d = some l) : d = .tuple (l.all.map PyData.int) ∧ l.cs.length = 8 ∧ 0 ≤ l.g ∧ 0 ≤ l.a ∧ l.a < l.m ∧ 0 ≤ l.h := by
  unfold asLog at h
  split at h
  · rename_i ds
    cases e : intsOf ds with
    | none => rw [e] at h; cases h
    | some ns =>
      rw [e] at h
      obtain ⟨h1, h2⟩ := mkLog_some (show mkLog ns = some l from h)
      rw [intsOf_some e, h1]
      exact ⟨rfl, h2⟩
  · cases h
theorem asLog_mk {l : LP} (h : l.cs.length = 8 ∧ 0 ≤ l.g ∧ 0 ≤ l.a ∧ l.a < l.m ∧ 0 ≤ l.h) : asLog (.tuple (l.all.map PyData.int)) = some l := by
  show (intsOf _).bind mkLog = _
  rw [intsOf_map]
  show (if l.cs.length = 8 ∧ 0 ≤ l.g ∧ 0 ≤ l.a ∧ l.a < l.m ∧ 0 ≤ l.h then some (⟨l.g, l.a, l.m, l.h, l.cs⟩ : LP) else none) = _
  rw [if_pos h]
theorem dps_inv {K : PySem.W.Frag} {H : Hp} : ∀ {ns : List Int} {vs : List V}, DpAll K H vs (ns.map PyData.int) → vs = ns.map V.int
  | [], _, h => by cases h; rfl
  | n :: ns, _, h => by
    cases h with
    | cons h1 h2 =>
      cases h1
      rw [dps_inv h2]
      rfl
theorem log_read {K : PySem.W.Frag} {H : Hp} {v : V} {d : PyData} {l : LP} (hd : Dp K H v d) (h : asLog d = some l) : ∃ a, v = .ref a ∧ SqT K H a (l.all.map V.int) := by
  obtain ⟨rfl, _⟩ := asLog_some h
  cases hd with
  | tup hs ha => exact ⟨_, rfl, dps_inv ha ▸ hs⟩
theorem whole_lo {d : PyData} {l : Int} (h : wholeB d (some l) none = true) : ∃ i, d = .int i ∧ l ≤ i := by
  cases d with
  | int i =>
    have h' : (decide (l ≤ i) && true) = true := h
    rw [Bool.and_true] at h'
    exact ⟨i, rfl, of_decide_eq_true h'⟩
  | _ => cases h
theorem whole_both {d : PyData} {l u : Int} (h : wholeB d (some l) (some u) = true) : ∃ i, d = .int i ∧ l ≤ i ∧ i ≤ u := by
  cases d with
  | int i =>
    have h' : (decide (l ≤ i) && decide (i ≤ u)) = true := h
    rw [Bool.and_eq_true] at h'
    exact ⟨i, rfl, of_decide_eq_true h'.1, of_decide_eq_true h'.2⟩
  | _ => cases h
theorem asLog_none_of {d : PyData} (h : ∀ l, asLog d = some l → False) : (asLog d).isSome = false := by
  cases e : asLog d with
  | none => rfl
  | some l => exact (h l e).elim

section
variable {P : Program} {w : World} {K : PySem.W.Frag} {mg : Str → Option Value} {base : Heap}
def spSlot : Sp := fun vs H Q _ => ∃ (S t : Int), vs = [.int S, .int t] ∧ 0 < S ∧ Q (.int (2 + t % S)) H
def spIsLog (K : PySem.W.Frag) : Sp := fun vs H Q _ => ∃ v d, vs = [v] ∧ Dp K H v d ∧ ∀ H', Same H H' → Q (.bl (asLog d).isSome) H'
end
end Pf

set_option Elab.async false
set_option linter.all false
set_option maxRecDepth 100000
set_option maxHeartbeats 4000000
namespace Pf
open PySem PySem.Spec PyProof.Rows L2
theorem n_ml : ¬ (("many" : Str) = "loose") := by decide +kernel
theorem n_ms : ¬ (("many" : Str) = "settled") := by decide +kernel
theorem n_sl : ¬ (("settled" : Str) = "loose") := by decide +kernel
theorem n_sm : ¬ (("settled" : Str) = "many") := by decide +kernel
theorem n_lm : ¬ (("loose" : Str) = "many") := by decide +kernel
theorem n_ls : ¬ (("loose" : Str) = "settled") := by decide +kernel
def fl (n : Int) (s l : Addr) : List (Str × V) := putF "loose" (.ref l) (putF "settled" (.ref s) (putF "many" (.int n) []))
theorem fl_eq (n : Int) (s l : Addr) : fl n s l = ([("many", V.int n), ("settled", V.ref s), ("loose", V.ref l)] : List (Str × V)) := by
  unfold fl
  simp only [putF, if_neg n_ms, if_neg n_sm, if_neg n_ml, if_neg n_lm, if_neg n_sl, if_neg n_ls]
theorem fl_many (n : Int) (s l : Addr) : (fl n s l).lookup ("many" : Str) = some (.int n) := by
  unfold fl
  rw [lookup_putF, if_neg n_ml, lookup_putF, if_neg n_ms, lookup_putF, if_pos rfl]
theorem fl_settled (n : Int) (s l : Addr) : (fl n s l).lookup ("settled" : Str) = some (.ref s) := by
  unfold fl
  rw [lookup_putF, if_neg n_sl, lookup_putF, if_pos rfl]
theorem fl_loose (n : Int) (s l : Addr) : (fl n s l).lookup ("loose" : Str) = some (.ref l) := by
  unfold fl
  rw [lookup_putF, if_pos rfl]
theorem fl_no (n : Int) (s l : Addr) {m : Str} (h1 : ¬ m = "loose") (h2 : ¬ m = "settled") (h3 : ¬ m = "many") : (fl n s l).lookup m = none := by
  unfold fl
  rw [lookup_putF, if_neg h1, lookup_putF, if_neg h2, lookup_putF, if_neg h3]
  rfl
theorem fl_len (n : Int) (s l : Addr) : (fl n s l).length < 1000 := by
  rw [fl_eq]
  show 3 < 1000
  decide
theorem fl_put_loose (n : Int) (s l l' : Addr) : putF "loose" (.ref l') (fl n s l) = fl n s l' := by
  rw [fl_eq, fl_eq]
  simp only [putF, if_neg n_ms, if_neg n_sm, if_neg n_ml, if_neg n_lm, if_neg n_sl, if_neg n_ls, if_pos]
def LsAt (H : Hp) (ts : List V) (lv : List (Int × V)) : Prop := ts.length = lv.length ∧ ∀ (i : Nat) (q : Int × V), lv[i]? = some q → ∃ b, ts[i]? = some (.ref b) ∧ H b = some (.tup [.int q.1, q.2])
theorem LsAt.same {H H' : Hp} {ts : List V} {lv : List (Int × V)} (h : LsAt H ts lv) (s : Same H H') : LsAt H' ts lv := ⟨h.1, fun i q e => by
  obtain ⟨b, e1, e2⟩ := h.2 i q e
  exact ⟨b, e1, s _ _ e2⟩⟩
def DiskAt (C : Addr) (H : Hp) (d : Addr) (n : Int) (sv : List V) (lv : List (Int × V)) : Prop :=
  ∃ dx s l ts, H d = some (.ins C dx (fl n s l)) ∧ H s = some (.tup sv) ∧ sv.length = n.toNat ∧ 0 ≤ n ∧ H l = some (.tup ts) ∧ LsAt H ts lv
theorem DiskAt.same {C : Addr} {H H' : Hp} {d : Addr} {n : Int} {sv : List V} {lv : List (Int × V)} (h : DiskAt C H d n sv lv) (s : Same H H') : DiskAt C H' d n sv lv := by
  obtain ⟨dx, a, b, ts, h1, h2, h3, h4, h5, h6⟩ := h
  exact ⟨dx, a, b, ts, s _ _ h1, s _ _ h2, h3, h4, s _ _ h5, h6.same s⟩
def nowV (sv : List V) (lv : List (Int × V)) (p : Int) : V := lv.foldl (fun v q => if q.1 = p then q.2 else v) (sv.getD p.toNat .non)
structure DTxt (K : PySem.W.Frag) (C : Addr) : Prop where
  cl : Cls K C
  nM : NoAttr K C "many"
  nS : NoAttr K C "settled"
  nL : NoAttr K C "loose"

theorem scInit : FnScope ["self", "many"] ["self", "many"] (defScope sInit) := ⟨rfl, rfl, rfl, by decide +kernel, rfl, by decide +kernel, by decide +kernel⟩
theorem scWrite : FnScope ["self", "plate", "value"] ["self", "plate", "value"] (defScope sWrite) := ⟨rfl, rfl, rfl, by decide +kernel, rfl, by decide +kernel, by decide +kernel⟩
theorem scNow : FnScope ["self", "plate", "value", "written", "late"] ["self", "plate"] (defScope sNow) := ⟨rfl, rfl, rfl, by decide +kernel, rfl, by decide +kernel, by decide +kernel⟩
theorem scCheck : FnScope ["self", "plate"] ["self", "plate"] (defScope sCheck) := ⟨rfl, rfl, rfl, by decide +kernel, rfl, by decide +kernel, by decide +kernel⟩
section
variable {P : Program} {w : World} {K : PySem.W.Frag} {mg : Str → Option Value} {base : Heap} {C : Addr}
theorem tuple_mul1 (l : Addr) (items : Array Value) (n : Nat) (dd : Option Addr) (sl : Array (Option Value)) (u : Tok) :
    Meets (Builtin.«tuple.__mul__» ⟨[.ref l, .int 1 u], []⟩) (fun _ R s => s.heap.get? l = some { cls := .type "tuple", dict := dd, data := .seq items n, slots := sl } ∧ R (.ok (.ret (Value.ref l))) s) :=
  .of_wp fun prog w A R s h => by
    obtain ⟨hp, g, d, tk, os⟩ := s
    obtain ⟨hl, h⟩ := h
    have f1 := AutoSeq1.idx_int
    have c1 : (items.isEmpty || (1 : Int) == 1) = true := by simp
    wp_walk using wpAny_loadPart' hl
    repeat (first
      | (refine wpAny_ite_true (by rw [c1]) ?_; wp_walk using wpAny_loadPart' hl)
      | (refine wpAny_ite_false (by simp) ?_; wp_walk using wpAny_loadPart' hl))
    exact ⟨_, rfl, h⟩
def rRep1 (K : PySem.W.Frag) : R2 := fun x y H Q => ∃ l xs, x = .ref l ∧ y = .int 1 ∧ SqT K H l xs ∧ Q (.ref l) H
theorem op_rep1 {X : Cx} : OpR X (binaryOp .Mult) (rRep1 X.K) := by
  intro pins s σ H x y v u Q I rx ry h
  obtain ⟨l, xs, rfl, rfl, hT, q⟩ := h
  cases rx
  obtain ⟨t, rfl⟩ := ry
  obtain ⟨its, r, ⟨⟨cls, dd, data, sl⟩, ho, hc, n, hd⟩, hs⟩ := I.tuple hT
  simp only at hc hd
  subst hc hd
  exact wpAny_binaryOp_repeat_ref (T := "tuple") (U := "int") (by decide) ⟨_, ho, rfl⟩ (fun s' => typeIs_int s' 1 t) noFill_tuple_mul F.fills_int_mul F.slot_int_rmul repeat_tuple F.slot_int_index.lookup
    (call_meets F.slot_int_rmul (typeIs_int s 1 t) F.entry_int_rmul (F.args_int_rmul_2 _ _) (int_rmul_tuple 1 t l its.toArray n dd sl)
      ⟨ho, rfl, ⟨_, ho, rfl⟩, call_meets F.slot_tuple_mul ⟨_, ho, rfl⟩ F.entry_tuple_mul (F.args_tuple_mul_2 _ _) (tuple_mul1 l its.toArray n dd sl t) ⟨ho, ⟨.ref l, H, I, rfl, q⟩⟩⟩)
/-- (v,) * k for any k from 1 on -/
def rRepK : R2 := fun x y H Q => ∃ l v k, x = .ref l ∧ y = .int k ∧ H l = some (.tup [v]) ∧ 1 ≤ k ∧ k ≤ 1000 ∧ ∀ p H', Same H H' → H' p = some (.tup (List.replicate k.toNat v)) → Q (.ref p) H'
theorem op_repK {X : Cx} : OpR X (binaryOp .Mult) rRepK := by
  intro pins s σ H x y v u Q I rx ry h
  obtain ⟨l, z, k, rfl, rfl, hT, k0, k1, q⟩ := h
  by_cases c1 : k = 1
  · subst c1
    exact op_rep1 pins s σ H _ _ v u Q I rx ry ⟨l, _, rfl, rfl, SqT.of hT, q l H (Same.refl _) hT⟩
  · refine op_repT pins s σ H _ _ v u Q I rx ry ⟨l, k, _, rfl, rfl, SqT.of hT, by simp, by omega, k1, by show 1 ≤ 1000; decide, fun p hp => q p _ (same_upd hp) ?_⟩
    rw [upd_same]
    congr 2
    simp
def spInit (C : Addr) : Sp := fun vs H Q _ => ∃ (d dx : Addr) (n : Int), vs = [.ref d, .int n] ∧ H d = some (.ins C dx []) ∧ 1 ≤ n ∧ n ≤ 1000 ∧
  ∀ H' e, But [d] H H' → H e = none → H' e = some (.tup []) → DiskAt C H' d n (List.replicate n.toNat (.ref e)) [] → Q .non H'
theorem ok_init {f : Addr} {fd : FuncData} (F : Fun K "__init__" "Disk.__init__" sInit f fd) (T : DTxt K C) : FnOk P w K mg base CX0 1 f fd ["self", "many"] (spInit C) := by
  refine F.ok scInit (fun vs H Q E h => ?_) (fun cdv A outer s H vs Q E hr h => ?_)
  · obtain ⟨d, dx, n, rfl, _⟩ := h
    rfl
  · obtain ⟨d, dx, n, rfl, hd, h2, h3, k⟩ := h
    refine ⟨_, pss_cons (ps_fld (pv 0) (pv 1) rfl) (pss_cons (ps_fld (pv 0) (pe_op op_repK (pe_tup (pa_cons (pe_tup pa_nil) pa_nil)) (pv 1)) rfl) (pss_one (ps_fld (pv 0) (pe_tup pa_nil) rfl))), ?_⟩
    refine ⟨_, rfl, _, rfl, d, C, dx, [], rfl, hd, T.cl, T.nM, (by show 0 < 1000; decide), ?_⟩
    have b1 : But [d] H (upd H d (.ins C dx (putF "many" (.int n) []))) := fun b o q => by
      have hb : b ∉ [d] := fun z => by rw [off_in z] at q; cases q
      rw [off_out hb] at q
      rw [upd_ne (fun z => hb (by rw [z]; simp))]
      exact q
    have ed1 : upd H d (.ins C dx (putF "many" (.int n) [])) d = some (.ins C dx (putF "many" (.int n) [])) := upd_same
    generalize upd H d (.ins C dx (putF "many" (.int n) [])) = H1 at b1 ed1 ⊢
    refine ⟨Nat.zero_le _, fun e he => ⟨by show 1 ≤ sizeLine; decide, fun u hu => ?_⟩⟩
    have s2 := same_upd (o := .tup []) he
    have ee2 : upd H1 e (.tup []) e = some (.tup []) := upd_same
    have ne : e ≠ d := fun z => by rw [z, ed1] at he; cases he
    have he0 : H e = none := by
      cases q : H e with
      | none => rfl
      | some o => rw [b1.at q (by simp [ne])] at he; cases he
    generalize upd H1 e (.tup []) = H2 at s2 ee2 hu ⊢
    have s3 := same_upd (o := .tup [.ref e]) hu
    have eu3 : upd H2 u (.tup [.ref e]) u = some (.tup [.ref e]) := upd_same
    generalize upd H2 u (.tup [.ref e]) = H3 at s3 eu3 ⊢
    have s13 := s2.trans s3
    refine ⟨_, rfl, u, .ref e, n, rfl, rfl, eu3, h2, h3, fun s' H4 s4 es4 => ?_⟩
    have s14 := s13.trans s4
    have ee4 := s4 _ _ (s3 _ _ ee2)
    refine ⟨_, rfl, d, C, dx, putF "many" (.int n) [], rfl, s14 _ _ ed1, T.cl, T.nS, (by show 1 < 1000; decide), ?_⟩
    have ns : s' ≠ d := fun z => by rw [z, s14 _ _ ed1] at es4; cases es4
    have b5 : But [d] H (upd H4 d (.ins C dx (putF "settled" (.ref s') (putF "many" (.int n) [])))) := fun b o q => by
      have hb : b ≠ d := fun z => by rw [z, off_in (by simp)] at q; cases q
      rw [upd_ne hb]
      exact s14 _ _ (b1 _ _ q)
    have ed5 : upd H4 d (.ins C dx (putF "settled" (.ref s') (putF "many" (.int n) []))) d = some (.ins C dx (putF "settled" (.ref s') (putF "many" (.int n) []))) := upd_same
    have es5 : upd H4 d (.ins C dx (putF "settled" (.ref s') (putF "many" (.int n) []))) s' = some (.tup (List.replicate n.toNat (.ref e))) := by rw [upd_ne ns]; exact es4
    have ee5 : upd H4 d (.ins C dx (putF "settled" (.ref s') (putF "many" (.int n) []))) e = some (.tup []) := by rw [upd_ne ne]; exact ee4
    generalize upd H4 d (.ins C dx (putF "settled" (.ref s') (putF "many" (.int n) []))) = H5 at b5 ed5 es5 ee5 ⊢
    refine ⟨Nat.zero_le _, fun l hl => ?_⟩
    have s6 := same_upd (o := .tup []) hl
    have el6 : upd H5 l (.tup []) l = some (.tup []) := upd_same
    have nl : l ≠ d := fun z => by rw [z, ed5] at hl; cases hl
    generalize upd H5 l (.tup []) = H6 at s6 el6 ⊢
    refine ⟨_, rfl, d, C, dx, putF "settled" (.ref s') (putF "many" (.int n) []), rfl, s6 _ _ ed5, T.cl, T.nL, ?_, ?_⟩
    · show (if ("many" : Str) = "settled" then _ else (("many" : Str), V.int n) :: putF "settled" (V.ref s') []).length < 1000
      rw [if_neg n_ms]
      show 2 < 1000
      decide
    refine k _ e (fun b o q => ?_) he0 (by rw [upd_ne ne]; exact s6 _ _ ee5) ⟨dx, s', l, [], upd_same, by rw [upd_ne ns]; exact s6 _ _ es5, by rw [List.length_replicate], by omega, by rw [upd_ne nl]; exact el6, ⟨rfl, fun i q z => by simp at z⟩⟩
    have hb : b ≠ d := fun z => by rw [z, off_in (by simp)] at q; cases q
    rw [upd_ne hb]
    exact s6 _ _ (b5 _ _ q)
def spCheck (C : Addr) : Sp := fun vs H Q _ => ∃ (d : Addr) (n p : Int) (sv : List V) (lv : List (Int × V)), vs = [.ref d, .int p] ∧ DiskAt C H d n sv lv ∧ 0 ≤ p ∧ p < n ∧ Q .non H
theorem ok_check {f fW : Addr} {fd fdW : FuncData} (F : Fun K "check_plate" "Disk.check_plate" sCheck f fd) (T : DTxt K C) (GW : FnOk P w K mg base CX0 1 fW fdW ["thing", "low", "high"] (spWhole K)) (kW : PySem.W.keepIn K (.ref fW) = true) (gW : mg "is_whole" = some (.ref fW))
    (b3 : Binds K fdW ["thing", "low", "high"] []) : FnOk P w K mg base CX0 2 f fd ["self", "plate"] (spCheck C) := by
  refine F.ok scCheck (fun vs H Q E h => ?_) (fun cdv A outer s H vs Q E hr h => ?_)
  · obtain ⟨d, n, p, sv, lv, rfl, _⟩ := h
    rfl
  · obtain ⟨d, n, p, sv, lv, rfl, D, h0, h1, k⟩ := h
    obtain ⟨dx, a, b, ts, e1, e2, e3, e4, e5, e6⟩ := id D
    refine ⟨_, pss_one (ps_if (pt_not (pt_val (pe_call GW hr rfl gW kW b3 .nil pass0 (pa_cons (pv 1) (pa_cons pe_int (pa_cons (pe_op op_sub (pe_fld (pv 0) rfl) pe_int) pa_nil)))))) (pss_one ps_never) pss_nil), ?_⟩
    refine ⟨_, rfl, _, rfl, d, C, dx, _, _, rfl, e1, T.cl, T.nM, fl_many _ _ _, _, _, rfl, rfl, .int p, .int p, some 0, some (n - 1), rfl, .int p, _, rfl, ?_⟩
    have e : wholeB (.int p) (some 0) (some (n - 1)) = true := by
      show (decide (0 ≤ p) && decide (p ≤ n - 1)) = true
      rw [decide_eq_true h0, decide_eq_true (by omega)]
      rfl
    rw [e]
    exact iteF k
def spWrite (C : Addr) : Sp := fun vs H Q _ => ∃ (d : Addr) (n p : Int) (v : V) (sv : List V) (lv : List (Int × V)), vs = [.ref d, .int p, v] ∧ DiskAt C H d n sv lv ∧ 0 ≤ p ∧ p < n ∧ lv.length ≤ 1000 ∧
  ∀ H', But [d] H H' → DiskAt C H' d n sv (lv ++ [(p, v)]) → Q .non H'
theorem ok_write {f fK : Addr} {fd fdK : FuncData} (F : Fun K "write" "Disk.write" sWrite f fd) (T : DTxt K C) (GK : FnOk P w K mg base CX0 2 fK fdK ["self", "plate"] (spCheck C)) (mK : Meth K C "check_plate" fK) (bK : Binds K fdK ["self", "plate"] []) :
    FnOk P w K mg base CX0 3 f fd ["self", "plate", "value"] (spWrite C) := by
  refine F.ok scWrite (fun vs H Q E h => ?_) (fun cdv A outer s H vs Q E hr h => ?_)
  · obtain ⟨d, n, p, v, sv, lv, rfl, _⟩ := h
    rfl
  · obtain ⟨d, n, p, v, sv, lv, rfl, D, h0, h1, hz, k⟩ := h
    obtain ⟨dx, a, b, ts, e1, e2, e3, e4, e5, e6⟩ := id D
    refine ⟨_, pss_cons (ps_expr (pe_meth (pv 0) T.cl mK GK hr bK .nil pass0 (pa_cons (pv 1) pa_nil)))
      (pss_one (ps_fld (pv 0) (pe_op op_catA (pe_fld (pv 0) rfl) (pe_tup (pa_cons (pe_tup (pa_cons (pv 1) (pa_cons (pv 2) pa_nil))) pa_nil))) rfl)), ?_⟩
    refine ⟨_, rfl, d, dx, _, rfl, e1, fl_no _ _ _ (by decide +kernel) (by decide +kernel) (by decide +kernel), _, rfl, d, n, p, sv, lv, rfl, D, h0, h1, ?_⟩
    refine ⟨_, rfl, d, C, dx, _, _, rfl, e1, T.cl, T.nL, fl_loose _ _ _, ?_⟩
    refine ⟨_, rfl, _, rfl, by show 2 ≤ sizeLine; decide, fun u hu => ⟨by show 1 ≤ sizeLine; decide, fun u2 hu2 => ?_⟩⟩
    have nu2 : u2 ≠ u := fun z => by rw [z, upd_same] at hu2; cases hu2
    have hu20 : H u2 = none := by rw [upd_ne nu2] at hu2; exact hu2
    have s2 : Same H (upd (upd H u (.tup [.int p, v])) u2 (.tup [.ref u])) := (same_upd hu).trans (same_upd hu2)
    have hlen : ts.length = lv.length := e6.1
    -- behind: the new tuple of pairs stands at c
    have fin : ∀ (c : Addr) (H2 : Hp), Same (upd (upd H u (.tup [.int p, v])) u2 (.tup [.ref u])) H2 → H2 c = some (.tup (ts ++ [.ref u])) →
        ∃ v1, (L2.start ["self", "plate", "value"] [V.ref d, V.int p, v])[0]? = some (some v1) ∧ ∃ a C' dx' fs, v1 = V.ref a ∧ H2 a = some (.ins C' dx' fs) ∧ Cls K C' ∧ NoAttr K C' "loose" ∧ fs.length < 1000 ∧ Q .non (upd H2 a (.ins C' dx' (putF "loose" (.ref c) fs))) := by
      intro c H2 s hc
      have s' : Same H H2 := s2.trans s
      refine ⟨_, rfl, d, C, dx, _, rfl, s' _ _ e1, T.cl, T.nL, fl_len _ _ _, ?_⟩
      rw [fl_put_loose]
      have nd : ∀ {q : Addr} {xs : List V}, H2 q = some (.tup xs) → q ≠ d := fun h z => by
        rw [z, s' _ _ e1] at h
        cases h
      refine k _ (fun q o z => ?_) ⟨dx, a, c, ts ++ [.ref u], upd_same, ?_, e3, e4, ?_, ?_, ?_⟩
      · have hb : q ∉ [d] := fun y => by rw [off_in y] at z; cases z
        rw [off_out hb] at z
        rw [upd_ne (fun y => hb (by rw [y]; simp))]
        exact s' _ _ z
      · rw [upd_ne (nd (s' _ _ e2))]
        exact s' _ _ e2
      · rw [upd_ne (nd hc)]
        exact hc
      · rw [List.length_append, List.length_append, hlen]
        rfl
      · intro i q z
        by_cases hi : i < lv.length
        · rw [List.getElem?_append_left hi] at z
          obtain ⟨b', y1, y2⟩ := e6.2 i q z
          refine ⟨b', ?_, ?_⟩
          · rw [List.getElem?_append_left (by omega)]
            exact y1
          · rw [upd_ne (nd (s' _ _ y2))]
            exact s' _ _ y2
        · rw [List.getElem?_append_right (by omega)] at z
          have hi0 : i - lv.length = 0 := by
            have := (List.getElem?_eq_some_iff.mp z).1
            simp at this
            omega
          rw [hi0] at z
          cases (Option.some.inj z)
          refine ⟨u, ?_, ?_⟩
          · rw [List.getElem?_append_right (by omega), hlen, hi0]
            rfl
          · have hu' : H2 u = some (.tup [.int p, v]) := s _ _ (by rw [upd_ne nu2.symm, upd_same])
            rw [upd_ne (nd hu')]
            exact hu'
    refine ⟨b, u2, ts, [.ref u], rfl, rfl, SqT.of (s2 _ _ e5), SqT.of upd_same, ?_, fun z => ?_, fun _ z => absurd z (by simp), fun _ _ c hc => ?_⟩
    · rw [hlen]
      have := small1000 (n := 1000) (by decide)
      show lv.length + 1 ≤ sizeLine
      omega
    · subst z
      exact fin u2 _ (Same.refl _) upd_same
    · exact fin c _ (same_upd hc) upd_same
def spNow (C : Addr) : Sp := fun vs H Q _ => ∃ (d : Addr) (n p : Int) (sv : List V) (lv : List (Int × V)), vs = [.ref d, .int p] ∧ DiskAt C H d n sv lv ∧ 0 ≤ p ∧ p < n ∧ Q (nowV sv lv p) H
theorem ok_now {f fK : Addr} {fd fdK : FuncData} (F : Fun K "now" "Disk.now" sNow f fd) (T : DTxt K C) (GK : FnOk P w K mg base CX0 2 fK fdK ["self", "plate"] (spCheck C)) (mK : Meth K C "check_plate" fK) (bK : Binds K fdK ["self", "plate"] []) :
    FnOk P w K mg base CX0 3 f fd ["self", "plate"] (spNow C) := by
  refine F.ok scNow (fun vs H Q E h => ?_) (fun cdv A outer s H vs Q E hr h => ?_)
  · obtain ⟨d, n, p, sv, lv, rfl, _⟩ := h
    rfl
  · obtain ⟨d, n, p, sv, lv, rfl, D, h0, h1, k⟩ := h
    obtain ⟨dx, a, b, ts, e1, e2, e3, e4, e5, e6⟩ := id D
    refine ⟨_, pss_cons (ps_expr (pe_meth (pv 0) T.cl mK GK hr bK .nil pass0 (pa_cons (pv 1) pa_nil)))
      (pss_cons (ps_set (i := 2) scNow.nd rfl (.inl rfl) (pe_ix ix_tup (pe_fld (pv 0) rfl) (pv 1) (fun _ _ => rfl)))
      (pss_cons (ps_for PassesOwn.never rfl (pi_tup (pe_fld (pv 0) rfl)) (pg_tup rfl (pgs_cons (pg_name (i := 3) scNow.nd rfl (.inl rfl)) (pgs_cons (pg_name (i := 4) scNow.nd rfl (.inl rfl)) pgs_nil)))
        (pss_one (ps_if (pt_cmpR op_eq (pv 3) (pv 1) (nomark _)) (pss_one (ps_set (i := 2) scNow.nd rfl (.inl rfl) (pv 4))) pss_nil)))
      (pss_one (ps_ret (pv 2))))), ?_⟩
    refine ⟨_, rfl, d, dx, _, rfl, e1, fl_no _ _ _ (by decide +kernel) (by decide +kernel) (by decide +kernel), _, rfl, d, n, p, sv, lv, rfl, D, h0, h1, ?_⟩
    have hp : p.toNat < sv.length := by omega
    have ep : ((p.toNat : Nat) : Int) = p := by omega
    refine ⟨_, rfl, d, C, dx, _, _, rfl, e1, T.cl, T.nS, fl_settled _ _ _, _, rfl, a, sv, p, sv.getD p.toNat .non, rfl, rfl, SqT.of e2, ?_, ?_⟩
    · rw [← ep]
      refine atI_nat ?_
      rw [Int.toNat_natCast, List.getD_eq_getElem?_getD, List.getElem?_eq_getElem hp]
      rfl
    refine ⟨_, rfl, d, C, dx, _, _, rfl, e1, T.cl, T.nL, fl_loose _ _ _, b, rfl, ⟨_, SqT.of e5⟩, for_tup (K := K) (a := b) (xs := ts)
      (fun i σ H' => H' = H ∧ ∃ y3 y4, σ = [some (.ref d), some (.int p), some ((lv.take i).foldl (fun v q => if q.1 = p then q.2 else v) (sv.getD p.toNat .non)), y3, y4]) ⟨rfl, none, none, rfl⟩ (fun i σ H' _ z => by rw [z.1]; exact SqT.of e5) ?_ ?_⟩
    · rintro i x σ H' hi ⟨rfl, y3, y4, rfl⟩
      have hil : i < lv.length := by
        rw [← e6.1]
        exact (List.getElem?_eq_some_iff.mp hi).1
      obtain ⟨c, z1, z2⟩ := e6.2 i _ (List.getElem?_eq_getElem hil)
      have ex : x = .ref c := Option.some.inj (hi.symm.trans z1)
      subst ex
      refine ⟨c, _, rfl, SqT.of z2, rfl, _, _, rfl, _, _, rfl, rfl, ?_⟩
      have et : (lv.take (i + 1)).foldl (fun v q => if q.1 = p then q.2 else v) (sv.getD p.toNat .non) = if lv[i].1 = p then lv[i].2 else (lv.take i).foldl (fun v q => if q.1 = p then q.2 else v) (sv.getD p.toNat .non) := by
        rw [List.take_add_one, List.getElem?_eq_getElem hil, List.foldl_append]
        rfl
      refine ⟨_, rfl, _, rfl, rfl, _, rfl, ite2 (fun hc => ?_) (fun hc => ?_)⟩
      · have he : lv[i].1 = p := by
          have := of_decide_eq_true hc
          injection this
        exact ⟨_, rfl, rfl, _, _, by rw [et, if_pos he]; rfl⟩
      · have he : ¬ lv[i].1 = p := fun z => hc (decide_eq_true (by rw [z]))
        exact ⟨rfl, _, _, by rw [et, if_neg he]; rfl⟩
    · rintro σ H' ⟨rfl, y3, y4, rfl⟩
      refine ⟨_, rfl, ?_⟩
      rw [e6.1, List.take_length]
      exact k
end
end Pf

set_option Elab.async false
set_option linter.all false
set_option maxRecDepth 100000
set_option maxHeartbeats 4000000
namespace Pf
open PySem PySem.Spec PyProof.Rows L2
theorem lay_ints : ∀ ns : List Int, PyData.canLayAll0 (ns.map PyData.int) = true
  | [] => by simp [PyData.canLayAll0]
  | n :: ns => by simp [PyData.canLayAll0, PyData.canLay0, lay_ints ns]
theorem dep_ints : ∀ ns : List Int, PyData.depthAll (ns.map PyData.int) = 0
  | [] => by simp [PyData.depthAll]
  | n :: ns => by simp [PyData.depthAll, PyData.depth, dep_ints ns]
theorem shaped_list {ds : List PyData} (h1 : PyData.canLayAll0 ds = true) (h2 : PyData.depthAll ds ≤ 60) : SeqAt.shaped (.list ds) = true := by
  have h3 : PyData.depth (.list ds) ≤ 64 := by
    simp only [PyData.depth]
    omega
  show (PyData.canLay0 (.list ds) && decide (PyData.depth (.list ds) ≤ 64)) = true
  rw [Bool.and_eq_true]
  exact ⟨by simp only [PyData.canLay0]; exact h1, decide_eq_true h3⟩
theorem scNum : FnScope ["script", "index", "cell", "blend"] ["script", "index"] (defScope sNum) := ⟨rfl, rfl, rfl, by decide +kernel, rfl, by decide +kernel, by decide +kernel⟩
theorem scTake : FnScope ["draw", "many"] ["draw", "many"] (defScope sTake) := ⟨rfl, rfl, rfl, by decide +kernel, rfl, by decide +kernel, by decide +kernel⟩
theorem scPick : FnScope ["draw", "items"] ["draw", "items"] (defScope sPick) := ⟨rfl, rfl, rfl, by decide +kernel, rfl, by decide +kernel, by decide +kernel⟩
section
variable {P : Program} {w : World} {K : PySem.W.Frag} {mg : Str → Option Value} {base : Heap}
def spNum (K : PySem.W.Frag) : Sp := fun vs H Q _ => ∃ (a : Addr) (ns : List Int) (i : Int), vs = [.ref a, .int i] ∧ SqL K H a (ns.map V.int) ∧ ns.length ≤ 63 ∧ ∀ r H', Same H H' → Q (.int r) H'
theorem ok_num {f : Addr} {fd : FuncData} (F : Fun K "_law_number" "_law_number" sNum f fd) (mi : mg "int" = none) (ml : mg "len" = none) (ma : mg "abs" = none) : FnOk P w K mg base CX0 1 f fd ["script", "index"] (spNum K) := by
  refine F.ok scNum (fun vs H Q E h => ?_) (fun cdv A outer s H vs Q E hr h => ?_)
  · obtain ⟨a, ns, i, rfl, _⟩ := h
    rfl
  · obtain ⟨a, ns, i, rfl, hS, hlen, k⟩ := h
    refine ⟨_, pss_cons (ps_if (pt_cmpR (op_eqD hr.units) (pv 0) (pe_lst pa_nil) (nomark _))
        (pss_one (ps_ret (pe_callTy call_int1 (by rfl) mi boot_int (pa_cons (pe_op op_mod (pe_op op_add (pe_op op_mul (pv 1) pe_int) pe_int) pe_int) pa_nil)))) pss_nil)
      (pss_cons (ps_set (i := 2) scNum.nd rfl (.inl rfl) (pe_ix ix_list (pv 0) (pe_op op_mod (pv 1) (pe_callB call_len_seq (by rfl) ml boot_len (pa_cons (pv 0) pa_nil))) (fun _ _ => rfl)))
      (pss_cons (ps_if (pt_cmpR op_ge (pe_callB call_abs (by rfl) ma (by decide +kernel) (pa_cons (pv 2) pa_nil)) (pe_op op_pow pe_int pe_int) (nomark _))
        (pss_one (ps_set (i := 2) scNum.nd rfl (.inl rfl) (pe_op op_mod (pv 2) (pe_op op_pow pe_int pe_int)))) pss_nil)
      (pss_cons (ps_set (i := 3) scNum.nd rfl (.inl rfl) (pe_op op_mod (pe_op op_add (pe_op op_mul (pe_op op_add (pv 2) (pe_op op_mul pe_int (pv 1))) pe_int) (pe_op op_mul pe_int (pe_callB call_len_seq (by rfl) ml boot_len (pa_cons (pv 0) pa_nil)))) pe_int))
      (pss_one (ps_ret (pe_callTy call_int1 (by rfl) mi boot_int (pa_cons (pe_op op_mod (pe_op op_add (pe_op op_mul (pe_op op_mod (pe_op op_mul (pv 3) pe_int) pe_int) pe_int) (pv 1)) pe_int) pa_nil))))))), ?_⟩
    refine ⟨_, rfl, Nat.zero_le _, fun p hp => ?_⟩
    have s1 : Same H (upd H p (.lst [])) := same_upd hp
    have hS1 : SqL K (upd H p (.lst [])) a (ns.map V.int) := s1.seq hS
    refine ⟨.list (ns.map PyData.int), .list [], .lst hS1 (dps_ints ns), .lst (SqL.of upd_same) .nil, shaped_list (lay_ints ns) (by rw [dep_ints]; decide), shaped_list (by simp [PyData.canLayAll0]) (by simp [PyData.depthAll]), _, rfl, ?_⟩
    cases ns with
    | nil =>
      have e : PyData.eqv (.list (([] : List Int).map PyData.int)) (.list []) = true := by simp [PyData.eqv, PyData.eqvAll]
      rw [e]
      exact iteT ⟨_, rfl, _, _, rfl, rfl, .inr ⟨by decide, by decide⟩, _, _, rfl, rfl, _, _, rfl, rfl, (by show (0 : Int) < 2147483647; decide), .inl ⟨_, rfl, k _ _ s1⟩⟩
    | cons n0 ns =>
      have e : PyData.eqv (.list ((n0 :: ns).map PyData.int)) (.list []) = false := by simp [PyData.eqv, PyData.eqvAll]
      rw [e]
      have hpos : (0 : Int) < (((n0 :: ns).map V.int).length : Nat) := by simp
      have hj0 : 0 ≤ i % (((n0 :: ns).map V.int).length : Nat) := Int.emod_nonneg _ (by omega)
      have hj1 : i % (((n0 :: ns).map V.int).length : Nat) < (((n0 :: ns).map V.int).length : Nat) := Int.emod_lt_of_pos _ hpos
      obtain ⟨j, ej⟩ : ∃ j : Nat, i % (((n0 :: ns).map V.int).length : Nat) = (j : Int) := ⟨_, (Int.toNat_of_nonneg hj0).symm⟩
      have hjl : j < (n0 :: ns).length := by
        rw [ej, List.length_map] at hj1
        omega
      have hat : atI ((n0 :: ns).map V.int) (i % (((n0 :: ns).map V.int).length : Nat)) = some (.int ((n0 :: ns)[j])) := by
        rw [ej]
        exact atI_nat (by rw [List.getElem?_map, List.getElem?_eq_getElem hjl]; rfl)
      refine iteF ⟨_, rfl, _, rfl, _, rfl, a, _, rfl, .inl hS1, _, _, rfl, rfl, hpos, a, _, _, _, rfl, rfl, hS1, hat, ?_⟩
      refine ⟨_, rfl, _, rfl, _, _, rfl, rfl, ⟨by decide, by decide, by decide⟩, _, _, rfl, rfl, _, rfl, ite2 (fun _ => ?_) (fun _ => ?_)⟩
      · refine ⟨_, rfl, _, _, rfl, rfl, ⟨by decide, by decide, by decide⟩, _, _, rfl, rfl, (by show (0 : Int) < 10 ^ 18; decide), ?_⟩
        refine ⟨_, rfl, _, rfl, _, _, rfl, rfl, .inl ⟨by decide, by decide⟩, _, _, rfl, rfl, _, _, rfl, rfl, .inr ⟨by decide, by decide⟩, _, rfl, a, _, rfl, .inl hS1, _, _, rfl, rfl, .inl ⟨by decide, by decide⟩, _, _, rfl, rfl, _, _, rfl, rfl, (by show (0 : Int) < 2147483647; decide), ?_⟩
        exact ⟨_, rfl, _, _, rfl, rfl, .inr ⟨by decide, by decide⟩, _, _, rfl, rfl, (by show (0 : Int) < 2147483629; decide), _, _, rfl, rfl, .inr ⟨by decide, by decide⟩, _, rfl, _, _, rfl, rfl, _, _, rfl, rfl, (by show (0 : Int) < 2147483587; decide), .inl ⟨_, rfl, k _ _ s1⟩⟩
      · refine ⟨_, rfl, _, rfl, _, _, rfl, rfl, .inl ⟨by decide, by decide⟩, _, _, rfl, rfl, _, _, rfl, rfl, .inr ⟨by decide, by decide⟩, _, rfl, a, _, rfl, .inl hS1, _, _, rfl, rfl, .inl ⟨by decide, by decide⟩, _, _, rfl, rfl, _, _, rfl, rfl, (by show (0 : Int) < 2147483647; decide), ?_⟩
        exact ⟨_, rfl, _, _, rfl, rfl, .inr ⟨by decide, by decide⟩, _, _, rfl, rfl, (by show (0 : Int) < 2147483629; decide), _, _, rfl, rfl, .inr ⟨by decide, by decide⟩, _, rfl, _, _, rfl, rfl, _, _, rfl, rfl, (by show (0 : Int) < 2147483587; decide), .inl ⟨_, rfl, k _ _ s1⟩⟩
def DrawAt (K : PySem.W.Frag) (H : Hp) (a sc : Addr) (ns : List Int) : Prop := (∃ i : Int, H a = some (.lst [.ref sc, .int i])) ∧ SqL K (Off [a] H) sc (ns.map V.int) ∧ ns.length ≤ 63
theorem DrawAt.next {H H' : Hp} {a sc : Addr} {ns : List Int} (D : DrawAt K H a sc ns) (s : But [a] H H') (h : ∃ i : Int, H' a = some (.lst [.ref sc, .int i])) : DrawAt K H' a sc ns :=
  ⟨h, (s.off (fun c z => z)).seq D.2.1, D.2.2⟩
theorem DrawAt.same {H H' : Hp} {a sc : Addr} {ns : List Int} (D : DrawAt K H a sc ns) (s : Same H H') : DrawAt K H' a sc ns :=
  D.next (.of s) (let ⟨i, e⟩ := D.1; ⟨i, s _ _ e⟩)
def spTake (K : PySem.W.Frag) : Sp := fun vs H Q _ => ∃ (a sc : Addr) (ns : List Int) (m : Int), vs = [.ref a, .int m] ∧ DrawAt K H a sc ns ∧ 0 < m ∧ ∀ r H', 0 ≤ r → r < m → But [a] H H' → DrawAt K H' a sc ns → Q (.int r) H'
theorem ok_take {f fN : Addr} {fd fdN : FuncData} (F : Fun K "_law_take" "_law_take" sTake f fd) (GN : FnOk P w K mg base CX0 1 fN fdN ["script", "index"] (spNum K)) (kN : PySem.W.keepIn K (.ref fN) = true) (gN : mg "_law_number" = some (.ref fN))
    (bN : Binds K fdN ["script", "index"] []) (mi : mg "int" = none) : FnOk P w K mg base CX0 2 f fd ["draw", "many"] (spTake K) := by
  refine F.ok scTake (fun vs H Q E h => ?_) (fun cdv A outer s H vs Q E hr h => ?_)
  · obtain ⟨a, sc, ns, m, rfl, _⟩ := h
    rfl
  · obtain ⟨a, sc, ns, m, rfl, D, hm, k⟩ := h
    obtain ⟨⟨i, ha⟩, hS, hlen⟩ := id D
    refine ⟨_, pss_cons (ps_augS (pv 0) pe_int get_list pe_int ip_add set_list)
      (pss_one (ps_ret (pe_op op_mod (pe_callTy call_int1 (by rfl) mi boot_int (pa_cons (pe_call GN hr rfl gN kN bN .nil pass0
        (pa_cons (pe_ix ix_list (pv 0) pe_int (fun _ _ => rfl)) (pa_cons (pe_callTy call_int1 (by rfl) mi boot_int (pa_cons (pe_ix ix_list (pv 0) pe_int (fun _ _ => rfl)) pa_nil)) pa_nil))) pa_nil)) (pv 1)))), ?_⟩
    have sB : ∀ o, But [a] H (upd H a o) := fun o b u z => by
      have hb : b ∉ [a] := fun y => by rw [off_in y] at z; cases z
      rw [off_out hb] at z
      rw [upd_ne (fun y => hb (by rw [y]; simp))]
      exact z
    refine ⟨_, rfl, a, _, 1, .int i, rfl, rfl, SqL.of ha, rfl, i, 1, rfl, rfl, a, _, 1, 1, rfl, rfl, ha, rfl, ?_⟩
    refine ⟨_, rfl, a, _, 0, _, rfl, rfl, SqL.of upd_same, rfl, _, rfl, a, _, 1, _, rfl, rfl, SqL.of upd_same, rfl, .inl ⟨_, rfl, ?_⟩⟩
    refine ⟨sc, ns, i + 1, rfl, (sB _).seq hS, hlen, fun r H' s' => .inl ⟨_, rfl, _, rfl, _, _, rfl, rfl, hm, ?_⟩⟩
    have ha' : H' a = some (.lst [.ref sc, .int (i + 1)]) := s' _ _ upd_same
    have s2 : But [a] H H' := (sB _).trans s'
    exact k _ _ (Int.emod_nonneg _ (by omega)) (Int.emod_lt_of_pos _ hm) s2 (D.next s2 ⟨_, ha'⟩)
def spPick (K : PySem.W.Frag) : Sp := fun vs H Q _ => ∃ (a b sc : Addr) (ns : List Int) (xs : List V), vs = [.ref a, .ref b] ∧ DrawAt K H a sc ns ∧ H b = some (.lst xs) ∧ b ≠ a ∧ xs ≠ [] ∧ ∀ v H', v ∈ xs → But [a] H H' → DrawAt K H' a sc ns → Q v H'
theorem ok_pick {f fT : Addr} {fd fdT : FuncData} (F : Fun K "_law_pick" "_law_pick" sPick f fd) (GT : FnOk P w K mg base CX0 2 fT fdT ["draw", "many"] (spTake K)) (kT : PySem.W.keepIn K (.ref fT) = true) (gT : mg "_law_take" = some (.ref fT))
    (bT : Binds K fdT ["draw", "many"] []) (ml : mg "len" = none) : FnOk P w K mg base CX0 3 f fd ["draw", "items"] (spPick K) := by
  refine F.ok scPick (fun vs H Q E h => ?_) (fun cdv A outer s H vs Q E hr h => ?_)
  · obtain ⟨a, b, sc, ns, xs, rfl, _⟩ := h
    rfl
  · obtain ⟨a, b, sc, ns, xs, rfl, D, hb, hne, hx, k⟩ := h
    refine ⟨_, pss_one (ps_ret (pe_ix ix_list (pv 1) (pe_call GT hr rfl gT kT bT .nil pass0 (pa_cons (pv 0) (pa_cons (pe_callB call_len_seq (by rfl) ml boot_len (pa_cons (pv 1) pa_nil)) pa_nil))) (fun _ _ => rfl))), ?_⟩
    have hpos : 0 < xs.length := List.length_pos_iff.mpr hx
    refine ⟨_, rfl, _, rfl, _, rfl, b, xs, rfl, .inl (SqL.of hb), a, sc, ns, xs.length, rfl, D, by omega, fun r H' h0 h1 s' D' => ?_⟩
    have hb' : H' b = some (.lst xs) := s'.at hb (by simp [hne])
    have hr' : r.toNat < xs.length := by omega
    have er : ((r.toNat : Nat) : Int) = r := by omega
    refine ⟨b, xs, r, xs[r.toNat], rfl, rfl, SqL.of hb', ?_, k _ _ (List.getElem_mem hr') s' D'⟩
    have hat := atI_nat (j := r.toNat) (List.getElem?_eq_getElem hr')
    rw [er] at hat
    exact hat
end
end Pf

set_option Elab.async false
set_option linter.all false
set_option maxRecDepth 100000
set_option maxHeartbeats 4000000
namespace Pf
open PySem PySem.Spec PyProof.Rows L2
abbrev Ch := Int × List Int
def rowD (ns : List Int) : PyData := .tuple (ns.map PyData.int)
section
variable {K : PySem.W.Frag} {H : Hp}
end
section
variable {P : Program} {w : World} {K : PySem.W.Frag} {mg : Str → Option Value} {base : Heap} {C : Addr}
end
end Pf

set_option Elab.async false
set_option linter.all false
set_option maxRecDepth 100000
set_option maxHeartbeats 4000000
namespace Pf
open PySem PySem.Spec PyProof.Rows L2
def isT : HO → Bool
  | .tup _ => true
  | .frz _ (.tup _) => true
  | _ => false
def Fr (cs : List Addr) (H H' : Hp) : Prop := ∀ b o, H b = some o → (b ∉ cs ∨ isT o = true) → H' b = some o
theorem Fr.of {cs : List Addr} {H H' : Hp} (s : Same H H') : Fr cs H H' := fun b o e _ => s b o e
theorem Fr.trans {cs : List Addr} {H H1 H2 : Hp} (h : Fr cs H H1) (g : Fr cs H1 H2) : Fr cs H H2 := fun b o e c => g b o (h b o e c) c
theorem Fr.mono {cs ds : List Addr} {H H' : Hp} (h : Fr cs H H') (s : ∀ c ∈ cs, c ∈ ds) : Fr ds H H' := fun b o e c => h b o e (c.imp (fun z y => z (s b y)) id)
theorem Fr.drop {cs ds : List Addr} {H H' : Hp} (h : Fr ds H H') (s : ∀ c ∈ ds, c ∈ cs ∨ H c = none) : Fr cs H H' := fun b o e c => by
  refine h b o e ?_
  rcases c with c | c
  · by_cases hb : b ∈ ds
    · rcases s b hb with z | z
      · exact absurd z c
      · rw [z] at e; cases e
    · exact .inl hb
  · exact .inr c
theorem Fr.at {cs : List Addr} {H H' : Hp} (h : Fr cs H H') {b : Addr} {o : HO} (e : H b = some o) (n : b ∉ cs) : H' b = some o := h b o e (.inl n)
theorem Fr.tup {cs : List Addr} {H H' : Hp} (h : Fr cs H H') {b : Addr} {xs : List V} (e : H b = some (.tup xs)) : H' b = some (.tup xs) := h b _ e (.inr rfl)
theorem Fr.same {H H' : Hp} (h : Fr [] H H') : Same H H' := fun b o e => h b o e (.inl (by simp))
theorem Fr.put {cs : List Addr} {H : Hp} {c : Addr} {o : HO} (hc : c ∈ cs) (ht : ∀ u, H c = some u → isT u = false) : Fr cs H (upd H c o) := fun b u e z => by
  by_cases hb : b = c
  · subst hb
    rcases z with z | z
    · exact absurd hc z
    · rw [ht _ e] at z; cases z
  · rw [upd_ne hb]
    exact e
theorem Fr.new {cs : List Addr} {H : Hp} {c : Addr} {o : HO} (hc : H c = none) : Fr cs H (upd H c o) := .of (same_upd hc)
theorem Fr.but {cs : List Addr} {H H' : Hp} (s : But cs H H') (ht : ∀ c ∈ cs, ∀ u, H c = some u → isT u = false) : Fr cs H H' := fun b o e z => by
  by_cases hb : b ∈ cs
  · rcases z with z | z
    · exact absurd hb z
    · rw [ht b hb _ e] at z; cases z
  · exact s.at e hb
def Tp (H : Hp) : Hp := fun b => match H b with
  | some o => if isT o = true then some o else none
  | none => none
theorem tp_some {H : Hp} {b : Addr} {o : HO} (h : Tp H b = some o) : H b = some o ∧ isT o = true := by
  unfold Tp at h
  split at h
  · split at h
    · rename_i e c
      cases h
      exact ⟨e, c⟩
    · cases h
  · cases h
theorem tp_le {H : Hp} : Same (Tp H) H := fun b o e => (tp_some e).1
theorem tp_at {H : Hp} {b : Addr} {o : HO} (h : H b = some o) (t : isT o = true) : Tp H b = some o := by
  unfold Tp
  rw [h]
  exact if_pos t
theorem Fr.tp {cs : List Addr} {H H' : Hp} (h : Fr cs H H') : Same (Tp H) (Tp H') := fun b o e => by
  obtain ⟨e1, e2⟩ := tp_some e
  exact tp_at (h b o e1 (.inr e2)) e2
theorem sqt_tp {K : PySem.W.Frag} {H : Hp} {a : Addr} {xs : List V} (h : SqT K H a xs) : SqT K (Tp H) a xs := by
  rcases h with (h | ⟨o, h⟩) | h
  · exact .inl (.inl (tp_at h rfl))
  · exact .inl (.inr ⟨o, tp_at h rfl⟩)
  · exact .inr h
theorem row_tp {K : PySem.W.Frag} {H : Hp} {v : V} {ns : List Int} (h : Dp K H v (rowD ns)) : Dp K (Tp H) v (rowD ns) := by
  cases h with
  | tup hs ha => exact .tup (sqt_tp hs) (by rw [dps_inv ha]; exact dps_ints _)
theorem DiskAt.fr {C : Addr} {H H' : Hp} {cs : List Addr} {d : Addr} {n : Int} {sv : List V} {lv : List (Int × V)} (h : DiskAt C H d n sv lv) (s : Fr cs H H') (nd : d ∉ cs) : DiskAt C H' d n sv lv := by
  obtain ⟨dx, a, b, ts, h1, h2, h3, h4, h5, h6⟩ := h
  exact ⟨dx, a, b, ts, s.at h1 nd, s.tup h2, h3, h4, s.tup h5, h6.1, fun i q e => let ⟨c, e1, e2⟩ := h6.2 i q e; ⟨c, e1, s.tup e2⟩⟩
theorem DiskAt.obj {C : Addr} {H : Hp} {d : Addr} {n : Int} {sv : List V} {lv : List (Int × V)} (h : DiskAt C H d n sv lv) : ∀ u, H d = some u → isT u = false := by
  obtain ⟨dx, a, b, ts, h1, _⟩ := h
  intro u e
  rw [h1] at e
  cases e
  rfl
theorem ixN_nn {n j : Nat} (hj : j < n) : ixN n (j : Int) = some j := by
  unfold ixN
  rw [if_pos (Int.natCast_nonneg j), if_pos (by omega), Int.toNat_natCast]
theorem scBar : FnScope ["self", "settled", "plate", "value"] ["self"] (defScope sBar) := ⟨rfl, rfl, rfl, by decide +kernel, rfl, by decide +kernel, by decide +kernel⟩
theorem scCopy : FnScope ["disk", "copy"] ["disk"] (defScope sCopy) := ⟨rfl, rfl, rfl, by decide +kernel, rfl, by decide +kernel, by decide +kernel⟩
def settleV (sv : List V) (lv : List (Int × V)) : List V := lv.foldl (fun sv q => sv.set q.1.toNat q.2) sv
theorem settle_len (sv : List V) (lv : List (Int × V)) : (settleV sv lv).length = sv.length := by
  unfold settleV
  induction lv generalizing sv with
  | nil => rfl
  | cons q lv ih =>
    rw [List.foldl_cons, ih, List.length_set]
theorem settle_more {sv : List V} {lv : List (Int × V)} {i : Nat} {q : Int × V} (h : lv[i]? = some q) : settleV sv (lv.take (i + 1)) = (settleV sv (lv.take i)).set q.1.toNat q.2 := by
  unfold settleV
  rw [List.take_add_one, h, List.foldl_append]
  rfl
theorem fl_put_settled (n : Int) (s l s' : Addr) : putF "settled" (.ref s') (fl n s l) = fl n s' l := by
  rw [fl_eq, fl_eq]
  simp only [putF, if_neg n_ms, if_neg n_sm, if_neg n_ml, if_neg n_lm, if_neg n_sl, if_neg n_ls, if_pos]
section
variable {P : Program} {w : World} {K : PySem.W.Frag} {mg : Str → Option Value} {base : Heap} {C : Addr}
def InB (n : Int) (lv : List (Int × V)) : Prop := ∀ q ∈ lv, 0 ≤ q.1 ∧ q.1 < n
def spBar (C : Addr) : Sp := fun vs H Q _ => ∃ (d : Addr) (n : Int) (sv : List V) (lv : List (Int × V)), vs = [.ref d] ∧ DiskAt C H d n sv lv ∧ InB n lv ∧ n ≤ 1000 ∧
  ∀ H', Fr [d] H H' → DiskAt C H' d n (settleV sv lv) [] → Q .non H'
theorem ok_bar {f : Addr} {fd : FuncData} (F : Fun K "barrier" "Disk.barrier" sBar f fd) (T : DTxt K C) (mL : mg "list" = none) (mT : mg "tuple" = none) : FnOk P w K mg base CX0 1 f fd ["self"] (spBar C) := by
  refine F.ok scBar (fun vs H Q E h => ?_) (fun cdv A outer s H vs Q E hr h => ?_)
  · obtain ⟨d, n, sv, lv, rfl, _⟩ := h
    rfl
  · obtain ⟨d, n, sv, lv, rfl, D, hB, hn, k⟩ := h
    obtain ⟨dx, a, b, ts, e1, e2, e3, e4, e5, e6⟩ := id D
    refine ⟨_, pss_cons (ps_set (i := 1) scBar.nd rfl (.inl rfl) (pe_callTy call_list_of (by rfl) mL (by decide +kernel) (pa_cons (pe_fld (pv 0) rfl) pa_nil)))
      (pss_cons (ps_for PassesOwn.never rfl (pi_tup (pe_fld (pv 0) rfl)) (pg_tup rfl (pgs_cons (pg_name (i := 2) scBar.nd rfl (.inl rfl)) (pgs_cons (pg_name (i := 3) scBar.nd rfl (.inl rfl)) pgs_nil)))
        (pss_one (ps_asg (pv 3) (pg_sub (pv 1) (pv 2) set_list))))
      (pss_cons (ps_fld (pv 0) (pe_callTy call_tuple_of (by rfl) mT boot_tuple (pa_cons (pv 1) pa_nil)) rfl)
      (pss_one (ps_fld (pv 0) (pe_tup pa_nil) rfl)))), ?_⟩
    refine ⟨_, rfl, d, C, dx, _, _, rfl, e1, T.cl, T.nS, fl_settled _ _ _, a, sv, rfl, .inr (SqT.of e2), fun l hl => ?_⟩
    have f1 : Fr [d] H (upd H l (.lst sv)) := .new hl
    refine ⟨_, rfl, d, C, dx, _, _, rfl, same_upd hl _ _ e1, T.cl, T.nL, fl_loose _ _ _, b, rfl, ⟨_, SqT.of (f1.tup e5)⟩, for_tup (K := K) (a := b) (xs := ts)
      (fun i σ H' => ∃ y2 y3, σ = [some (.ref d), some (.ref l), y2, y3] ∧ Same H H' ∧ H' l = some (.lst (settleV sv (lv.take i)))) ⟨none, none, rfl, same_upd hl, upd_same⟩ (fun i σ H' _ z => by obtain ⟨_, _, _, z, _⟩ := z; exact SqT.of (z _ _ e5)) ?_ ?_⟩
    · rintro i x σ H' hi ⟨y2, y3, rfl, s, el⟩
      have hil : i < lv.length := by
        rw [← e6.1]
        exact (List.getElem?_eq_some_iff.mp hi).1
      obtain ⟨c, z1, z2⟩ := e6.2 i _ (List.getElem?_eq_getElem hil)
      have ex : x = .ref c := Option.some.inj (hi.symm.trans z1)
      subst ex
      obtain ⟨b1, b2⟩ := hB _ (List.getElem_mem hil)
      have hj : lv[i].1.toNat < (settleV sv (lv.take i)).length := by rw [settle_len, e3]; omega
      have ei : ixN (settleV sv (lv.take i)).length lv[i].1 = some lv[i].1.toNat := by
        have := ixN_nn hj
        rw [Int.toNat_of_nonneg b1] at this
        exact this
      refine ⟨c, _, rfl, SqT.of (s _ _ z2), rfl, _, _, rfl, _, _, rfl, rfl, _, rfl, _, rfl, _, rfl, l, _, _, _, rfl, rfl, el, ei, _, _, rfl, fun q o e => ?_, ?_⟩
      · rw [upd_ne (ne_of_none e hl)]
        exact s _ _ e
      · rw [upd_same, settle_more (List.getElem?_eq_getElem hil)]
    · rintro σ H' ⟨y2, y3, rfl, s, el⟩
      rw [e6.1, List.take_length] at el
      refine ⟨_, rfl, l, _, rfl, .inl ⟨SqL.of el, fun t ht => ?_⟩⟩
      have s1 := s.trans (same_upd (o := .tup (settleV sv lv)) ht)
      refine ⟨_, rfl, d, C, dx, _, rfl, s1 _ _ e1, T.cl, T.nS, fl_len _ _ _, ?_⟩
      rw [fl_put_settled]
      refine ⟨Nat.zero_le _, fun u hu => ?_⟩
      have ntd : t ≠ d := fun z => by rw [z, s _ _ e1] at ht; cases ht
      have nud : u ≠ d := fun z => by rw [z, upd_same] at hu; cases hu
      have nut : u ≠ t := fun z => by rw [z, upd_ne ntd, upd_same] at hu; cases hu
      refine ⟨_, rfl, d, C, dx, _, rfl, by rw [upd_ne nud.symm, upd_same], T.cl, T.nL, fl_len _ _ _, ?_⟩
      rw [fl_put_loose]
      refine k _ (fun q o e z => ?_) ⟨dx, t, u, [], upd_same, ?_, by rw [settle_len]; exact e3, e4, ?_, rfl, fun i q z => by simp at z⟩
      · have nqd : q ≠ d := fun y => by
          subst y
          rw [e1] at e
          cases e
          rcases z with z | z
          · exact z (by simp)
          · cases z
        have hu0 : H' u = none := by rw [upd_ne nud, upd_ne nut] at hu; exact hu
        rw [upd_ne nqd, upd_ne (ne_of_none (s _ _ e) hu0), upd_ne nqd]
        exact s1 _ _ e
      · rw [upd_ne ntd, upd_ne nut.symm, upd_ne ntd, upd_same]
      · rw [upd_ne nud, upd_same]
def spCopy (C : Addr) : Sp := fun vs H Q _ => ∃ (d : Addr) (n : Int) (sv : List V) (lv : List (Int × V)), vs = [.ref d] ∧ DiskAt C H d n sv lv ∧ 1 ≤ n ∧ n ≤ 1000 ∧
  ∀ x H', Same H H' → H x = none → DiskAt C H' x n sv lv → Q (.ref x) H'
theorem ok_copy {f fI : Addr} {fd fdI : FuncData} (F : Fun K "copy_of" "copy_of" sCopy f fd) (T : DTxt K C) (MI : Mk K C fI) (GI : FnOk P w K mg base CX0 1 fI fdI ["self", "many"] (spInit C)) (mgC : mg "Disk" = some (.ref C)) (bI : Binds K fdI ["self", "many"] []) :
    FnOk P w K mg base CX0 3 f fd ["disk"] (spCopy C) := by
  refine F.ok scCopy (fun vs H Q E h => ?_) (fun cdv A outer s H vs Q E hr h => ?_)
  · obtain ⟨d, n, sv, lv, rfl, _⟩ := h
    rfl
  · obtain ⟨d, n, sv, lv, rfl, D, h2, hn, k⟩ := h
    obtain ⟨dx, a, b, ts, e1, e2, e3, e4, e5, e6⟩ := id D
    refine ⟨_, pss_cons (ps_set (i := 1) scCopy.nd rfl (.inl rfl) (pe_make MI GI hr rfl mgC bI .nil pass0 (pa_cons (pe_fld (pv 0) rfl) pa_nil)))
      (pss_cons (ps_fld (pv 1) (pe_fld (pv 0) rfl) rfl)
      (pss_cons (ps_fld (pv 1) (pe_fld (pv 0) rfl) rfl)
      (pss_one (ps_ret (pv 1))))), ?_⟩
    refine ⟨_, rfl, d, C, dx, _, _, rfl, e1, T.cl, T.nM, fl_many _ _ _, fun x xx hx hxx hne => ?_⟩
    have sd : Same H (upd (upd H xx (.own x)) x (.ins C xx [])) := fun b o z => by
      rw [upd_ne (ne_of_none z hx), upd_ne (ne_of_none z hxx)]
      exact z
    refine ⟨x, xx, n, rfl, upd_same, h2, hn, fun H1 e s1 he0 he1 D1 => ⟨rfl, ?_⟩⟩
    have b1 : Same H H1 := fun b o z => s1.at (sd _ _ z) (by simp only [List.mem_cons, List.not_mem_nil, or_false]; exact ne_of_none z hx)
    obtain ⟨dx', a', b', ts', x1, x2, x3, x4, x5, x6⟩ := D1
    have nxd : d ≠ x := ne_of_none e1 hx
    refine ⟨_, rfl, d, C, dx, _, _, rfl, b1 _ _ e1, T.cl, T.nS, fl_settled _ _ _, _, rfl, x, C, dx', _, rfl, x1, T.cl, T.nS, fl_len _ _ _, ?_⟩
    rw [fl_put_settled]
    refine ⟨_, rfl, d, C, dx, _, _, rfl, by rw [upd_ne nxd]; exact b1 _ _ e1, T.cl, T.nL, fl_loose _ _ _, _, rfl, x, C, dx', _, rfl, upd_same, T.cl, T.nL, fl_len _ _ _, ?_⟩
    rw [fl_put_loose]
    have s2 : Same H (upd (upd H1 x (.ins C dx' (fl n a b'))) x (.ins C dx' (fl n a b))) := fun q o z => by
      rw [upd_ne (ne_of_none z hx), upd_ne (ne_of_none z hx)]
      exact b1 _ _ z
    exact ⟨_, rfl, k x _ s2 hx ⟨dx', a, b, ts, upd_same, s2 _ _ e2, e3, e4, s2 _ _ e5, e6.same s2⟩⟩
end
end Pf

set_option Elab.async false
set_option linter.all false
set_option maxRecDepth 100000
set_option maxHeartbeats 4000000
namespace Pf
open PySem PySem.Spec PyProof.Rows L2
theorem scVers : FnScope ["self", "plate", "loose", "written", "value"] ["self", "plate"] (defScope sVers) := ⟨rfl, rfl, rfl, by decide +kernel, rfl, by decide +kernel, by decide +kernel⟩
theorem scCan : FnScope ["self", "plate", "number", "many_loose", "written", "value"] ["self", "plate", "number"] (defScope sCan) := ⟨rfl, rfl, rfl, by decide +kernel, rfl, by decide +kernel, by decide +kernel⟩
theorem scFallen : FnScope ["self", "choice", "plate", "settled", "disk"] ["self", "choice"] (defScope sFallen) := ⟨rfl, rfl, rfl, by decide +kernel, rfl, by decide +kernel, by decide +kernel⟩
def lateV (lv : List (Int × V)) (p : Int) : List V := (lv.filter fun q => decide (q.1 = p)).map (·.2)
def versV (sv : List V) (lv : List (Int × V)) (p : Int) : List V := if (lateV lv p).length = 0 then [sv.getD p.toNat .non] else sv.getD p.toNat .non :: (lateV lv p ++ [.non])
theorem late_more {lv : List (Int × V)} {p : Int} {i : Nat} {q : Int × V} (h : lv[i]? = some q) : lateV (lv.take (i + 1)) p = lateV (lv.take i) p ++ (if q.1 = p then [q.2] else []) := by
  unfold lateV
  rw [List.take_add_one, h, List.filter_append, List.map_append]
  by_cases c : q.1 = p <;> simp [c]
theorem late_len (lv : List (Int × V)) (p : Int) (i : Nat) : (lateV (lv.take i) p).length ≤ lv.length := by
  unfold lateV
  rw [List.length_map]
  refine Nat.le_trans (List.length_filter_le _ _) ?_
  rw [List.length_take]
  omega
theorem late_len' (lv : List (Int × V)) (p : Int) : (lateV lv p).length ≤ lv.length := by
  unfold lateV
  rw [List.length_map]
  exact List.length_filter_le _ _
section
variable {P : Program} {w : World} {K : PySem.W.Frag} {mg : Str → Option Value} {base : Heap} {C : Addr}
def spVers (C : Addr) : Sp := fun vs H Q _ => ∃ (d : Addr) (n p : Int) (sv : List V) (lv : List (Int × V)), vs = [.ref d, .int p] ∧ DiskAt C H d n sv lv ∧ 0 ≤ p ∧ p < n ∧ lv.length ≤ 900 ∧
  ∀ t H', Same H H' → H t = none → H' t = some (.tup (versV sv lv p)) → Q (.ref t) H'
theorem ok_vers {f fK : Addr} {fd fdK : FuncData} (F : Fun K "versions" "Disk.versions" sVers f fd) (T : DTxt K C) (GK : FnOk P w K mg base CX0 2 fK fdK ["self", "plate"] (spCheck C)) (mK : Meth K C "check_plate" fK) (bK : Binds K fdK ["self", "plate"] [])
    (mT : mg "tuple" = none) (ml : mg "len" = none) (mO : mg "TORN" = some .none) : FnOk P w K mg base CX0 3 f fd ["self", "plate"] (spVers C) := by
  refine F.ok scVers (fun vs H Q E h => ?_) (fun cdv A outer s H vs Q E hr h => ?_)
  · obtain ⟨d, n, p, sv, lv, rfl, _⟩ := h
    rfl
  · obtain ⟨d, n, p, sv, lv, rfl, D, h0, h1, hz, k⟩ := h
    obtain ⟨dx, a, b, ts, e1, e2, e3, e4, e5, e6⟩ := id D
    refine ⟨_, pss_cons (ps_expr (pe_meth (pv 0) T.cl mK GK hr bK .nil pass0 (pa_cons (pv 1) pa_nil)))
      (pss_cons (ps_set (i := 2) scVers.nd rfl (.inl rfl) (pe_callTy call_tuple_of (by rfl) mT boot_tuple (pa_cons
        (pe_lc (own := [("written", 3), ("value", 4)]) (g := gTup K 2 (gCons (gName 3) (gCons (gName 4) gNil))) (te := tVar 4) rfl scVers.nd (pi_tup (pe_fld (pv 0) rfl)) (blkOk_by (N := ["self", "plate", "loose", "written", "value"]) (sc := defScope sVers) (by decide +kernel))
          (fun _ _ _ _ _ => pg_tup rfl (pgs_cons (pg_name (i := 3) scVers.nd rfl (.inl rfl)) (pgs_cons (pg_name (i := 4) scVers.nd rfl (.inl rfl)) pgs_nil))) (fun _ _ _ _ _ => pts_one (pt_cmpR op_eq (pv 3) (pv 1) (nomark _)))
          (fun _ _ _ _ _ => pv 4)) pa_nil)))
      (pss_cons (ps_if (pt_cmpR op_eq (pe_callB call_len_seq (by rfl) ml boot_len (pa_cons (pv 2) pa_nil)) pe_int (nomark _)) (pss_one (ps_ret (pe_tup (pa_cons (pe_ix ix_tup (pe_fld (pv 0) rfl) (pv 1) (fun _ _ => rfl)) pa_nil)))) pss_nil)
      (pss_one (ps_ret (pe_op op_catA (pe_op op_catA (pe_tup (pa_cons (pe_ix ix_tup (pe_fld (pv 0) rfl) (pv 1) (fun _ _ => rfl)) pa_nil)) (pv 2)) (pe_tup (pa_cons (pe_glob (v := .non) rfl mO rfl) pa_nil))))))), ?_⟩
    refine ⟨_, rfl, d, dx, _, rfl, e1, fl_no _ _ _ (by decide +kernel) (by decide +kernel) (by decide +kernel), _, rfl, d, n, p, sv, lv, rfl, D, h0, h1, ?_⟩
    have hp : p.toNat < sv.length := by omega
    have hat : atI sv p = some (sv.getD p.toNat .non) := by
      have ep : ((p.toNat : Nat) : Int) = p := by omega
      have := atI_nat (xs := sv) (j := p.toNat) (v := sv.getD p.toNat .non) (by rw [List.getD_eq_getElem?_getD, List.getElem?_eq_getElem hp]; rfl)
      rw [ep] at this
      exact this
    refine ⟨_, rfl, d, C, dx, _, _, rfl, e1, T.cl, T.nL, fl_loose _ _ _, b, rfl, ⟨_, SqT.of e5⟩, fun D1 hD1 => lc_tup (K := K) (a := b) (xs := ts)
      (fun i H' => Same H H' ∧ H' D1 = some (.lst (lateV (lv.take i) p))) ⟨same_upd hD1, upd_same⟩ (fun i H' _ z => SqT.of (z.1 _ _ e5)) ?_ ?_⟩
    · rintro i x H' hi ⟨s1, el⟩
      have hil : i < lv.length := by
        rw [← e6.1]
        exact (List.getElem?_eq_some_iff.mp hi).1
      obtain ⟨c, z1, z2⟩ := e6.2 i _ (List.getElem?_eq_getElem hil)
      have ex : x = .ref c := Option.some.inj (hi.symm.trans z1)
      subst ex
      have em := late_more (p := p) (List.getElem?_eq_getElem hil)
      refine ⟨c, _, rfl, SqT.of (s1 _ _ z2), rfl, _, _, rfl, _, _, rfl, rfl, rfl, _, rfl, _, rfl, rfl, _, rfl, ite2 (fun hc => ?_) (fun hc => ?_)⟩
      · have he : lv[i].1 = p := by
          have := of_decide_eq_true hc
          injection this
        rw [if_pos he] at em
        refine ⟨_, rfl, _, el, ?_, fun q o e => ?_, ?_⟩
        · exact Nat.lt_of_le_of_lt (late_len lv p i) (by rw [sizeLine_eq]; omega)
        · rw [upd_ne (ne_of_none e hD1)]
          exact s1 _ _ e
        · rw [upd_same, em]
      · have he : ¬ lv[i].1 = p := fun z => hc (decide_eq_true (by rw [z]))
        rw [if_neg he, List.append_nil] at em
        exact ⟨s1, by rw [em]; exact el⟩
    · rintro H1 ⟨s1, el⟩
      rw [e6.1, List.take_length] at el
      refine ⟨D1, _, rfl, .inl ⟨SqL.of el, fun t ht => ?_⟩⟩
      have s2 := s1.trans (same_upd (o := .tup (lateV lv p)) ht)
      refine ⟨_, rfl, t, _, rfl, .inr (SqT.of upd_same), rfl, _, rfl, ite2 (fun hc => ?_) (fun hc => ?_)⟩
      · have hl : (lateV lv p).length = 0 := by
          have := of_decide_eq_true hc
          injection this with this
          omega
        refine ⟨_, rfl, d, C, dx, _, _, rfl, s2 _ _ e1, T.cl, T.nS, fl_settled _ _ _, _, rfl, a, sv, p, _, rfl, rfl, SqT.of (s2 _ _ e2), hat, (by show 1 ≤ sizeLine; decide), fun u hu => k u _ (s2.trans (same_upd hu)) (s2.free hu) ?_⟩
        rw [upd_same]
        unfold versV
        rw [if_pos hl]
      · have hl : ¬ (lateV lv p).length = 0 := fun z => hc (decide_eq_true (by rw [z]; rfl))
        refine ⟨_, rfl, d, C, dx, _, _, rfl, s2 _ _ e1, T.cl, T.nS, fl_settled _ _ _, _, rfl, a, sv, p, _, rfl, rfl, SqT.of (s2 _ _ e2), hat, (by show 1 ≤ sizeLine; decide), fun u hu => ?_⟩
        have s3 := s2.trans (same_upd (o := .tup [sv.getD p.toNat .non]) hu)
        have ntu : t ≠ u := fun z => by rw [← z, upd_same] at hu; cases hu
        refine ⟨_, rfl, u, t, _, _, rfl, rfl, SqT.of upd_same, SqT.of (by rw [upd_ne ntu, upd_same]), ?_, fun z => absurd z (by simp), fun _ z => absurd (by rw [z]; rfl) hl, fun _ _ q hq => ⟨(by show 1 ≤ sizeLine; decide), fun q2 hq2 => ?_⟩⟩
        · have := late_len' lv p
          show 1 + (lateV lv p).length ≤ sizeLine
          rw [sizeLine_eq]
          omega
        have s4 := s3.trans (same_upd (o := .tup ([sv.getD p.toNat .non] ++ lateV lv p)) hq)
        have s5 := s4.trans (same_upd (o := .tup [.non]) hq2)
        have nqq : q ≠ q2 := fun z => by rw [← z, upd_same] at hq2; cases hq2
        refine ⟨q, q2, _, _, rfl, rfl, SqT.of (by rw [upd_ne nqq, upd_same]), SqT.of upd_same, ?_, fun z => absurd z (by simp), fun _ z => absurd z (by simp), fun _ _ r hr' => k r _ (s5.trans (same_upd hr')) (s5.free hr') ?_⟩
        · have := late_len' lv p
          show ([sv.getD p.toNat .non] ++ lateV lv p).length + 1 ≤ sizeLine
          rw [List.length_append, sizeLine_eq]
          show 1 + (lateV lv p).length + 1 ≤ _
          omega
        · rw [upd_same]
          unfold versV
          rw [if_neg hl]
          rfl
end
end Pf

set_option Elab.async false
set_option linter.all false
set_option maxRecDepth 100000
set_option maxHeartbeats 4000000
namespace Pf
open PySem PySem.Spec PyProof.Rows L2
def loI (L : Nat) : Int := if 0 < L then -1 else 0
def chooseB (lv : List (Int × V)) (p m : Int) : Bool := decide (loI (lateV lv p).length ≤ m) && decide (m ≤ ((lateV lv p).length : Nat))
def chV (cs : List (Int × Int)) : List (Key × V) := cs.map fun c => (Sum.inl c.1, V.int c.2)
def pickV (xs : List V) (m : Int) : V := (atI xs m).getD .non
def fallV (sv : List V) (lv : List (Int × V)) (cs : List (Int × Int)) : List V := cs.foldl (fun s c => s.set c.1.toNat (pickV (versV sv lv c.1) c.2)) sv
theorem fall_len (sv : List V) (lv : List (Int × V)) (cs : List (Int × Int)) : (fallV sv lv cs).length = sv.length := by
  unfold fallV
  suffices h : ∀ s : List V, (cs.foldl (fun s c => s.set c.1.toNat (pickV (versV sv lv c.1) c.2)) s).length = s.length from h sv
  induction cs with
  | nil => intro s; rfl
  | cons q cs ih =>
    intro s
    rw [List.foldl_cons, ih, List.length_set]
theorem fall_more {sv : List V} {lv : List (Int × V)} {cs : List (Int × Int)} {i : Nat} {c : Int × Int} (h : cs[i]? = some c) : fallV sv lv (cs.take (i + 1)) = (fallV sv lv (cs.take i)).set c.1.toNat (pickV (versV sv lv c.1) c.2) := by
  unfold fallV
  rw [List.take_add_one, h, List.foldl_append]
  rfl
theorem ch_get : ∀ {cs : List (Int × Int)} {i : Nat} {c : Int × Int}, (cs.map (·.1)).Nodup → cs[i]? = some c → valV (chV cs) (Sum.inl c.1) = some (.int c.2)
  | [], i, c, _, h => by simp at h
  | x :: cs, 0, c, _, h => by
    cases (Option.some.inj h)
    simp [chV, valV]
  | x :: cs, i + 1, c, hn, h => by
    have hn' : x.1 ∉ cs.map (·.1) ∧ (cs.map (·.1)).Nodup := List.nodup_cons.mp hn
    have h' : cs[i]? = some c := h
    have ih := ch_get hn'.2 h'
    have hne : ¬ x.1 = c.1 := fun e => hn'.1 (by rw [e]; exact List.mem_map.mpr ⟨c, List.mem_of_getElem? h', rfl⟩)
    unfold valV chV
    rw [List.map_cons, List.find?_cons_of_neg]
    · exact ih
    · intro z
      exact hne (by have := of_decide_eq_true z; injection this)
theorem lock_back {H H1 : Hp} {c : Addr} {u f : HO} (h : H c = some u) (s : Same (upd H c f) H1) : Same H (upd H1 c u) := fun b o e => by
  by_cases hb : b = c
  · subst hb
    rw [upd_same]
    rw [h] at e
    exact e
  · rw [upd_ne hb]
    exact s b o (by rw [upd_ne hb]; exact e)
theorem vers_len (sv : List V) (lv : List (Int × V)) (p : Int) : (versV sv lv p).length = if (lateV lv p).length = 0 then 1 else (lateV lv p).length + 2 := by
  unfold versV
  split
  · rfl
  · simp
theorem choose_at {sv : List V} {lv : List (Int × V)} {p m : Int} (h : chooseB lv p m = true) : atI (versV sv lv p) m = some (pickV (versV sv lv p) m) := by
  have h' : (decide (loI (lateV lv p).length ≤ m) && decide (m ≤ ((lateV lv p).length : Nat))) = true := h
  rw [Bool.and_eq_true] at h'
  have h1 := of_decide_eq_true h'.1
  have h2 := of_decide_eq_true h'.2
  have hl := vers_len sv lv p
  have hx : ∃ v, atI (versV sv lv p) m = some v := by
    unfold atI ixN
    by_cases h0 : (lateV lv p).length = 0
    · rw [if_pos h0] at hl
      have : loI (lateV lv p).length = 0 := by unfold loI; rw [h0]; rfl
      have hm : m = 0 := by omega
      subst hm
      rw [if_pos (Int.le_refl _), if_pos (by rw [hl]; omega)]
      exact ⟨(versV sv lv p)[0]'(by omega), by show (versV sv lv p)[(0 : Int).toNat]? = _; exact List.getElem?_eq_getElem (by show 0 < _; omega)⟩
    · rw [if_neg h0] at hl
      have : loI (lateV lv p).length = -1 := by unfold loI; rw [if_pos (by omega)]
      by_cases hm : 0 ≤ m
      · rw [if_pos hm, if_pos (by rw [hl]; omega)]
        exact ⟨(versV sv lv p)[m.toNat]'(by omega), by show (versV sv lv p)[m.toNat]? = _; exact List.getElem?_eq_getElem (by omega)⟩
      · have hm1 : m = -1 := by omega
        subst hm1
        rw [if_neg hm, if_pos (by rw [hl]; omega)]
        exact ⟨(versV sv lv p)[((-1 : Int) + ((versV sv lv p).length : Nat)).toNat]'(by omega), by show (versV sv lv p)[((-1 : Int) + ((versV sv lv p).length : Nat)).toNat]? = _; exact List.getElem?_eq_getElem (by omega)⟩
  obtain ⟨v, hv⟩ := hx
  unfold pickV
  rw [hv]
  rfl
section
variable {P : Program} {w : World} {K : PySem.W.Frag} {mg : Str → Option Value} {base : Heap} {C : Addr}
def spCan (C : Addr) : Sp := fun vs H Q _ => ∃ (d : Addr) (n p m : Int) (sv : List V) (lv : List (Int × V)), vs = [.ref d, .int p, .int m] ∧ DiskAt C H d n sv lv ∧ 0 ≤ p ∧ p < n ∧ lv.length ≤ 900 ∧
  ∀ H', Same H H' → Q (.bl (chooseB lv p m)) H'
theorem ok_can {f fW : Addr} {fd fdW : FuncData} (F : Fun K "can_choose" "Disk.can_choose" sCan f fd) (T : DTxt K C) (GW : FnOk P w K mg base CX0 1 fW fdW ["thing", "low", "high"] (spWhole K)) (kW : PySem.W.keepIn K (.ref fW) = true) (gW : mg "is_whole" = some (.ref fW))
    (b3 : Binds K fdW ["thing", "low", "high"] []) (ml : mg "len" = none) : FnOk P w K mg base CX0 2 f fd ["self", "plate", "number"] (spCan C) := by
  refine F.ok scCan (fun vs H Q E h => ?_) (fun cdv A outer s H vs Q E hr h => ?_)
  · obtain ⟨d, n, p, m, sv, lv, rfl, _⟩ := h
    rfl
  · obtain ⟨d, n, p, m, sv, lv, rfl, D, h0, h1, hz, k⟩ := h
    obtain ⟨dx, a, b, ts, e1, e2, e3, e4, e5, e6⟩ := id D
    refine ⟨_, pss_cons (ps_if (pt_not (pt_val (pe_call GW hr rfl gW kW b3 .nil pass0 (pa_cons (pv 1) (pa_cons pe_int (pa_cons (pe_op op_sub (pe_fld (pv 0) rfl) pe_int) pa_nil)))))) (pss_one (ps_ret pe_bl)) pss_nil)
      (pss_cons (ps_set (i := 3) scCan.nd rfl (.inl rfl) (pe_callB call_len_seq (by rfl) ml boot_len (pa_cons
        (pe_lc (own := [("written", 4), ("value", 5)]) (g := gTup K 2 (gCons (gName 4) (gCons (gName 5) gNil))) (te := tVar 5) rfl scCan.nd (pi_tup (pe_fld (pv 0) rfl)) (blkOk_by (N := ["self", "plate", "number", "many_loose", "written", "value"]) (sc := defScope sCan) (by decide +kernel))
          (fun _ _ _ _ _ => pg_tup rfl (pgs_cons (pg_name (i := 4) scCan.nd rfl (.inl rfl)) (pgs_cons (pg_name (i := 5) scCan.nd rfl (.inl rfl)) pgs_nil))) (fun _ _ _ _ _ => pts_one (pt_cmpR op_eq (pv 4) (pv 1) (nomark _)))
          (fun _ _ _ _ _ => pv 5)) pa_nil)))
      (pss_one (ps_ret (pe_call GW hr rfl gW kW b3 .nil pass0 (pa_cons (pv 2) (pa_cons (pe_ifExp (pt_cmpR op_gt (pv 3) pe_int (nomark _)) (pe_un un_neg pe_int) pe_int) (pa_cons (pv 3) pa_nil))))))), ?_⟩
    refine ⟨_, rfl, _, rfl, d, C, dx, _, _, rfl, e1, T.cl, T.nM, fl_many _ _ _, _, _, rfl, rfl, .int p, .int p, some 0, some (n - 1), rfl, .int p, _, rfl, ?_⟩
    have e : wholeB (.int p) (some 0) (some (n - 1)) = true := by
      show (decide (0 ≤ p) && decide (p ≤ n - 1)) = true
      rw [decide_eq_true h0, decide_eq_true (by omega)]
      rfl
    rw [e]
    refine iteF ⟨_, rfl, d, C, dx, _, _, rfl, e1, T.cl, T.nL, fl_loose _ _ _, b, rfl, ⟨_, SqT.of e5⟩, fun D1 hD1 => lc_tup (K := K) (a := b) (xs := ts)
      (fun i H' => Same H H' ∧ H' D1 = some (.lst (lateV (lv.take i) p))) ⟨same_upd hD1, upd_same⟩ (fun i H' _ z => SqT.of (z.1 _ _ e5)) ?_ ?_⟩
    · rintro i x H' hi ⟨s1, el⟩
      have hil : i < lv.length := by
        rw [← e6.1]
        exact (List.getElem?_eq_some_iff.mp hi).1
      obtain ⟨c, z1, z2⟩ := e6.2 i _ (List.getElem?_eq_getElem hil)
      have ex : x = .ref c := Option.some.inj (hi.symm.trans z1)
      subst ex
      have em := late_more (p := p) (List.getElem?_eq_getElem hil)
      refine ⟨c, _, rfl, SqT.of (s1 _ _ z2), rfl, _, _, rfl, _, _, rfl, rfl, rfl, _, rfl, _, rfl, rfl, _, rfl, ite2 (fun hc => ?_) (fun hc => ?_)⟩
      · have he : lv[i].1 = p := by
          have := of_decide_eq_true hc
          injection this
        rw [if_pos he] at em
        refine ⟨_, rfl, _, el, ?_, fun q o e => ?_, ?_⟩
        · exact Nat.lt_of_le_of_lt (late_len lv p i) (by rw [sizeLine_eq]; omega)
        · rw [upd_ne (ne_of_none e hD1)]
          exact s1 _ _ e
        · rw [upd_same, em]
      · have he : ¬ lv[i].1 = p := fun z => hc (decide_eq_true (by rw [z]))
        rw [if_neg he, List.append_nil] at em
        exact ⟨s1, by rw [em]; exact el⟩
    · rintro H1 ⟨s1, el⟩
      rw [e6.1, List.take_length] at el
      refine ⟨D1, _, rfl, .inl (SqL.of el), _, rfl, _, rfl, _, _, rfl, rfl, _, rfl, ?_⟩
      have fin : ∀ lo : Int, lo = loI (lateV lv p).length → Q (.bl (wholeB (.int m) (some lo) (some ((lateV lv p).length : Nat)))) H1 := fun lo hlo => by
        subst hlo
        exact k H1 s1
      refine ite2 (fun hc => ?_) (fun hc => ?_)
      · have hl : 0 < (lateV lv p).length := by
          have := of_decide_eq_true hc
          omega
        exact ⟨1, rfl, _, rfl, .int m, .int m, some (-1), some ((lateV lv p).length : Nat), rfl, .int m, fin (-1) (by unfold loI; rw [if_pos hl])⟩
      · have hl : ¬ 0 < (lateV lv p).length := fun z => hc (decide_eq_true (by omega))
        exact ⟨_, rfl, .int m, .int m, some 0, some ((lateV lv p).length : Nat), rfl, .int m, fin 0 (by unfold loI; rw [if_neg hl])⟩
def spFallen (C : Addr) : Sp := fun vs H Q _ => ∃ (d ch : Addr) (n : Int) (sv : List V) (lv : List (Int × V)) (cs : List (Int × Int)), vs = [.ref d, .ref ch] ∧ DiskAt C H d n sv lv ∧ H ch = some (.dK (chV cs)) ∧ (cs.map (·.1)).Nodup ∧
  (∀ c ∈ cs, 0 ≤ c.1 ∧ c.1 < n ∧ chooseB lv c.1 c.2 = true) ∧ lv.length ≤ 900 ∧ 1 ≤ n ∧ n ≤ 1000 ∧ ∀ x H', Same H H' → H x = none → DiskAt C H' x n (fallV sv lv cs) [] → Q (.ref x) H'
theorem ok_fallen {f fC fV fI : Addr} {fd fdC fdV fdI : FuncData} (F : Fun K "fallen" "Disk.fallen" sFallen f fd) (T : DTxt K C) (GC : FnOk P w K mg base CX0 2 fC fdC ["self", "plate", "number"] (spCan C)) (mC : Meth K C "can_choose" fC) (bC : Binds K fdC ["self", "plate", "number"] [])
    (GV : FnOk P w K mg base CX0 3 fV fdV ["self", "plate"] (spVers C)) (mV : Meth K C "versions" fV) (bV : Binds K fdV ["self", "plate"] [])
    (MI : Mk K C fI) (GI : FnOk P w K mg base CX0 1 fI fdI ["self", "many"] (spInit C)) (mgC : mg "Disk" = some (.ref C)) (bI : Binds K fdI ["self", "many"] []) (mL : mg "list" = none) (mT : mg "tuple" = none) :
    FnOk P w K mg base CX0 4 f fd ["self", "choice"] (spFallen C) := by
  refine F.ok scFallen (fun vs H Q E h => ?_) (fun cdv A outer s H vs Q E hr h => ?_)
  · obtain ⟨d, ch, n, sv, lv, cs, rfl, _⟩ := h
    rfl
  · obtain ⟨d, ch, n, sv, lv, cs, rfl, D, hch, hnd, hok, hz, hn2, hn, k⟩ := h
    obtain ⟨dx, a, b, ts, e1, e2, e3, e4, e5, e6⟩ := id D
    have hr2 : Room 2 _ := hr.mono (by decide)
    refine ⟨_, pss_cons (ps_lock (ps_for PassesOwn.never rfl (pi_keys (pv 1)) (pg_name (i := 2) scFallen.nd rfl (.inl rfl))
        (pss_one (ps_if (pt_not (pt_val (pe_meth (pv 0) T.cl mC GC hr2 bC .nil pass0 (pa_cons (pv 2) (pa_cons (pe_dget (hu_of hr) (pv 1) (pv 2) (fun _ _ => rfl)) pa_nil))))) (pss_one ps_never) pss_nil))))
      (pss_cons (ps_set (i := 3) scFallen.nd rfl (.inl rfl) (pe_callTy call_list_of (by rfl) mL (by decide +kernel) (pa_cons (pe_fld (pv 0) rfl) pa_nil)))
      (pss_cons (ps_lock (ps_for PassesOwn.never rfl (pi_keys (pv 1)) (pg_name (i := 2) scFallen.nd rfl (.inl rfl))
        (pss_one (ps_asg (pe_ix ix_tup (pe_meth (pv 0) T.cl mV GV hr bV .nil pass0 (pa_cons (pv 2) pa_nil)) (pe_dget (hu_of hr) (pv 1) (pv 2) (fun _ _ => rfl)) (fun _ _ => rfl)) (pg_sub (pv 3) (pv 2) set_list)))))
      (pss_cons (ps_set (i := 4) scFallen.nd rfl (.inl rfl) (pe_make MI GI hr2 rfl mgC bI .nil pass0 (pa_cons (pe_fld (pv 0) rfl) pa_nil)))
      (pss_cons (ps_fld (pv 4) (pe_callTy call_tuple_of (by rfl) mT boot_tuple (pa_cons (pv 3) pa_nil)) rfl)
      (pss_one (ps_ret (pv 4))))))), ?_⟩
    have ndc : d ≠ ch := fun z => by rw [z, hch] at e1; cases e1
    have hlen : (chV cs).length = cs.length := List.length_map ..
    refine ⟨ch, _, hch, trivial, fun od => ?_⟩
    have f0 : Fr [ch] H (upd H ch (.frz od (.dK (chV cs)))) := .put (by simp) (fun u e => by rw [hch] at e; cases e; rfl)
    refine ⟨_, rfl, ch, od, rfl, .inl ⟨_, upd_same, for_it (walk_keys (d := ch) (o := od) (kvs := chV cs)) (fun i σ H' => ∃ y2, σ = [some (.ref d), some (.ref ch), y2, none, none] ∧ Same (upd H ch (.frz od (.dK (chV cs)))) H')
      ⟨none, rfl, Same.refl _⟩ (fun i σ H' _ z => by obtain ⟨_, _, z⟩ := z; exact z _ _ upd_same) ?_ ?_⟩⟩
    · rintro i x σ H1 H2 hi ⟨y2, rfl, s⟩ ⟨rfl, k0, v0, hkv, rfl⟩
      rw [hlen] at hi
      have hc := List.getElem?_eq_getElem hi
      have hkv' : (Sum.inl cs[i].1, V.int cs[i].2) = (k0, v0) := by
        have : (chV cs)[i]? = some (Sum.inl cs[i].1, V.int cs[i].2) := by unfold chV; rw [List.getElem?_map, hc]; rfl
        rw [this] at hkv
        exact Option.some.inj hkv
      cases hkv'
      obtain ⟨c1, c2, c3⟩ := hok _ (List.getElem_mem hi)
      have D2 := (D.fr f0 (by simp [ndc])).same s
      refine ⟨_, rfl, d, dx, _, rfl, s _ _ (f0.at e1 (by simp [ndc])), fl_no _ _ _ (by decide +kernel) (by decide +kernel) (by decide +kernel), _, rfl, _, rfl, _, rfl, ch, _, rfl, .inl ⟨_, _, .inr ⟨od, s _ _ upd_same⟩, rfl, (ch_get hnd hc).symm⟩, d, n, _, _, sv, lv, rfl, D2, c1, c2, hz, fun H3 s3 => ⟨_, rfl, ?_⟩⟩
      rw [c3]
      exact iteF ⟨_, rfl, s.trans s3⟩
    · rintro σ H1 ⟨y2, rfl, s⟩
      have s1 : Same H (upd H1 ch (.dK (chV cs))) := lock_back hch s
      refine ⟨s _ _ upd_same, ?_⟩
      generalize upd H1 ch (.dK (chV cs)) = Ha at s1
      refine ⟨_, rfl, d, C, dx, _, _, rfl, s1 _ _ e1, T.cl, T.nS, fl_settled _ _ _, a, sv, rfl, .inr (SqT.of (s1 _ _ e2)), fun l hl => ?_⟩
      have s2 := s1.trans (same_upd (o := .lst sv) hl)
      have nlc : l ≠ ch := fun z => by rw [z, s1 _ _ hch] at hl; cases hl
      refine ⟨ch, _, s2 _ _ hch, trivial, fun od2 => ?_⟩
      have f2 : Fr [ch] (upd Ha l (.lst sv)) (upd (upd Ha l (.lst sv)) ch (.frz od2 (.dK (chV cs)))) := .put (by simp) (fun u e => by rw [s2 _ _ hch] at e; cases e; rfl)
      have f02 : Fr [ch] H (upd (upd Ha l (.lst sv)) ch (.frz od2 (.dK (chV cs)))) := (Fr.of s2).trans f2
      refine ⟨_, rfl, ch, od2, rfl, .inl ⟨_, upd_same, for_it (walk_keys (d := ch) (o := od2) (kvs := chV cs)) (fun i σ H' => ∃ y2, σ = [some (.ref d), some (.ref ch), y2, some (.ref l), none] ∧ Fr [ch] H H' ∧ H' ch = some (.frz od2 (.dK (chV cs))) ∧ H' l = some (.lst (fallV sv lv (cs.take i))))
        ⟨_, rfl, f02, upd_same, by rw [upd_ne nlc, upd_same]; rfl⟩ (fun i σ H' _ z => by obtain ⟨_, _, _, z, _⟩ := z; exact z) ?_ ?_⟩⟩
      · rintro i x σ H1 H2 hi ⟨y2, rfl, fr, ec, el⟩ ⟨rfl, k0, v0, hkv, rfl⟩
        rw [hlen] at hi
        have hc := List.getElem?_eq_getElem hi
        have hkv' : (Sum.inl cs[i].1, V.int cs[i].2) = (k0, v0) := by
          have : (chV cs)[i]? = some (Sum.inl cs[i].1, V.int cs[i].2) := by unfold chV; rw [List.getElem?_map, hc]; rfl
          rw [this] at hkv
          exact Option.some.inj hkv
        cases hkv'
        obtain ⟨c1, c2, c3⟩ := hok _ (List.getElem_mem hi)
        have D2 := D.fr fr (by simp [ndc])
        have hj : cs[i].1.toNat < (fallV sv lv (cs.take i)).length := by rw [fall_len, e3]; omega
        have ei : ixN (fallV sv lv (cs.take i)).length cs[i].1 = some cs[i].1.toNat := by
          have := ixN_nn hj
          rw [Int.toNat_of_nonneg c1] at this
          exact this
        refine ⟨_, rfl, d, dx, _, rfl, fr.at e1 (by simp [ndc]), fl_no _ _ _ (by decide +kernel) (by decide +kernel) (by decide +kernel), _, rfl, d, n, _, sv, lv, rfl, D2, c1, c2, hz, fun t H3 s3 hn3 ht => ?_⟩
        refine ⟨_, rfl, _, rfl, ch, _, rfl, .inl ⟨_, _, .inr ⟨od2, s3 _ _ ec⟩, rfl, (ch_get hnd hc).symm⟩, t, _, _, _, rfl, rfl, SqT.of ht, choose_at c3, _, rfl, _, rfl, l, _, _, _, rfl, rfl, s3 _ _ el, ei, _, rfl, ?_, ?_, ?_⟩
        · intro b o e c
          rw [upd_ne (ne_of_none e (s1.free hl))]
          exact (fr.trans (.of s3)) b o e c
        · rw [upd_ne nlc.symm]
          exact s3 _ _ ec
        · rw [upd_same, fall_more hc]
      · rintro σ H1 ⟨y2, rfl, fr, ec, el⟩
        refine ⟨ec, ?_⟩
        have el : H1 l = some (.lst (fallV sv lv cs)) := by rw [hlen, List.take_length] at el; exact el
        have sB : Same H (upd H1 ch (.dK (chV cs))) := fun b o e => by
          by_cases hb : b = ch
          · subst hb
            rw [upd_same]
            rw [hch] at e
            exact e
          · rw [upd_ne hb]
            exact fr.at e (by simp [hb])
        have el' : (upd H1 ch (.dK (chV cs))) l = some (.lst (fallV sv lv cs)) := by rw [upd_ne nlc]; exact el
        generalize upd H1 ch (.dK (chV cs)) = Hb at sB el'
        refine ⟨_, rfl, d, C, dx, _, _, rfl, sB _ _ e1, T.cl, T.nM, fl_many _ _ _, fun x xx hx hxx hne => ?_⟩
        have sd : Same Hb (upd (upd Hb xx (.own x)) x (.ins C xx [])) := fun b o z => by
          rw [upd_ne (ne_of_none z hx), upd_ne (ne_of_none z hxx)]
          exact z
        refine ⟨x, xx, n, rfl, upd_same, hn2, hn, fun Hc e s1 he0 he1 D1 => ⟨rfl, ?_⟩⟩
        have b1 : Same Hb Hc := fun b o z => s1.at (sd _ _ z) (by simp only [List.mem_cons, List.not_mem_nil, or_false]; exact ne_of_none z hx)
        obtain ⟨dx', a', b', ts', x1, x2, x3, x4, x5, x6⟩ := D1
        have elc := b1 _ _ el'
        refine ⟨_, rfl, l, _, rfl, .inl ⟨SqL.of elc, fun t ht => ?_⟩⟩
        have ntx : t ≠ x := fun z => by rw [z, x1] at ht; cases ht
        have hx0 : H x = none := sB.free hx
        refine ⟨_, rfl, x, C, dx', _, rfl, by rw [upd_ne ntx.symm]; exact x1, T.cl, T.nS, fl_len _ _ _, ?_⟩
        rw [fl_put_settled]
        have s2 : Same H (upd (upd Hc t (.tup (fallV sv lv cs))) x (.ins C dx' (fl n t b'))) := fun q o z => by
          rw [upd_ne (ne_of_none z hx0), upd_ne (ne_of_none (b1 _ _ (sB _ _ z)) ht)]
          exact b1 _ _ (sB _ _ z)
        have nbx : b' ≠ x := fun z => by rw [z, x1] at x5; cases x5
        have nbt : b' ≠ t := fun z => by rw [z, ht] at x5; cases x5
        exact ⟨_, rfl, k x _ s2 hx0 ⟨dx', t, b', ts', upd_same, by rw [upd_ne ntx, upd_same], by rw [fall_len]; exact e3, e4, by rw [upd_ne nbx, upd_ne nbt]; exact x5, x6.1, fun i q z => by simp at z⟩⟩
end
end Pf

set_option Elab.async false
set_option linter.all false
set_option maxRecDepth 100000
set_option maxHeartbeats 4000000
namespace Pf
open PySem PySem.Spec PyProof.Rows L2
abbrev Tr := Int × V × List Int
def tk (ts : List Tr) : List (Key × V) := ts.map fun t => (Sum.inl t.1, t.2.1)
def tc (ts : List Tr) : List Ch := ts.map fun t => (t.1, t.2.2)
theorem tc_keys (ts : List Tr) : (tc ts).map (·.1) = ts.map (·.1) := by
  unfold tc
  rw [List.map_map]
  rfl
theorem tk_keys (ts : List Tr) : (tk ts).map (·.1) = (ts.map (·.1)).map Sum.inl := by
  unfold tk
  rw [List.map_map, List.map_map]
  rfl
section
variable {P : Program} {w : World} {K : PySem.W.Frag} {mg : Str → Option Value} {base : Heap} {C : Addr}
theorem tp_same {H H' : Hp} (s : Same H H') : Same (Tp H) (Tp H') := (Fr.of (cs := []) s).tp
end
end Pf

set_option Elab.async false
set_option linter.all false
set_option maxRecDepth 100000
set_option maxHeartbeats 4000000
namespace Pf
open PySem PySem.Spec PyProof.Rows L2
def wrD (p : Int) (e : PyData) : PyData := .tuple [.str "write", .int p, e]
def barD : PyData := .tuple [.str "barrier"]
def LvD (K : PySem.W.Frag) (G : Hp) (lv : List (Int × V)) (ls : List (Int × PyData)) : Prop := lv.map (·.1) = ls.map (·.1) ∧ DpAll K G (lv.map (·.2)) (ls.map (·.2))
def DkAt (K : PySem.W.Frag) (CD : Addr) (H : Hp) (d : Addr) (ds : List PyData) (ls : List (Int × PyData)) : Prop := ∃ sv lv, DiskAt CD H d (ds.length : Nat) sv lv ∧ DpAll K (Tp H) sv ds ∧ LvD K (Tp H) lv ls
theorem LvD.same {K : PySem.W.Frag} {H H' : Hp} {lv : List (Int × V)} {ls : List (Int × PyData)} (A : LvD K H lv ls) (s : Same H H') : LvD K H' lv ls := ⟨A.1, dps_same s _ _ A.2⟩
theorem DkAt.fr {K : PySem.W.Frag} {CD : Addr} {H H' : Hp} {d : Addr} {ds : List PyData} {ls : List (Int × PyData)} {xs : List Addr} (A : DkAt K CD H d ds ls) (f : Fr xs H H') (n : d ∉ xs) : DkAt K CD H' d ds ls := by
  obtain ⟨sv, lv, D, h1, h2⟩ := A
  exact ⟨sv, lv, D.fr f n, dps_same f.tp _ _ h1, h2.same f.tp⟩
def settleD (ds : List PyData) (ls : List (Int × PyData)) : List PyData := ls.foldl (fun s q => s.set q.1.toNat q.2) ds
theorem settleD_len : ∀ (ls : List (Int × PyData)) (ds : List PyData), (settleD ds ls).length = ds.length
  | [], _ => rfl
  | q :: ls, ds => by
    show (settleD (ds.set q.1.toNat q.2) ls).length = _
    rw [settleD_len ls, List.length_set]
theorem settle_dp {K : PySem.W.Frag} {G : Hp} : ∀ {lv : List (Int × V)} {ls : List (Int × PyData)} {sv : List V} {ds : List PyData}, LvD K G lv ls → DpAll K G sv ds → DpAll K G (settleV sv lv) (settleD ds ls)
  | [], [], _, _, _, h => h
  | [], q :: ls, _, _, h, _ => by have := h.1; simp at this
  | q :: lv, [], _, _, h, _ => by have := h.1; simp at this
  | (p, v) :: lv, (p', e) :: ls, sv, ds, h, g => by
    obtain ⟨h1, h2⟩ := h
    rw [List.map_cons, List.map_cons] at h1 h2
    have e1 : p = p' := (List.cons.inj h1).1
    subst e1
    cases h2 with
    | cons g1 g2 => exact settle_dp (lv := lv) (ls := ls) ⟨(List.cons.inj h1).2, g2⟩ (dps_set p.toNat g g1)
section
variable {P : Program} {w : World} {K : PySem.W.Frag} {mg : Str → Option Value} {base : Heap} {CS CD : Addr}
end
end Pf

set_option Elab.async false
set_option linter.all false
set_option maxRecDepth 100000
set_option maxHeartbeats 4000000
namespace Pf
open PySem PySem.Spec PyProof.Rows L2
section
variable {K : PySem.W.Frag} {H : Hp}
end
section
variable {P : Program} {w : World} {K : PySem.W.Frag} {mg : Str → Option Value} {base : Heap} {CS CD CN : Addr}
theorem dget {G : Hp} {sv : List V} {ds : List PyData} {i : Nat} (h : DpAll K G sv ds) (hi : i < ds.length) : Dp K G (sv.getD i .non) (ds.getD i .none) := by
  have hl := dps_len h
  obtain ⟨d, h1, h2⟩ := dps_get h (List.getElem?_eq_getElem (show i < sv.length by omega))
  rw [List.getD_eq_getElem?_getD, List.getD_eq_getElem?_getD, h1, List.getElem?_eq_getElem (show i < sv.length by omega)]
  exact h2
end
end Pf

set_option Elab.async false
set_option linter.all false
set_option maxRecDepth 100000
set_option maxHeartbeats 1000000
namespace Pf
open PySem PySem.Spec PyProof.Rows L2
abbrev Lw := List (Int × PyData)
def lateD (ls : Lw) (p : Int) : List PyData := (ls.filter fun q => decide (q.1 = p)).map (·.2)
def versD (ds : List PyData) (ls : Lw) (p : Int) : List PyData := if (lateD ls p).length = 0 then [ds.getD p.toNat .none] else ds.getD p.toNat .none :: (lateD ls p ++ [.none])
def pickD (xs : List PyData) (m : Int) : PyData := if 0 ≤ m then xs.getD m.toNat .none else .none
structure FallD (ds : List PyData) (ls : Lw) (ch : Int → Int) (es : List PyData) : Prop where
  len : es.length = ds.length
  at' : ∀ p : Nat, p < ds.length → es.getD p .none = pickD (versD ds ls p) (ch p)
  lo : ∀ p : Nat, p < ds.length → -1 ≤ ch p
  hi : ∀ p : Nat, p < ds.length → ch p ≤ (lateD ls p).length
  no : ∀ p : Nat, p < ds.length → lateD ls p = [] → ch p = 0
theorem late_no {ls : Lw} {p : Int} (h : p ∉ ls.map (·.1)) : lateD ls p = [] := by
  unfold lateD
  rw [List.filter_eq_nil_iff.mpr fun q hq z => h (List.mem_map.mpr ⟨q, hq, of_decide_eq_true z⟩)]
  rfl
theorem late_mem {ls : Lw} {p : Int} {v : PyData} (h : v ∈ lateD ls p) : (p, v) ∈ ls := by
  unfold lateD at h
  obtain ⟨q, h1, h2⟩ := List.mem_map.mp h
  obtain ⟨h3, h4⟩ := List.mem_filter.mp h1
  have : q.1 = p := of_decide_eq_true h4
  rw [← this, ← h2]
  exact h3
section
variable {ds es : List PyData} {ls : Lw} {ch : Int → Int}
theorem FallD.same (f : FallD ds ls ch es) {p : Nat} (h : (p : Int) ∉ ls.map (·.1)) : es.getD p .none = ds.getD p .none := by
  by_cases hp : p < ds.length
  · have hl := late_no h
    rw [f.at' p hp, f.no p hp hl]
    unfold versD
    rw [hl]
    rfl
  · have := f.len
    rw [List.getD_eq_getElem?_getD, List.getD_eq_getElem?_getD, List.getElem?_eq_none (by omega), List.getElem?_eq_none (by omega)]
theorem FallD.any (f : FallD ds ls ch es) (p : Nat) : es.getD p .none = ds.getD p .none ∨ es.getD p .none = .none ∨ ((p : Int), es.getD p .none) ∈ ls := by
  by_cases hp : p < ds.length
  · by_cases hl : lateD ls (p : Int) = []
    · left
      rw [f.at' p hp, f.no p hp hl]
      unfold versD
      rw [hl]
      rfl
    · have hlo := f.lo p hp
      have hhi := f.hi p hp
      have hl0 : ¬ (lateD ls (p : Int)).length = 0 := fun z => hl (List.eq_nil_of_length_eq_zero z)
      rw [f.at' p hp]
      unfold pickD
      by_cases hm : 0 ≤ ch p
      · rw [if_pos hm]
        unfold versD
        rw [if_neg hl0]
        by_cases h0 : (ch p).toNat = 0
        · left
          rw [h0]
          rfl
        · right; right
          obtain ⟨m, em⟩ : ∃ m, (ch p).toNat = m + 1 := ⟨(ch p).toNat - 1, by omega⟩
          rw [em, List.getD_cons_succ, List.getD_eq_getElem?_getD, List.getElem?_append_left (by omega), List.getElem?_eq_getElem (show m < (lateD ls (p : Int)).length by omega)]
          exact late_mem (List.getElem_mem _)
      · rw [if_neg hm]
        exact .inr (.inl rfl)
  · left
    have := f.len
    rw [List.getD_eq_getElem?_getD, List.getD_eq_getElem?_getD, List.getElem?_eq_none (by omega), List.getElem?_eq_none (by omega)]
end
section
variable {n S : Nat} {ds es : List PyData} {a g : Int} {t : Nat} {zs : List Gr} {F : Nat → List Int}
end
end Pf

set_option Elab.async false
set_option linter.all false
set_option maxRecDepth 100000
set_option maxHeartbeats 1000000
namespace Pf
open PySem PySem.Spec PyProof.Rows L2
inductive Ev | w (p : Int) (e : PyData) | b
def evD : Ev → PyData
  | .w p e => wrD p e
  | .b => barD
def rep : List PyData → Lw → List Ev → List PyData × Lw
  | ds, ls, [] => (ds, ls)
  | ds, ls, .w p e :: r => rep ds (ls ++ [(p, e)]) r
  | ds, ls, .b :: r => rep (settleD ds ls) [] r
theorem rep_app : ∀ (xs ys : List Ev) (ds : List PyData) (ls : Lw), rep ds ls (xs ++ ys) = rep (rep ds ls xs).1 (rep ds ls xs).2 ys
  | [], _, _, _ => rfl
  | .w p e :: xs, ys, ds, ls => rep_app xs ys _ _
  | .b :: xs, ys, ds, ls => rep_app xs ys _ _
theorem rep_len : ∀ (es : List Ev) (ds : List PyData) (ls : Lw), (rep ds ls es).1.length = ds.length
  | [], _, _ => rfl
  | .w p e :: r, ds, ls => rep_len r _ _
  | .b :: r, ds, ls => by
    show (rep (settleD ds ls) [] r).1.length = _
    rw [rep_len r, settleD_len]
def sevG : List Ev → Nat → Nat → Nat
  | [], _, s => s
  | .w _ _ :: r, i, s => sevG r (i + 1) s
  | .b :: r, i, s => sevG r (i + 1) (i + 1)
def sev (es : List Ev) : Nat := sevG es 0 0
theorem rep_loose : ∀ (es : List Ev) (ds : List PyData) (ls : Lw) (i s : Nat), s + ls.length = i → sevG es i s + (rep ds ls es).2.length = i + es.length
  | [], ds, ls, i, s, h => h
  | .w p e :: r, ds, ls, i, s, h => by
    have := rep_loose r ds (ls ++ [(p, e)]) (i + 1) s (by rw [List.length_append]; show s + (ls.length + 1) = _; omega)
    rw [List.length_cons]
    show sevG r (i + 1) s + (rep ds (ls ++ [(p, e)]) r).2.length = _
    omega
  | .b :: r, ds, ls, i, s, h => by
    have := rep_loose r (settleD ds ls) [] (i + 1) (i + 1) rfl
    rw [List.length_cons]
    show sevG r (i + 1) (i + 1) + (rep (settleD ds ls) [] r).2.length = _
    omega
theorem sev_loose (ds : List PyData) (es : List Ev) : sev es + (rep ds [] es).2.length = es.length := by
  have := rep_loose es ds [] 0 0 rfl
  unfold sev
  omega
end Pf

set_option Elab.async false
set_option linter.all false
set_option maxRecDepth 100000
set_option maxHeartbeats 4000000
namespace Pf
open PySem PySem.Spec PyProof.Rows L2
structure Df (P : Program) (w : World) (K : PySem.W.Frag) (mg : Str → Option Value) (base : Heap) (CX : CXT) (k : Nat) (x : Str) (ps : List Str) (sp : Sp) (f : Addr) (fd : FuncData) : Prop where
  G : FnOk P w K mg base CX k f fd ps sp
  kp : PySem.W.keepIn K (.ref f) = true
  g : mg x = some (.ref f)
  b : Binds K fd ps []
structure Me (P : Program) (w : World) (K : PySem.W.Frag) (mg : Str → Option Value) (base : Heap) (k : Nat) (C : Addr) (x : Str) (ps : List Str) (sp : Sp) (f : Addr) (fd : FuncData) : Prop where
  G : FnOk P w K mg base CX0 k f fd ps sp
  m : Meth K C x f
  b : Binds K fd ps []
theorem late_dp {K : PySem.W.Frag} {G : Hp} : ∀ {lv : List (Int × V)} {ls : Lw} {p : Int}, LvD K G lv ls → DpAll K G (lateV lv p) (lateD ls p)
  | [], [], p, _ => .nil
  | [], q :: ls, p, h => by have := h.1; simp at this
  | q :: lv, [], p, h => by have := h.1; simp at this
  | (a, v) :: lv, (b, e) :: ls, p, h => by
    obtain ⟨h1, h2⟩ := h
    rw [List.map_cons, List.map_cons] at h1 h2
    have e1 : a = b := (List.cons.inj h1).1
    subst e1
    cases h2 with
    | cons g1 g2 =>
      have ih := late_dp (lv := lv) (ls := ls) (p := p) ⟨(List.cons.inj h1).2, g2⟩
      unfold lateV lateD at ih ⊢
      by_cases c : a = p
      · rw [List.filter_cons_of_pos (by simpa using c), List.filter_cons_of_pos (by simpa using c)]
        exact .cons g1 ih
      · rw [List.filter_cons_of_neg (by simpa using c), List.filter_cons_of_neg (by simpa using c)]
        exact ih
theorem vers_dp {K : PySem.W.Frag} {G : Hp} {sv : List V} {ds : List PyData} {lv : List (Int × V)} {ls : Lw} {p : Int} (h : LvD K G lv ls) (g : DpAll K G sv ds) (h0 : 0 ≤ p) (h1 : p < (ds.length : Nat)) : DpAll K G (versV sv lv p) (versD ds ls p) := by
  have hl := late_dp (p := p) h
  have hll := dps_len hl
  have h2 := dget g (show p.toNat < ds.length by omega)
  unfold versV versD
  rw [hll]
  split
  · exact .cons h2 .nil
  · exact .cons h2 (dps_app hl (.cons .non .nil))
def chooseD (ls : Lw) (p m : Int) : Bool := decide (loI (lateD ls p).length ≤ m) && decide (m ≤ ((lateD ls p).length : Nat))
theorem choose_dp {K : PySem.W.Frag} {G : Hp} {lv : List (Int × V)} {ls : Lw} {p m : Int} (h : LvD K G lv ls) : chooseB lv p m = chooseD ls p m := by
  unfold chooseB chooseD
  rw [dps_len (late_dp (p := p) h)]
theorem choose_in {ls : Lw} {p m : Int} (h : chooseD ls p m = true) : -1 ≤ m ∧ m ≤ (lateD ls p).length ∧ (lateD ls p = [] → m = 0) := by
  have h' : (decide (loI (lateD ls p).length ≤ m) && decide (m ≤ ((lateD ls p).length : Nat))) = true := h
  rw [Bool.and_eq_true] at h'
  have h1 := of_decide_eq_true h'.1
  have h2 := of_decide_eq_true h'.2
  unfold loI at h1
  refine ⟨?_, h2, fun z => ?_⟩
  · split at h1 <;> omega
  · rw [z] at h1 h2
    have : (([] : List PyData).length : Nat) = 0 := rfl
    rw [if_neg (by omega)] at h1
    omega
theorem pick_dp {K : PySem.W.Frag} {G : Hp} {sv : List V} {ds : List PyData} {lv : List (Int × V)} {ls : Lw} {p m : Int} (h : LvD K G lv ls) (g : DpAll K G sv ds) (h0 : 0 ≤ p) (h1 : p < (ds.length : Nat)) (hc : chooseD ls p m = true) : Dp K G (pickV (versV sv lv p) m) (pickD (versD ds ls p) m) := by
  have hv := vers_dp h g h0 h1
  have hat := choose_at (sv := sv) (lv := lv) (p := p) (m := m) (by rw [choose_dp h]; exact hc)
  obtain ⟨m0, m1, m2⟩ := choose_in hc
  have hl := vers_len sv lv p
  have hll := dps_len (late_dp (p := p) h)
  unfold pickD
  by_cases hm : 0 ≤ m
  · rw [if_pos hm]
    have hlt : m.toNat < (versD ds ls p).length := by
      rw [← dps_len hv, hl]
      split <;> omega
    have := dget hv hlt
    have e : pickV (versV sv lv p) m = (versV sv lv p).getD m.toNat .non := by
      unfold pickV atI ixN
      rw [if_pos hm, if_pos (by have := dps_len hv; omega)]
      show ((versV sv lv p)[m.toNat]?).getD .non = _
      rw [List.getD_eq_getElem?_getD]
    rw [e]
    exact this
  · rw [if_neg hm]
    have hne : ¬ (lateV lv p).length = 0 := fun z => by
      rw [hll] at z
      have := m2 (List.eq_nil_of_length_eq_zero z)
      omega
    have e : pickV (versV sv lv p) m = .non := by
      have em : m = -1 := by omega
      subst em
      unfold pickV atI ixN
      rw [if_neg hm, if_pos (by rw [hl, if_neg hne]; omega)]
      show ((versV sv lv p)[((-1 : Int) + ((versV sv lv p).length : Nat)).toNat]?).getD .non = _
      have e2 : versV sv lv p = (sv.getD p.toNat .non :: lateV lv p) ++ [.non] := by
        unfold versV
        rw [if_neg hne]
        rfl
      rw [e2, List.length_append, List.length_cons]
      have e3 : ((-1 : Int) + (((lateV lv p).length + 1 + [V.non].length : Nat) : Int)).toNat = (lateV lv p).length + 1 := by
        show ((-1 : Int) + (((lateV lv p).length + 1 + 1 : Nat) : Int)).toNat = _
        omega
      rw [e3, List.getElem?_append_right (by rw [List.length_cons]; exact Nat.le_refl _), List.length_cons, Nat.sub_self]
      rfl
    rw [e]
    exact .non
def fallC (ds : List PyData) (ls : Lw) (cs : List (Int × Int)) : List PyData := cs.foldl (fun s c => s.set c.1.toNat (pickD (versD ds ls c.1) c.2)) ds
def chOf (cs : List (Int × Int)) (p : Int) : Int := ((cs.find? fun c => decide (c.1 = p)).map (·.2)).getD 0
theorem fall_dp {K : PySem.W.Frag} {G : Hp} {sv : List V} {ds : List PyData} {lv : List (Int × V)} {ls : Lw} (h : LvD K G lv ls) (g : DpAll K G sv ds) {cs : List (Int × Int)} (hc : ∀ c ∈ cs, 0 ≤ c.1 ∧ c.1 < ((ds.length : Nat) : Int) ∧ chooseD ls c.1 c.2 = true) : DpAll K G (fallV sv lv cs) (fallC ds ls cs) := by
  unfold fallV fallC
  suffices go : ∀ (s : List V) (e : List PyData), DpAll K G s e → DpAll K G (cs.foldl (fun s c => s.set c.1.toNat (pickV (versV sv lv c.1) c.2)) s) (cs.foldl (fun s c => s.set c.1.toNat (pickD (versD ds ls c.1) c.2)) e) from go sv ds g
  induction cs with
  | nil => intro s e h; exact h
  | cons c cs ih =>
    intro s e he
    obtain ⟨c0, c1, c2⟩ := hc c List.mem_cons_self
    exact ih (fun x hx => hc x (List.mem_cons_of_mem _ hx)) _ _ (dps_set _ he (pick_dp h g c0 c1 c2))
theorem chOf_cons (c : Int × Int) (cs : List (Int × Int)) (p : Int) : chOf (c :: cs) p = if c.1 = p then c.2 else chOf cs p := by
  unfold chOf
  by_cases e : c.1 = p
  · simp [List.find?_cons, e]
  · simp [List.find?_cons, e]
theorem chOf_no {cs : List (Int × Int)} {p : Int} (h : p ∉ cs.map (·.1)) : chOf cs p = 0 := by
  unfold chOf
  rw [List.find?_eq_none.mpr fun c hc z => h (List.mem_map.mpr ⟨c, hc, of_decide_eq_true z⟩)]
  rfl
theorem chOf_mem : ∀ {cs : List (Int × Int)} {c : Int × Int}, (cs.map (·.1)).Nodup → c ∈ cs → chOf cs c.1 = c.2
  | x :: cs, c, hn, h => by
    have hn' : x.1 ∉ cs.map (·.1) ∧ (cs.map (·.1)).Nodup := List.nodup_cons.mp hn
    rw [chOf_cons]
    rcases List.mem_cons.mp h with z | z
    · rw [z, if_pos rfl]
    · rw [if_neg fun e => hn'.1 (by rw [e]; exact List.mem_map.mpr ⟨c, z, rfl⟩)]
      exact chOf_mem hn'.2 z
theorem fall_is {ds : List PyData} {ls : Lw} {cs : List (Int × Int)} (hn : (cs.map (·.1)).Nodup) (hc : ∀ c ∈ cs, 0 ≤ c.1 ∧ c.1 < ((ds.length : Nat) : Int) ∧ chooseD ls c.1 c.2 = true) : FallD ds ls (chOf cs) (fallC ds ls cs) := by
  have len : ∀ (cs : List (Int × Int)) (e : List PyData), (cs.foldl (fun s c => s.set c.1.toNat (pickD (versD ds ls c.1) c.2)) e).length = e.length := by
    intro cs
    induction cs with
    | nil => intro e; rfl
    | cons c cs ih => intro e; rw [List.foldl_cons, ih, List.length_set]
  have get : ∀ (cs : List (Int × Int)), (cs.map (·.1)).Nodup → (∀ c ∈ cs, 0 ≤ c.1) → ∀ (e : List PyData) (p : Nat), p < e.length → (cs.foldl (fun s c => s.set c.1.toNat (pickD (versD ds ls c.1) c.2)) e).getD p .none = if (p : Int) ∈ cs.map (·.1) then pickD (versD ds ls p) (chOf cs p) else e.getD p .none := by
    intro cs
    induction cs with
    | nil => intro _ _ e p hp; rfl
    | cons c cs ih =>
      intro hn h0 e p hp
      have hn' : c.1 ∉ cs.map (·.1) ∧ (cs.map (·.1)).Nodup := List.nodup_cons.mp hn
      have hc0 := h0 c List.mem_cons_self
      rw [List.foldl_cons, ih hn'.2 (fun x hx => h0 x (List.mem_cons_of_mem _ hx)) _ p (by rw [List.length_set]; exact hp), chOf_cons]
      by_cases e1 : c.1 = (p : Int)
      · have h1 : (p : Int) ∉ cs.map (·.1) := by rw [← e1]; exact hn'.1
        rw [if_neg h1, if_pos (by rw [List.map_cons, e1]; exact List.mem_cons_self), if_pos e1]
        have : c.1.toNat = p := by omega
        rw [this, List.getD_eq_getElem?_getD, List.getElem?_set_self hp, e1]
        rfl
      · rw [if_neg e1]
        have : c.1.toNat ≠ p := by omega
        have e3 : (e.set c.1.toNat (pickD (versD ds ls c.1) c.2)).getD p .none = e.getD p .none := by
          rw [List.getD_eq_getElem?_getD, List.getD_eq_getElem?_getD, List.getElem?_set_ne this]
        rw [e3]
        by_cases h1 : (p : Int) ∈ cs.map (·.1)
        · rw [if_pos h1, if_pos (show (p : Int) ∈ (c :: cs).map (·.1) from List.mem_cons_of_mem _ h1)]
        · rw [if_neg h1, if_neg (show ¬ (p : Int) ∈ (c :: cs).map (·.1) from fun z => (List.mem_cons.mp z).elim (fun y => e1 y.symm) h1)]
  have val : ∀ p : Nat, p < ds.length → (p : Int) ∈ cs.map (·.1) → chooseD ls p (chOf cs p) = true := fun p hp h => by
    obtain ⟨c, hcm, e⟩ := List.mem_map.mp h
    have := (hc c hcm).2.2
    rw [← e, chOf_mem hn hcm]
    exact this
  refine ⟨len _ _, fun p hp => ?_, fun p hp => ?_, fun p hp => ?_, fun p hp hl => ?_⟩
  · show (cs.foldl _ ds).getD p .none = _
    rw [get cs hn (fun c h => (hc c h).1) ds p hp]
    by_cases h : (p : Int) ∈ cs.map (·.1)
    · rw [if_pos h]
    · rw [if_neg h, chOf_no h]
      unfold pickD versD
      rw [if_pos (Int.le_refl _)]
      split <;> rfl
  · by_cases h : (p : Int) ∈ cs.map (·.1)
    · exact (choose_in (val p hp h)).1
    · rw [chOf_no h]; decide
  · by_cases h : (p : Int) ∈ cs.map (·.1)
    · exact (choose_in (val p hp h)).2.1
    · rw [chOf_no h]; omega
  · by_cases h : (p : Int) ∈ cs.map (·.1)
    · exact (choose_in (val p hp h)).2.2 hl
    · exact chOf_no h
theorem scCm : FnScope ["moment", "most"] ["moment", "most"] (defScope sCm) := ⟨rfl, rfl, rfl, by decide +kernel, rfl, by decide +kernel, by decide +kernel⟩
theorem scDa : FnScope ["disk", "trace", "moment", "late", "event"] ["disk", "trace", "moment"] (defScope sDa) := ⟨rfl, rfl, rfl, by decide +kernel, rfl, by decide +kernel, by decide +kernel⟩
def inR (N : Nat) (es : List Ev) : Prop := ∀ p e, Ev.w p e ∈ es → 0 ≤ p ∧ p < (N : Int)
theorem rep_more (ds : List PyData) (ls : Lw) (es : List Ev) (i : Nat) (x : Ev) (h : es[i]? = some x) : rep ds ls (es.take (i + 1)) = rep (rep ds ls (es.take i)).1 (rep ds ls (es.take i)).2 [x] := by
  rw [List.take_add_one, h, rep_app]
  rfl
theorem rep_in {N : Nat} {es : List Ev} {ds0 : List PyData} (h : inR N es) {i : Nat} : ∀ q ∈ (rep ds0 [] (es.take i)).2, 0 ≤ q.1 ∧ q.1 < ((N : Nat) : Int) := by
  have go : ∀ (xs : List Ev) (ds : List PyData) (ls : Lw), (∀ p e, Ev.w p e ∈ xs → 0 ≤ p ∧ p < ((N : Nat) : Int)) → (∀ q ∈ ls, 0 ≤ q.1 ∧ q.1 < ((N : Nat) : Int)) → ∀ q ∈ (rep ds ls xs).2, 0 ≤ q.1 ∧ q.1 < ((N : Nat) : Int) := by
    intro xs
    induction xs with
    | nil => intro ds ls _ h; exact h
    | cons x xs ih =>
      intro ds ls hx h
      cases x with
      | b => exact ih _ [] (fun p e hp => hx p e (List.mem_cons_of_mem _ hp)) (fun q hq => by cases hq)
      | w p e =>
        refine ih _ (ls ++ [(p, e)]) (fun p e hp => hx p e (List.mem_cons_of_mem _ hp)) fun q hq => ?_
        rcases List.mem_append.mp hq with z | z
        · exact h q z
        · rw [List.mem_singleton.mp z]
          exact hx p e List.mem_cons_self
  exact go _ _ _ (fun p e hp => h p e (List.mem_of_mem_take hp)) (fun q hq => by cases hq)
section
variable {P : Program} {w : World} {K : PySem.W.Frag} {mg : Str → Option Value} {base : Heap} {CS CD : Addr}
def spCm : Sp := fun vs H Q _ => ∃ q N : Int, vs = [.int q, .int N] ∧ 0 ≤ q ∧ q ≤ N ∧ Q .non H
theorem ok_cm {f fW : Addr} {fd fdW : FuncData} (F : Fun K "check_moment" "check_moment" sCm f fd) (GW : FnOk P w K mg base CX0 1 fW fdW ["thing", "low", "high"] (spWhole K)) (kW : PySem.W.keepIn K (.ref fW) = true) (gW : mg "is_whole" = some (.ref fW)) (b3 : Binds K fdW ["thing", "low", "high"] []) :
    FnOk P w K mg base CX0 2 f fd ["moment", "most"] spCm := by
  refine F.ok scCm (fun vs H Q E h => ?_) (fun cdv A outer s H vs Q E hr h => ?_)
  · obtain ⟨q, N, rfl, _⟩ := h
    rfl
  · obtain ⟨q, N, rfl, h0, h1, k⟩ := h
    refine ⟨_, pss_one (ps_if (pt_not (pt_val (pe_call GW hr rfl gW kW b3 .nil pass0 (pa_cons (pv 0) (pa_cons pe_int (pa_cons (pv 1) pa_nil)))))) (pss_one ps_never) pss_nil), ?_⟩
    refine ⟨_, rfl, _, rfl, .int q, .int q, some 0, some N, rfl, .int q, _, rfl, ?_⟩
    have e : wholeB (.int q) (some 0) (some N) = true := by
      show (decide (0 ≤ q) && decide (q ≤ N)) = true
      rw [decide_eq_true h0, decide_eq_true h1]
      rfl
    rw [e]
    exact iteF k
def spDa (K : PySem.W.Frag) (CD : Addr) : Sp := fun vs H Q _ => ∃ (d : Addr) (v : V) (q : Nat) (ds0 : List PyData) (es : List Ev), vs = [.ref d, v, .int (q : Nat)] ∧ DkAt K CD H d ds0 [] ∧ Dp K (Tp H) v (.tuple (es.map evD)) ∧ q ≤ es.length ∧ es.length ≤ 900 ∧ inR ds0.length es ∧ 1 ≤ ds0.length ∧ ds0.length ≤ 1000 ∧
  ∀ x H', Same H H' → H x = none → DkAt K CD H' x (rep ds0 [] (es.take q)).1 (rep ds0 [] (es.take q)).2 → Q (.ref x) H'
theorem ok_da {f fC fM fW fB : Addr} {fd fdC fdM fdW fdB : FuncData} (F : Fun K "disk_after" "disk_after" sDa f fd) (T : DTxt K CD) (DM : Df P w K mg base CX0 2 "check_moment" ["moment", "most"] spCm fM fdM) (DC : Df P w K mg base CX0 3 "copy_of" ["disk"] (spCopy CD) fC fdC)
    (MW : Me P w K mg base 3 CD "write" ["self", "plate", "value"] (spWrite CD) fW fdW) (MB : Me P w K mg base 1 CD "barrier" ["self"] (spBar CD) fB fdB) (ml : mg "len" = none) : FnOk P w K mg base CX0 4 f fd ["disk", "trace", "moment"] (spDa K CD) := by
  refine F.ok scDa (fun vs H Q E h => ?_) (fun cdv A outer s H vs Q E hr h => ?_)
  · obtain ⟨d, v, q, ds0, es, rfl, _⟩ := h
    rfl
  · obtain ⟨d, v, q, ds0, es, rfl, Dk, hv, hq, hes, hin, h2, hN, k⟩ := h
    have nd := scDa.nd
    have hr1 : Room 1 _ := hr.mono (by decide)
    have hr2 : Room 2 _ := hr.mono (by decide)
    refine ⟨_, pss_cons (ps_expr (pe_call DM.G hr2 rfl DM.g DM.kp DM.b .nil pass0 (pa_cons (pv 2) (pa_cons (pe_callB call_len_seq (by rfl) ml boot_len (pa_cons (pv 1) pa_nil)) pa_nil))))
      (pss_cons (ps_set (i := 3) nd rfl (.inl rfl) (pe_call DC.G hr rfl DC.g DC.kp DC.b .nil pass0 (pa_cons (pv 0) pa_nil)))
      (pss_cons (ps_for PassesOwn.never rfl (pi_tup (pe_slice sl_tupA (pv 1) po_none (po_some (pv 2)))) (pg_name (i := 4) nd rfl (.inl rfl))
        (pss_one (ps_if (pt_cmpR op_eq (pe_ix ix_tup (pv 4) pe_int (fun _ _ => rfl)) pe_str (nomark _))
          (pss_one (ps_expr (pe_meth0 (pv 3) T.cl MB.m MB.G hr1 MB.b .nil pass0)))
          (pss_one (ps_expr (pe_meth (pv 3) T.cl MW.m MW.G hr MW.b .nil pass0 (pa_cons (pe_ix ix_tup (pv 4) pe_int (fun _ _ => rfl)) (pa_cons (pe_ix ix_tup (pv 4) pe_int (fun _ _ => rfl)) pa_nil))))))))
      (pss_one (ps_ret (pv 3))))), ?_⟩
    obtain ⟨ta, txs, rfl, ht1, ht2⟩ : ∃ a xs, v = .ref a ∧ SqT K (Tp H) a xs ∧ DpAll K (Tp H) xs (es.map evD) := by cases hv with | tup h1 h2 => exact ⟨_, _, rfl, h1, h2⟩
    have htl := dps_len ht2
    rw [List.length_map] at htl
    obtain ⟨sv, lv, D, D2, D3⟩ := id Dk
    have hlv : lv = [] := by
      have := congrArg List.length D3.1
      rw [List.length_map] at this
      exact List.eq_nil_of_length_eq_zero this
    subst hlv
    refine ⟨_, rfl, _, rfl, ta, txs, rfl, .inr (same_seqT tp_le ht1), _, _, rfl, by omega, by omega, ?_⟩
    refine ⟨_, rfl, d, _, sv, [], rfl, D, by omega, by omega, fun x H1 s1 hx D1 => ?_⟩
    have Dk1 : DkAt K CD H1 x ds0 [] := ⟨sv, [], D1, dps_same (tp_same s1) _ _ D2, rfl, .nil⟩
    have hx1 : ∃ o, H1 x = some o := by
      obtain ⟨dx, a, b, ts, e1, _⟩ := D1
      exact ⟨_, e1⟩
    refine ⟨_, rfl, _, rfl, ?_⟩
    (try dsimp -proj only [tNoPart])
    refine ⟨_, rfl, ?_⟩
    refine slA_use (K := K) (a := ta) (lo := none) (hi := some (q : Int)) (same_seqT (tp_le.trans s1) ht1) fun p H2 s2 h2' => ?_
    rw [cut_to] at h2'
    have h2t := sqt_tp h2'
    have Dk2 := Dk1.fr (xs := []) (.of s2) (by simp)
    have ht22 : DpAll K (Tp H2) (txs.take q) ((es.take q).map evD) := by
      rw [List.map_take]
      exact dps_same (tp_same (s1.trans s2)) _ _ (dps_take q ht2)
    refine ⟨p, rfl, ⟨_, h2'⟩, for_tup (K := K) (a := p) (xs := txs.take q) (fun i σ H' => ∃ y4, σ = [some (.ref d), some (.ref ta), some (.int (q : Nat)), some (.ref x), y4] ∧ Fr [x] H2 H' ∧ DkAt K CD H' x (rep ds0 [] (es.take i)).1 (rep ds0 [] (es.take i)).2)
      ⟨none, rfl, .of (Same.refl _), Dk2⟩ (fun i σ H' _ z => by obtain ⟨_, _, z, _⟩ := z; exact same_seqT (z.tp.trans tp_le) h2t) ?_ ?_⟩
    · rintro i u σ H' hi ⟨y4, rfl, fr, Dk3⟩
      have hil : i < q := by
        have := (List.getElem?_eq_some_iff.mp hi).1
        rw [List.length_take] at this
        omega
      obtain ⟨e, he1, he2⟩ := dps_get ht22 hi
      rw [List.getElem?_map, List.getElem?_take, if_pos hil] at he1
      cases hev : es[i]? with
      | none => rw [hev] at he1; cases he1
      | some ev =>
      rw [hev] at he1
      have hee : evD ev = e := Option.some.inj he1
      subst hee
      have hu := dp_same fr.tp _ _ he2
      have hmore := rep_more ds0 [] es i ev hev
      obtain ⟨sv3, lv3, D3', D32, D33⟩ := id Dk3
      have hrl : (rep ds0 [] (es.take i)).1.length = ds0.length := rep_len _ _ _
      rw [hrl] at D3'
      have hll : lv3.length ≤ 900 := by
        have h1 := congrArg List.length D33.1
        rw [List.length_map, List.length_map] at h1
        have h3 := sev_loose ds0 (es.take i)
        rw [List.length_take] at h3
        omega
      cases ev with
      | b =>
        obtain ⟨ua, rfl, hua⟩ : ∃ a, u = .ref a ∧ SqT K (Tp H') a [.str "barrier"] := by
          have hu' : Dp K (Tp H') u (.tuple [.str "barrier"]) := hu
          cases hu' with | tup h1 h2 => cases h2 with | cons g1 g2 => cases g2; cases g1; exact ⟨_, rfl, h1⟩
        have hua' := same_seqT tp_le hua
        refine ⟨_, rfl, ua, _, 0, .str "barrier", rfl, rfl, hua', atI_nat (j := 0) rfl, ?_⟩
        refine ⟨rfl, _, rfl, ?_⟩
        rw [decide_eq_true (show V.str "barrier" = V.str "barrier" from rfl)]
        obtain ⟨dx3, pa3, pb3, ts3, x31, _⟩ := id D3'
        refine iteT ⟨_, rfl, x, dx3, _, rfl, x31, fl_no _ _ _ (by decide +kernel) (by decide +kernel) (by decide +kernel), x, _, sv3, lv3, rfl, D3', ?_, by omega, fun H4 f4 D4 => ?_⟩
        · intro z hz
          have h1 : z.1 ∈ lv3.map (·.1) := List.mem_map.mpr ⟨z, hz, rfl⟩
          rw [D33.1] at h1
          obtain ⟨z', hz1, hz2⟩ := List.mem_map.mp h1
          rw [← hz2]
          exact rep_in hin (i := i) z' hz1
        · refine ⟨_, rfl, fr.trans f4, ?_⟩
          rw [hmore]
          show DkAt K CD H4 x (settleD (rep ds0 [] (es.take i)).1 (rep ds0 [] (es.take i)).2) []
          refine ⟨settleV sv3 lv3, [], ?_, dps_same f4.tp _ _ (settle_dp D33 D32), rfl, .nil⟩
          rw [settleD_len, hrl]
          exact D4
      | w p0 e0 =>
        obtain ⟨ua, uv, rfl, hua, huv⟩ : ∃ a uv, u = .ref a ∧ SqT K (Tp H') a [.str "write", .int p0, uv] ∧ Dp K (Tp H') uv e0 := by
          have hu' : Dp K (Tp H') u (.tuple [.str "write", .int p0, e0]) := hu
          cases hu' with
          | tup h1 h2 =>
            cases h2 with
            | cons g1 g2 =>
              cases g1
              cases g2 with
              | cons g3 g4 =>
                cases g3
                cases g4 with
                | cons g5 g6 =>
                  cases g6
                  exact ⟨_, _, rfl, h1, g5⟩
        have hua' := same_seqT tp_le hua
        refine ⟨_, rfl, ua, _, 0, .str "write", rfl, rfl, hua', atI_nat (j := 0) rfl, ?_⟩
        refine ⟨rfl, _, rfl, ?_⟩
        rw [decide_eq_false (show ¬ V.str "write" = V.str "barrier" from fun z => absurd (V.str.inj z) (by decide +kernel))]
        obtain ⟨dx3, pa3, pb3, ts3, x31, _⟩ := id D3'
        obtain ⟨hp0, hp1⟩ := hin p0 e0 (List.mem_of_getElem? hev)
        refine iteF ⟨_, rfl, x, dx3, _, rfl, x31, fl_no _ _ _ (by decide +kernel) (by decide +kernel) (by decide +kernel), _, rfl, ua, _, 1, .int p0, rfl, rfl, hua', atI_nat (j := 1) rfl, _, rfl, ua, _, 2, uv, rfl, rfl, hua', atI_nat (j := 2) rfl, x, _, p0, uv, sv3, lv3, rfl, D3', hp0, hp1, by omega, fun H4 b4 D4 => ?_⟩
        have f4 : Fr [x] H' H4 := .but b4 (fun c hc u z => by rw [List.mem_singleton.mp hc] at z; exact D3'.obj u z)
        refine ⟨_, rfl, fr.trans f4, ?_⟩
        rw [hmore]
        show DkAt K CD H4 x (rep ds0 [] (es.take i)).1 ((rep ds0 [] (es.take i)).2 ++ [(p0, e0)])
        have D33' := D33.same f4.tp
        refine ⟨sv3, lv3 ++ [(p0, uv)], by rw [hrl]; exact D4, dps_same f4.tp _ _ D32, by rw [List.map_append, List.map_append, D33'.1]; rfl, ?_⟩
        rw [List.map_append, List.map_append]
        exact dps_app D33'.2 (.cons (dp_same f4.tp _ _ huv) .nil)
    · rintro σ H' ⟨y4, rfl, fr, Dk3⟩
      have hl : (txs.take q).length = q := by rw [List.length_take]; omega
      rw [hl] at Dk3
      have hxH : H x = none := hx
      refine ⟨_, rfl, k x H' (fun b o z => fr.at ((s1.trans s2) _ _ z) (by simp [ne_of_none z hxH])) hxH Dk3⟩
end
end Pf

set_option Elab.async false
set_option linter.all false
set_option maxRecDepth 100000
set_option maxHeartbeats 4000000
namespace Pf
open PySem PySem.Spec PyProof.Rows L2
def Obj1 (H : Hp) (c : Addr) : Prop := (∃ C dx fs, H c = some (.ins C dx fs)) ∨ ∃ kvs, H c = some (.dK kvs)
theorem DrawAt.fr {K : PySem.W.Frag} {H H' : Hp} {a sc : Addr} {ns : List Int} {cs : List Addr} (D : DrawAt K H a sc ns) (f : Fr cs H H') (na : a ∉ cs) (ob : ∀ c ∈ cs, Obj1 H c) : DrawAt K H' a sc ns := by
  obtain ⟨⟨i, e⟩, hs, hl⟩ := D
  have nl : ∀ {p : Addr} {o : HO}, H p = some o → (∀ C dx fs, o ≠ .ins C dx fs) → (∀ kvs, o ≠ .dK kvs) → p ∉ cs := fun {p o} e h1 h2 z => by
    rcases ob p z with ⟨C, dx, fs, q⟩ | ⟨kvs, q⟩
    · rw [q] at e; exact h1 C dx fs (Option.some.inj e).symm
    · rw [q] at e; exact h2 kvs (Option.some.inj e).symm
  refine ⟨⟨i, f.at e na⟩, ?_, hl⟩
  have key : ∀ {p : Addr} {o : HO}, Off [a] H p = some o → (∀ C dx fs, o ≠ .ins C dx fs) → (∀ kvs, o ≠ .dK kvs) → Off [a] H' p = some o := fun {p o} e h1 h2 => by
    by_cases hb : p ∈ [a]
    · rw [off_in hb] at e; cases e
    · rw [off_out hb] at e ⊢
      exact f.at e (nl e h1 h2)
  rcases hs with (h | ⟨o, h⟩) | h
  · exact .inl (.inl (key h (fun _ _ _ z => by cases z) (fun _ z => by cases z)))
  · exact .inl (.inr ⟨o, key h (fun _ _ _ z => by cases z) (fun _ z => by cases z)⟩)
  · exact .inr h
theorem But.free {cs : List Addr} {H H' : Hp} {p : Addr} (s : But cs H H') (h : H' p = none) (n : p ∉ cs) : H p = none := by
  cases e : H p with
  | none => rfl
  | some o => rw [s.at e n] at h; cases h
theorem DrawAt.ne {K : PySem.W.Frag} {H : Hp} {a sc x : Addr} {ns : List Int} (D : DrawAt K H a sc ns) (h : H x = none) : x ≠ a := fun z => by
  obtain ⟨i, e⟩ := D.1
  rw [z, e] at h
  cases h
theorem DrawAt.frb {K : PySem.W.Frag} {H H' : Hp} {a sc : Addr} {ns : List Int} (D : DrawAt K H a sc ns) (s : But [a] H H') : Fr [a] H H' := Fr.but s fun c hc u e => by
  obtain ⟨i, e2⟩ := D.1
  rw [List.mem_singleton.mp hc, e2] at e
  cases e
  rfl
theorem but_trans {cs : List Addr} {H H1 H2 : Hp} (s : But cs H H1) (g : But cs H1 H2) : But cs H H2 := fun b o e => by
  have hb : b ∉ cs := fun y => by rw [off_in y] at e; cases e
  rw [off_out hb] at e
  exact g.at (s.at e hb) hb
theorem but_same {cs : List Addr} {H H1 H2 : Hp} (s : But cs H H1) (g : Same H1 H2) : But cs H H2 := but_trans s (.of g)
theorem paired_mono {α β : Type} {R S : α → β → Prop} (h : ∀ a b, R a b → S a b) : ∀ {xs : List α} {ys : List β}, Paired R xs ys → Paired S xs ys
  | _, _, .nil => .nil
  | _, _, .cons q t => .cons (h _ _ q) (paired_mono h t)
theorem merge_go : ∀ (kvs acc : List (Key × V)), ((acc ++ kvs).map (·.1)).Nodup → mergeK acc kvs = acc ++ kvs
  | [], acc, _ => (List.append_nil acc).symm
  | kv :: kvs, acc, h => by
    have e : putK acc kv.1 kv.2 = acc ++ [kv] := by
      unfold putK
      have hno : (acc.any fun x => decide (x.1 = kv.1)) = false := by
        rw [List.any_eq_false]
        intro x hx z
        have z' : x.1 = kv.1 := of_decide_eq_true z
        rw [List.map_append] at h
        exact (List.nodup_append.mp h).2.2 _ (List.mem_map.mpr ⟨x, hx, rfl⟩) _ (List.mem_map.mpr ⟨kv, List.mem_cons_self, rfl⟩) z'
      rw [hno, if_neg (by decide)]
    show mergeK (putK acc kv.1 kv.2) kvs = _
    rw [e, merge_go kvs (acc ++ [kv]) (by rw [List.append_assoc]; exact h), List.append_assoc]
    rfl
theorem merge_nd {kvs : List (Key × V)} (h : (kvs.map (·.1)).Nodup) : mergeK [] kvs = kvs := merge_go kvs [] h
def DB (K : PySem.W.Frag) (H : Hp) (D : Addr) (cs : List Ch) : Prop := ∃ (qs : List Addr) (trs : List Tr), H D = some (.lst (qs.map V.ref)) ∧ tc trs = cs ∧ Paired (fun q kv => SqT K (Tp H) q [kV kv.1, kv.2]) qs (tk trs) ∧ ∀ t ∈ trs, Dp K (Tp H) t.2.1 (rowD t.2.2)
theorem paired_len {α β : Type} {R : α → β → Prop} : ∀ {xs : List α} {ys : List β}, Paired R xs ys → xs.length = ys.length
  | _, _, .nil => rfl
  | _, _, .cons q t => by simp [paired_len t]
theorem DB.nil {K : PySem.W.Frag} {H : Hp} {D : Addr} (h : H D = some (.lst [])) : DB K H D [] := ⟨[], [], h, rfl, .nil, fun _ z => by cases z⟩
theorem tk_nodup {ts : List Tr} (h : ((tc ts).map (·.1)).Nodup) : ((tk ts).map (·.1)).Nodup := by
  rw [tk_keys, ← tc_keys]
  exact List.pairwise_map.mpr (h.imp fun z e => z (Sum.inl.inj e))
theorem DB.dict {K : PySem.W.Frag} {H : Hp} {D : Addr} {cs : List Ch} (B : DB K H D cs) (hn : (cs.map (·.1)).Nodup) {R : V → Hp → Prop} (k : ∀ c ts, H c = none → tc ts = cs → (∀ t ∈ ts, Dp K (Tp H) t.2.1 (rowD t.2.2)) → R (.ref c) (upd H c (.dK (tk ts)))) :
    ∃ (a : Addr) (ps : List Addr) (kvs : List (Key × V)), [V.ref D] = [.ref a] ∧ SqL K H a (ps.map V.ref) ∧ Paired (fun p kv => SqT K H p [kV kv.1, kv.2]) ps kvs ∧ ∀ p, H p = none → R (.ref p) (upd H p (.dK (mergeK [] kvs))) := by
  obtain ⟨qs, trs, e, et, hp, ht⟩ := B
  refine ⟨D, qs, tk trs, rfl, SqL.of e, paired_mono (fun p kv z => same_seqT tp_le z) hp, fun p hpn => ?_⟩
  rw [merge_nd (tk_nodup (by rw [et]; exact hn))]
  exact k p trs hpn et ht
def DI (K : PySem.W.Frag) (H : Hp) (D : Addr) (cs : List (Int × Int)) : Prop := ∃ qs : List Addr, H D = some (.lst (qs.map V.ref)) ∧ Paired (fun q kv => SqT K (Tp H) q [kV kv.1, kv.2]) qs (chV cs)
theorem DI.dict {K : PySem.W.Frag} {H : Hp} {D : Addr} {cs : List (Int × Int)} (B : DI K H D cs) (hn : (cs.map (·.1)).Nodup) {R : V → Hp → Prop} (k : ∀ c, H c = none → R (.ref c) (upd H c (.dK (chV cs)))) :
    ∃ (a : Addr) (ps : List Addr) (kvs : List (Key × V)), [V.ref D] = [.ref a] ∧ SqL K H a (ps.map V.ref) ∧ Paired (fun p kv => SqT K H p [kV kv.1, kv.2]) ps kvs ∧ ∀ p, H p = none → R (.ref p) (upd H p (.dK (mergeK [] kvs))) := by
  obtain ⟨qs, e, hp⟩ := B
  refine ⟨D, qs, chV cs, rfl, SqL.of e, paired_mono (fun p kv z => same_seqT tp_le z) hp, fun p hpn => ?_⟩
  have hn2 : ((chV cs).map (·.1)).Nodup := by
    unfold chV
    rw [List.map_map]
    exact List.pairwise_map.mpr ((List.pairwise_map.mp hn).imp fun z e => z (Sum.inl.inj e))
  rw [merge_nd hn2]
  exact k p hpn
section
variable {P : Program} {w : World} {K : PySem.W.Frag} {mg : Str → Option Value} {base : Heap} {CS CD : Addr}
end
end Pf

set_option Elab.async false
set_option linter.all false
set_option maxRecDepth 100000
set_option maxHeartbeats 4000000
namespace Pf
open PySem PySem.Spec PyProof.Rows L2
theorem DB.acc {K : PySem.W.Frag} {H : Hp} {D : Addr} {cs : List Ch} (B : DB K H D cs) : ∃ acc, H D = some (.lst acc) ∧ acc.length = cs.length := by
  obtain ⟨qs, trs, e, et, hp, _⟩ := B
  refine ⟨_, e, ?_⟩
  have h1 := paired_len hp
  unfold tk at h1
  rw [List.length_map] at h1 ⊢
  rw [h1, ← et]
  unfold tc
  rw [List.length_map]
theorem DI.fr {K : PySem.W.Frag} {H H' : Hp} {D : Addr} {cs : List (Int × Int)} {xs : List Addr} (B : DI K H D cs) (f : Fr xs H H') (n : D ∉ xs) : DI K H' D cs := by
  obtain ⟨qs, e, hp⟩ := B
  exact ⟨qs, f.at e n, paired_mono (fun p kv z => same_seqT f.tp z) hp⟩
end Pf

set_option Elab.async false
set_option linter.all false
set_option maxRecDepth 100000
set_option maxHeartbeats 4000000
namespace Pf
open PySem PySem.Spec PyProof.Rows L2
theorem rep_inL {N : Nat} {es : List Ev} {ds0 : List PyData} {ls0 : Lw} (h : inR N es) (h0 : ∀ q ∈ ls0, 0 ≤ q.1 ∧ q.1 < ((N : Nat) : Int)) {i : Nat} : ∀ q ∈ (rep ds0 ls0 (es.take i)).2, 0 ≤ q.1 ∧ q.1 < ((N : Nat) : Int) := by
  have go : ∀ (xs : List Ev) (ds : List PyData) (ls : Lw), (∀ p e, Ev.w p e ∈ xs → 0 ≤ p ∧ p < ((N : Nat) : Int)) → (∀ q ∈ ls, 0 ≤ q.1 ∧ q.1 < ((N : Nat) : Int)) → ∀ q ∈ (rep ds ls xs).2, 0 ≤ q.1 ∧ q.1 < ((N : Nat) : Int) := by
    intro xs
    induction xs with
    | nil => intro ds ls _ h; exact h
    | cons x xs ih =>
      intro ds ls hx h
      cases x with
      | b => exact ih _ [] (fun p e hp => hx p e (List.mem_cons_of_mem _ hp)) (fun q hq => by cases hq)
      | w p e =>
        refine ih _ (ls ++ [(p, e)]) (fun p e hp => hx p e (List.mem_cons_of_mem _ hp)) fun q hq => ?_
        rcases List.mem_append.mp hq with z | z
        · exact h q z
        · rw [List.mem_singleton.mp z]
          exact hx p e List.mem_cons_self
  exact go _ _ _ (fun p e hp => h p e (List.mem_of_mem_take hp)) h0
section
variable {P : Program} {w : World} {K : PySem.W.Frag} {mg : Str → Option Value} {base : Heap} {CD : Addr}
def spDaL (K : PySem.W.Frag) (CD : Addr) : Sp := fun vs H Q _ => ∃ (d : Addr) (v : V) (q : Nat) (ds0 : List PyData) (ls0 : Lw) (es : List Ev), vs = [.ref d, v, .int (q : Nat)] ∧ DkAt K CD H d ds0 ls0 ∧ (∀ z ∈ ls0, 0 ≤ z.1 ∧ z.1 < ((ds0.length : Nat) : Int)) ∧ ls0.length ≤ 100 ∧ Dp K (Tp H) v (.tuple (es.map evD)) ∧ q ≤ es.length ∧ es.length ≤ 100 ∧ inR ds0.length es ∧ 1 ≤ ds0.length ∧ ds0.length ≤ 1000 ∧
  ∀ x H', Same H H' → H x = none → DkAt K CD H' x (rep ds0 ls0 (es.take q)).1 (rep ds0 ls0 (es.take q)).2 → Q (.ref x) H'
theorem ok_daL {f fC fM fW fB : Addr} {fd fdC fdM fdW fdB : FuncData} (F : Fun K "disk_after" "disk_after" sDa f fd) (T : DTxt K CD) (DM : Df P w K mg base CX0 2 "check_moment" ["moment", "most"] spCm fM fdM) (DC : Df P w K mg base CX0 3 "copy_of" ["disk"] (spCopy CD) fC fdC)
    (MW : Me P w K mg base 3 CD "write" ["self", "plate", "value"] (spWrite CD) fW fdW) (MB : Me P w K mg base 1 CD "barrier" ["self"] (spBar CD) fB fdB) (ml : mg "len" = none) : FnOk P w K mg base CX0 4 f fd ["disk", "trace", "moment"] (spDaL K CD) := by
  refine F.ok scDa (fun vs H Q E h => ?_) (fun cdv A outer s H vs Q E hr h => ?_)
  · obtain ⟨d, v, q, ds0, ls0, es, rfl, _⟩ := h
    rfl
  · obtain ⟨d, v, q, ds0, ls0, es, rfl, Dk, hl0, hll0, hv, hq, hes, hin, h2, hN, k⟩ := h
    have nd := scDa.nd
    have hr1 : Room 1 _ := hr.mono (by decide)
    have hr2 : Room 2 _ := hr.mono (by decide)
    refine ⟨_, pss_cons (ps_expr (pe_call DM.G hr2 rfl DM.g DM.kp DM.b .nil pass0 (pa_cons (pv 2) (pa_cons (pe_callB call_len_seq (by rfl) ml boot_len (pa_cons (pv 1) pa_nil)) pa_nil))))
      (pss_cons (ps_set (i := 3) nd rfl (.inl rfl) (pe_call DC.G hr rfl DC.g DC.kp DC.b .nil pass0 (pa_cons (pv 0) pa_nil)))
      (pss_cons (ps_for PassesOwn.never rfl (pi_tup (pe_slice sl_tupA (pv 1) po_none (po_some (pv 2)))) (pg_name (i := 4) nd rfl (.inl rfl))
        (pss_one (ps_if (pt_cmpR op_eq (pe_ix ix_tup (pv 4) pe_int (fun _ _ => rfl)) pe_str (nomark _))
          (pss_one (ps_expr (pe_meth0 (pv 3) T.cl MB.m MB.G hr1 MB.b .nil pass0)))
          (pss_one (ps_expr (pe_meth (pv 3) T.cl MW.m MW.G hr MW.b .nil pass0 (pa_cons (pe_ix ix_tup (pv 4) pe_int (fun _ _ => rfl)) (pa_cons (pe_ix ix_tup (pv 4) pe_int (fun _ _ => rfl)) pa_nil))))))))
      (pss_one (ps_ret (pv 3))))), ?_⟩
    obtain ⟨ta, txs, rfl, ht1, ht2⟩ : ∃ a xs, v = .ref a ∧ SqT K (Tp H) a xs ∧ DpAll K (Tp H) xs (es.map evD) := by cases hv with | tup h1 h2 => exact ⟨_, _, rfl, h1, h2⟩
    have htl := dps_len ht2
    rw [List.length_map] at htl
    obtain ⟨sv, lv, D, D2, D3⟩ := id Dk
    have hlv : lv.length ≤ 100 := by
      have := congrArg List.length D3.1
      rw [List.length_map, List.length_map] at this
      omega
    refine ⟨_, rfl, _, rfl, ta, txs, rfl, .inr (same_seqT tp_le ht1), _, _, rfl, by omega, by omega, ?_⟩
    refine ⟨_, rfl, d, _, sv, lv, rfl, D, by omega, by omega, fun x H1 s1 hx D1 => ?_⟩
    have Dk1 : DkAt K CD H1 x ds0 ls0 := ⟨sv, lv, D1, dps_same (tp_same s1) _ _ D2, D3.same (tp_same s1)⟩
    have hx1 : ∃ o, H1 x = some o := by
      obtain ⟨dx, a, b, ts, e1, _⟩ := D1
      exact ⟨_, e1⟩
    refine ⟨_, rfl, _, rfl, ?_⟩
    (try dsimp -proj only [tNoPart])
    refine ⟨_, rfl, ?_⟩
    refine slA_use (K := K) (a := ta) (lo := none) (hi := some (q : Int)) (same_seqT (tp_le.trans s1) ht1) fun p H2 s2 h2' => ?_
    rw [cut_to] at h2'
    have h2t := sqt_tp h2'
    have Dk2 := Dk1.fr (xs := []) (.of s2) (by simp)
    have ht22 : DpAll K (Tp H2) (txs.take q) ((es.take q).map evD) := by
      rw [List.map_take]
      exact dps_same (tp_same (s1.trans s2)) _ _ (dps_take q ht2)
    refine ⟨p, rfl, ⟨_, h2'⟩, for_tup (K := K) (a := p) (xs := txs.take q) (fun i σ H' => ∃ y4, σ = [some (.ref d), some (.ref ta), some (.int (q : Nat)), some (.ref x), y4] ∧ Fr [x] H2 H' ∧ DkAt K CD H' x (rep ds0 ls0 (es.take i)).1 (rep ds0 ls0 (es.take i)).2)
      ⟨none, rfl, .of (Same.refl _), Dk2⟩ (fun i σ H' _ z => by obtain ⟨_, _, z, _⟩ := z; exact same_seqT (z.tp.trans tp_le) h2t) ?_ ?_⟩
    · rintro i u σ H' hi ⟨y4, rfl, fr, Dk3⟩
      have hil : i < q := by
        have := (List.getElem?_eq_some_iff.mp hi).1
        rw [List.length_take] at this
        omega
      obtain ⟨e, he1, he2⟩ := dps_get ht22 hi
      rw [List.getElem?_map, List.getElem?_take, if_pos hil] at he1
      cases hev : es[i]? with
      | none => rw [hev] at he1; cases he1
      | some ev =>
      rw [hev] at he1
      have hee : evD ev = e := Option.some.inj he1
      subst hee
      have hu := dp_same fr.tp _ _ he2
      have hmore := rep_more ds0 ls0 es i ev hev
      obtain ⟨sv3, lv3, D3', D32, D33⟩ := id Dk3
      have hrl : (rep ds0 ls0 (es.take i)).1.length = ds0.length := rep_len _ _ _
      rw [hrl] at D3'
      have hll : lv3.length ≤ 900 := by
        have h1 := congrArg List.length D33.1
        rw [List.length_map, List.length_map] at h1
        have h3 := rep_loose (es.take i) ds0 ls0 ls0.length 0 (by omega)
        rw [List.length_take] at h3
        omega
      cases ev with
      | b =>
        obtain ⟨ua, rfl, hua⟩ : ∃ a, u = .ref a ∧ SqT K (Tp H') a [.str "barrier"] := by
          have hu' : Dp K (Tp H') u (.tuple [.str "barrier"]) := hu
          cases hu' with | tup h1 h2 => cases h2 with | cons g1 g2 => cases g2; cases g1; exact ⟨_, rfl, h1⟩
        have hua' := same_seqT tp_le hua
        refine ⟨_, rfl, ua, _, 0, .str "barrier", rfl, rfl, hua', atI_nat (j := 0) rfl, ?_⟩
        refine ⟨rfl, _, rfl, ?_⟩
        rw [decide_eq_true (show V.str "barrier" = V.str "barrier" from rfl)]
        obtain ⟨dx3, pa3, pb3, ts3, x31, _⟩ := id D3'
        refine iteT ⟨_, rfl, x, dx3, _, rfl, x31, fl_no _ _ _ (by decide +kernel) (by decide +kernel) (by decide +kernel), x, _, sv3, lv3, rfl, D3', ?_, by omega, fun H4 f4 D4 => ?_⟩
        · intro z hz
          have h1 : z.1 ∈ lv3.map (·.1) := List.mem_map.mpr ⟨z, hz, rfl⟩
          rw [D33.1] at h1
          obtain ⟨z', hz1, hz2⟩ := List.mem_map.mp h1
          rw [← hz2]
          exact rep_inL hin hl0 (i := i) z' hz1
        · refine ⟨_, rfl, fr.trans f4, ?_⟩
          rw [hmore]
          show DkAt K CD H4 x (settleD (rep ds0 ls0 (es.take i)).1 (rep ds0 ls0 (es.take i)).2) []
          refine ⟨settleV sv3 lv3, [], ?_, dps_same f4.tp _ _ (settle_dp D33 D32), rfl, .nil⟩
          rw [settleD_len, hrl]
          exact D4
      | w p0 e0 =>
        obtain ⟨ua, uv, rfl, hua, huv⟩ : ∃ a uv, u = .ref a ∧ SqT K (Tp H') a [.str "write", .int p0, uv] ∧ Dp K (Tp H') uv e0 := by
          have hu' : Dp K (Tp H') u (.tuple [.str "write", .int p0, e0]) := hu
          cases hu' with
          | tup h1 h2 =>
            cases h2 with
            | cons g1 g2 =>
              cases g1
              cases g2 with
              | cons g3 g4 =>
                cases g3
                cases g4 with
                | cons g5 g6 =>
                  cases g6
                  exact ⟨_, _, rfl, h1, g5⟩
        have hua' := same_seqT tp_le hua
        refine ⟨_, rfl, ua, _, 0, .str "write", rfl, rfl, hua', atI_nat (j := 0) rfl, ?_⟩
        refine ⟨rfl, _, rfl, ?_⟩
        rw [decide_eq_false (show ¬ V.str "write" = V.str "barrier" from fun z => absurd (V.str.inj z) (by decide +kernel))]
        obtain ⟨dx3, pa3, pb3, ts3, x31, _⟩ := id D3'
        obtain ⟨hp0, hp1⟩ := hin p0 e0 (List.mem_of_getElem? hev)
        refine iteF ⟨_, rfl, x, dx3, _, rfl, x31, fl_no _ _ _ (by decide +kernel) (by decide +kernel) (by decide +kernel), _, rfl, ua, _, 1, .int p0, rfl, rfl, hua', atI_nat (j := 1) rfl, _, rfl, ua, _, 2, uv, rfl, rfl, hua', atI_nat (j := 2) rfl, x, _, p0, uv, sv3, lv3, rfl, D3', hp0, hp1, by omega, fun H4 b4 D4 => ?_⟩
        have f4 : Fr [x] H' H4 := .but b4 (fun c hc u z => by rw [List.mem_singleton.mp hc] at z; exact D3'.obj u z)
        refine ⟨_, rfl, fr.trans f4, ?_⟩
        rw [hmore]
        show DkAt K CD H4 x (rep ds0 ls0 (es.take i)).1 ((rep ds0 ls0 (es.take i)).2 ++ [(p0, e0)])
        have D33' := D33.same f4.tp
        refine ⟨sv3, lv3 ++ [(p0, uv)], by rw [hrl]; exact D4, dps_same f4.tp _ _ D32, by rw [List.map_append, List.map_append, D33'.1]; rfl, ?_⟩
        rw [List.map_append, List.map_append]
        exact dps_app D33'.2 (.cons (dp_same f4.tp _ _ huv) .nil)
    · rintro σ H' ⟨y4, rfl, fr, Dk3⟩
      have hl : (txs.take q).length = q := by rw [List.length_take]; omega
      rw [hl] at Dk3
      have hxH : H x = none := hx
      refine ⟨_, rfl, k x H' (fun b o z => fr.at ((s1.trans s2) _ _ z) (by simp [ne_of_none z hxH])) hxH Dk3⟩
end
end Pf

set_option Elab.async false
set_option linter.all false
set_option maxRecDepth 100000
set_option maxHeartbeats 4000000
namespace Pf
open PySem PySem.Spec PyProof.Rows L2
/-! ### values of plates -/
theorem shaped_tup {ds : List PyData} (h1 : PyData.canLayAll0 ds = true) (h2 : PyData.depthAll ds ≤ 60) : SeqAt.shaped (.tuple ds) = true := by
  have h3 : PyData.depth (.tuple ds) ≤ 64 := by
    simp only [PyData.depth]
    omega
  show (PyData.canLay0 (.tuple ds) && decide (PyData.depth (.tuple ds) ≤ 64)) = true
  rw [Bool.and_eq_true]
  exact ⟨by simp only [PyData.canLay0]; exact h1, decide_eq_true h3⟩
theorem eqv_int (a b : Int) : PyData.eqv (.int a) (.int b) = decide (a = b) := by
  simp [PyData.eqv]
  rfl
theorem eqvAll_ints : ∀ ns ms : List Int, PyData.eqvAll (ns.map PyData.int) (ms.map PyData.int) = decide (ns = ms)
  | [], [] => by simp [PyData.eqvAll]
  | [], m :: ms => by simp [PyData.eqvAll]
  | n :: ns, [] => by simp [PyData.eqvAll]
  | n :: ns, m :: ms => by
    simp only [List.map_cons, PyData.eqvAll, eqvAll_ints ns ms, eqv_int]
    by_cases h : n = m <;> by_cases h2 : ns = ms <;> simp [h, h2]
theorem eqv_ints (ns ms : List Int) : PyData.eqv (.tuple (ns.map PyData.int)) (.tuple (ms.map PyData.int)) = decide (ns = ms) := by
  rw [← eqvAll_ints]
  simp [PyData.eqv]
theorem lay_all : ∀ {l : List PyData}, (∀ d ∈ l, d.canLay0 = true) → PyData.canLayAll0 l = true
  | [], _ => by simp [PyData.canLayAll0]
  | d :: l, h => by simp [PyData.canLayAll0, h d List.mem_cons_self, lay_all fun e m => h e (List.mem_cons_of_mem _ m)]
theorem dep_all {n : Nat} : ∀ {l : List PyData}, (∀ d ∈ l, d.depth ≤ n) → PyData.depthAll l ≤ n
  | [], _ => by simp [PyData.depthAll]
  | d :: l, h => by
    have h1 := h d List.mem_cons_self
    have h2 := dep_all (n := n) fun e m => h e (List.mem_cons_of_mem _ m)
    simp only [PyData.depthAll]
    omega
def OkD (d : PyData) : Prop := d.canLay0 = true ∧ d.depth ≤ 8
theorem shl_of {l : List PyData} (h : ∀ d ∈ l, OkD d) : SeqAt.shaped (.list l) = true := shaped_list (lay_all fun d m => (h d m).1) (by have := dep_all (n := 8) fun d m => (h d m).2; omega)
theorem sht_of {l : List PyData} (h : ∀ d ∈ l, OkD d) : SeqAt.shaped (.tuple l) = true := shaped_tup (lay_all fun d m => (h d m).1) (by have := dep_all (n := 8) fun d m => (h d m).2; omega)
theorem eqv_list {l : List PyData} (h : ∀ d ∈ l, OkD d) : PyData.eqv (.list l) (.list l) = true := SeqAt.eqv_refl _ (by simp only [PyData.canLay0]; exact lay_all fun d m => (h d m).1)
theorem eqv_tup {l : List PyData} (h : ∀ d ∈ l, OkD d) : PyData.eqv (.tuple l) (.tuple l) = true := SeqAt.eqv_refl _ (by simp only [PyData.canLay0]; exact lay_all fun d m => (h d m).1)
abbrev Vl := Option (List Int)
def vD : Vl → PyData
  | none => .none
  | some l => .tuple (l.map .int)
theorem ok_v (x : Vl) : OkD (vD x) := by
  cases x with
  | none => exact ⟨by simp [vD, PyData.canLay0], by simp [vD, PyData.depth]⟩
  | some l => exact ⟨by simp [vD, PyData.canLay0, lay_ints], by simp only [vD, PyData.depth, dep_ints]; omega⟩
theorem ok_map {α : Type} {f : α → PyData} (h : ∀ x, OkD (f x)) (l : List α) : ∀ d ∈ l.map f, OkD d := fun d hd => by
  obtain ⟨x, _, rfl⟩ := List.mem_map.mp hd
  exact h x
theorem eqv_v (x y : Vl) : PyData.eqv (vD x) (vD y) = decide (x = y) := by
  cases x with
  | none => cases y with
    | none => simp [vD, PyData.eqv]
    | some k => simp [vD, PyData.eqv]
  | some l => cases y with
    | none => simp [vD, PyData.eqv]
    | some k =>
      show PyData.eqv (.tuple (l.map .int)) (.tuple (k.map .int)) = _
      rw [eqv_ints]
      by_cases c : l = k <;> simp [c]
theorem any_v (x : Vl) : ∀ l : List Vl, ((l.map vD).any fun z => PyData.eqv z (vD x)) = decide (x ∈ l)
  | [] => by simp
  | y :: l => by
    rw [List.map_cons, List.any_cons, any_v x l, eqv_v]
    by_cases c : y = x
    · subst c; simp
    · have c' : ¬ x = y := fun z => c z.symm
      by_cases c2 : x ∈ l <;> simp [c, c', c2]
/-- a list of told data -/
def LsT (K : PySem.W.Frag) (H : Hp) (L : Addr) (ds : List PyData) : Prop := ∃ us, H L = some (.lst us) ∧ DpAll K (Tp H) us ds
theorem LsT.same {K : PySem.W.Frag} {H H' : Hp} {L : Addr} {ds : List PyData} (A : LsT K H L ds) (z : Same H H') : LsT K H' L ds := let ⟨us, e, d⟩ := A; ⟨us, z _ _ e, dps_same (tp_same z) _ _ d⟩
theorem LsT.fr {K : PySem.W.Frag} {H H' : Hp} {cs : List Addr} {L : Addr} {ds : List PyData} (A : LsT K H L ds) (z : Fr cs H H') (n : L ∉ cs) : LsT K H' L ds := let ⟨us, e, d⟩ := A; ⟨us, z.at e n, dps_same z.tp _ _ d⟩
theorem LsT.push {K : PySem.W.Frag} {H : Hp} {L : Addr} {us : List V} {ds : List PyData} {v : V} {d : PyData} (e : H L = some (.lst us)) (h : DpAll K (Tp H) us ds) (hv : Dp K (Tp H) v d) : LsT K (upd H L (.lst (us ++ [v]))) L (ds ++ [d]) := by
  have f : Fr [L] H (upd H L (.lst (us ++ [v]))) := .put (by simp) fun o z => by rw [e] at z; cases z; rfl
  exact ⟨_, upd_same, dps_app (dps_same f.tp _ _ h) (.cons (dp_same f.tp _ _ hv) .nil)⟩
/-- what is told once -/
def unl {α : Type} [DecidableEq α] (l : List α) : List α := l.foldl (fun s x => if x ∈ s then s else s ++ [x]) []
theorem unl_more {α : Type} [DecidableEq α] {l : List α} {i : Nat} {x : α} (h : l[i]? = some x) : unl (l.take (i + 1)) = if x ∈ unl (l.take i) then unl (l.take i) else unl (l.take i) ++ [x] := by
  unfold unl
  rw [List.take_succ, h, Option.toList_some, List.foldl_append]
  rfl
theorem unl_go {α : Type} [DecidableEq α] : ∀ (l s : List α), s.Nodup → (l.foldl (fun s x => if x ∈ s then s else s ++ [x]) s).Nodup ∧ (∀ x, x ∈ l.foldl (fun s x => if x ∈ s then s else s ++ [x]) s ↔ x ∈ s ∨ x ∈ l) ∧ (l.foldl (fun s x => if x ∈ s then s else s ++ [x]) s).length ≤ s.length + l.length
  | [], s, h => ⟨h, fun x => by simp, by simp⟩
  | y :: l, s, h => by
    rw [List.foldl_cons]
    by_cases c : y ∈ s
    · rw [if_pos c]
      obtain ⟨g1, g2, g3⟩ := unl_go l s h
      refine ⟨g1, fun x => ?_, by rw [List.length_cons]; omega⟩
      rw [g2, List.mem_cons]
      constructor
      · rintro (a | a)
        · exact .inl a
        · exact .inr (.inr a)
      · rintro (a | a | a)
        · exact .inl a
        · rw [a]; exact .inl c
        · exact .inr a
    · rw [if_neg c]
      have hn : (s ++ [y]).Nodup := List.nodup_append.mpr ⟨h, List.pairwise_singleton _ _, fun a ha b hb e => by rw [List.mem_singleton.mp hb] at e; rw [e] at ha; exact c ha⟩
      obtain ⟨g1, g2, g3⟩ := unl_go l (s ++ [y]) hn
      refine ⟨g1, fun x => ?_, by rw [List.length_append, List.length_singleton] at g3; rw [List.length_cons]; omega⟩
      rw [g2, List.mem_append, List.mem_singleton, List.mem_cons]
      constructor
      · rintro ((a | a) | a)
        · exact .inl a
        · exact .inr (.inl a)
        · exact .inr (.inr a)
      · rintro (a | a | a)
        · exact .inl (.inl a)
        · exact .inl (.inr a)
        · exact .inr a
theorem unl_nd {α : Type} [DecidableEq α] (l : List α) : (unl l).Nodup := (unl_go l [] .nil).1
theorem unl_mem {α : Type} [DecidableEq α] {l : List α} {x : α} : x ∈ unl l ↔ x ∈ l := by
  have := (unl_go l [] .nil).2.1 x
  unfold unl
  rw [this]
  simp
theorem unl_len {α : Type} [DecidableEq α] (l : List α) : (unl l).length ≤ l.length := by
  have := (unl_go l [] .nil).2.2
  unfold unl
  simpa using this
theorem scCu : FnScope ["values", "unlike", "value"] ["values"] (defScope sCu) := ⟨rfl, rfl, rfl, by decide +kernel, rfl, by decide +kernel, by decide +kernel⟩
section
variable {P : Program} {w : World} {K : PySem.W.Frag} {mg : Str → Option Value} {base : Heap} {C : Addr}
def spCu (K : PySem.W.Frag) : Sp := fun vs H Q _ => ∃ (a : Addr) (xs : List V) (l : List Vl), vs = [.ref a] ∧ SqT K (Tp H) a xs ∧ DpAll K (Tp H) xs (l.map vD) ∧ l.length ≤ 1000 ∧ ∀ H', Same H H' → Q (.int (((unl l).length : Nat) : Int)) H'
theorem ok_cu {f : Addr} {fd : FuncData} (F : Fun K "count_unlike" "count_unlike" sCu f fd) (mln : mg "len" = none) : FnOk P w K mg base CX0 1 f fd ["values"] (spCu K) := by
  refine F.ok scCu (fun vs H Q E h => ?_) (fun cdv A outer s H vs Q E hr h => ?_)
  · obtain ⟨a, xs, l, rfl, _⟩ := h
    rfl
  · obtain ⟨a, xs, l, rfl, hT, dx, hl, k⟩ := h
    have nd := scCu.nd
    have h65 : (A.deeper (envOfC "count_unlike" (defScope sCu) s.heap.objs.size f cdv)).units + 65 < cLine := by have := hr.un; omega
    refine ⟨_, (pss_cons (ps_set (i := 1) nd rfl (.inl rfl) (pe_lst pa_nil)) (pss_cons (ps_for PassesOwn.never rfl (pi_tup (pv 0)) (pg_name (i := 2) nd rfl (.inl rfl)) (pss_one (ps_if (pt_cmpR (op_notInD h65) (pv 2) (pv 1) (by rfl)) (pss_one (ps_expr (pe_bm PySem.F.plainAttrs_list PySem.F.slot_list_append PySem.F.type_list_append mt_append (pv 1) (pa_cons (pv 2) pa_nil)))) pss_nil))) (pss_one (ps_ret (pe_callB call_len_seq (by rfl) mln boot_len (pa_cons (pv 1) pa_nil)))))), ?_⟩
    have hxl := dps_len dx
    rw [List.length_map] at hxl
    refine ⟨Nat.zero_le _, fun U hU => ?_⟩
    have s1 := same_upd (o := .lst []) hU
    have U1 : LsT K (upd H U (.lst [])) U ((unl (l.take 0)).map vD) := ⟨[], upd_same, .nil⟩
    generalize upd H U (.lst []) = H1 at s1 U1 ⊢
    have hT1 := same_seqT (tp_same s1) hT
    have dx1 := dps_same (tp_same s1) _ _ dx
    refine ⟨_, rfl, a, rfl, ⟨xs, same_seqT tp_le hT1⟩, for_tup (K := K) (a := a) (xs := xs) (fun i σ H' => ∃ y2, σ = [some (.ref a), some (.ref U), y2] ∧ Same H H' ∧ Fr [U] H1 H' ∧ LsT K H' U ((unl (l.take i)).map vD)) ⟨none, rfl, s1, .of (Same.refl _), U1⟩ (fun i σ H' _ z => by obtain ⟨_, _, _, f, _⟩ := z; exact same_seqT (f.tp.trans tp_le) hT1) ?_ ?_⟩
    · rintro i x σ H2 hi ⟨y2, rfl, s2, f2, L2⟩
      obtain ⟨d, hd, dp⟩ := dps_get (dps_same f2.tp _ _ dx1) hi
      rw [List.getElem?_map] at hd
      obtain ⟨y, hy, rfl⟩ := Option.map_eq_some_iff.mp hd
      have hil := (List.getElem?_eq_some_iff.mp hy).1
      obtain ⟨us, eU, dU⟩ := id L2
      have hul := dps_len dU
      rw [List.length_map] at hul
      have hu2 := unl_len (l.take i)
      rw [List.length_take] at hu2
      refine ⟨_, rfl, _, rfl, vD y, (unl (l.take i)).map vD, dp_same tp_le _ _ dp, .lst (SqL.of eU) (dps_same tp_le _ _ dU), ?_, shl_of (ok_map ok_v _), _, rfl, ?_⟩
      · have h1 := (ok_v y).1
        have h2 := (ok_v y).2
        show (PyData.canLay0 (vD y) && decide (PyData.depth (vD y) ≤ 64)) = true
        rw [h1, decide_eq_true (by omega)]
        rfl
      rw [any_v]
      by_cases c : y ∈ unl (l.take i)
      · rw [decide_eq_true c]
        refine iteF ⟨_, rfl, s2, f2, ?_⟩
        rw [unl_more hy, if_pos c]
        exact L2
      · rw [decide_eq_false c]
        refine iteT ⟨_, rfl, .inl ⟨rfl, _, SqL.of eU⟩, _, rfl, U, us, x, rfl, rfl, eU, by rw [sizeLine_eq]; omega, ?_⟩
        refine ⟨_, rfl, fun b o e => by rw [upd_ne (ne_of_none e hU)]; exact s2 _ _ e, f2.trans (.put (by simp) fun o z => by rw [eU] at z; cases z; rfl), ?_⟩
        rw [unl_more hy, if_neg c, List.map_append]
        exact LsT.push eU dU dp
    · rintro σ H2 ⟨y2, rfl, s2, f2, L2⟩
      rw [hxl, List.take_length] at L2
      obtain ⟨us, eU, dU⟩ := L2
      have hul := dps_len dU
      rw [List.length_map] at hul
      refine ⟨_, rfl, U, us, rfl, .inl (SqL.of eU), ?_⟩
      rw [hul]
      exact k _ s2
end
end Pf

set_option Elab.async false
set_option linter.all false
set_option maxRecDepth 100000
set_option maxHeartbeats 4000000
namespace Pf
open PySem PySem.Spec PyProof.Rows L2
/-! ### a disk whose plates hold such values -/
abbrev Lv := List (Int × Vl)
def lwD (ls : Lv) : Lw := ls.map fun q => (q.1, vD q.2)
def DkV (K : PySem.W.Frag) (C : Addr) (H : Hp) (d : Addr) (S : List Vl) (Ls : Lv) : Prop := DkAt K C H d (S.map vD) (lwD Ls)
theorem DkV.fr {K : PySem.W.Frag} {C : Addr} {H H' : Hp} {d : Addr} {S : List Vl} {Ls : Lv} {xs : List Addr} (A : DkV K C H d S Ls) (f : Fr xs H H') (n : d ∉ xs) : DkV K C H' d S Ls := DkAt.fr A f n
theorem DkV.same {K : PySem.W.Frag} {C : Addr} {H H' : Hp} {d : Addr} {S : List Vl} {Ls : Lv} (A : DkV K C H d S Ls) (z : Same H H') : DkV K C H' d S Ls := A.fr (xs := []) (.of z) (by simp)
def lateW (Ls : Lv) (p : Int) : List Vl := (Ls.filter fun q => decide (q.1 = p)).map (·.2)
def verW (S : List Vl) (Ls : Lv) (p : Int) : List Vl := if (lateW Ls p).length = 0 then [S.getD p.toNat none] else S.getD p.toNat none :: (lateW Ls p ++ [none])
theorem late_w (Ls : Lv) (p : Int) : lateD (lwD Ls) p = (lateW Ls p).map vD := by
  unfold lateD lateW lwD
  rw [List.filter_map, List.map_map, List.map_map]
  rfl
theorem getD_v (S : List Vl) (i : Nat) : (S.map vD).getD i .none = vD (S.getD i none) := by
  rw [List.getD_eq_getElem?_getD, List.getD_eq_getElem?_getD, List.getElem?_map]
  cases S[i]? <;> rfl
theorem ver_w (S : List Vl) (Ls : Lv) (p : Int) : versD (S.map vD) (lwD Ls) p = (verW S Ls p).map vD := by
  unfold versD verW
  rw [late_w, List.length_map, getD_v]
  by_cases c : (lateW Ls p).length = 0
  · rw [if_pos c, if_pos c]; rfl
  · rw [if_neg c, if_neg c, List.map_cons, List.map_append]; rfl
theorem lateW_len (Ls : Lv) (p : Int) : (lateW Ls p).length ≤ Ls.length := by
  unfold lateW
  rw [List.length_map]
  exact List.length_filter_le _ _
theorem verW_len (S : List Vl) (Ls : Lv) (p : Int) : (verW S Ls p).length ≤ Ls.length + 2 := by
  have := lateW_len Ls p
  unfold verW
  split
  · simp
  · simp; omega
def prodN (l : List Nat) : Nat := l.foldr (· * ·) 1
theorem prodN_app (l k : List Nat) : prodN (l ++ k) = prodN l * prodN k := by
  induction l with
  | nil => show prodN k = 1 * prodN k; rw [Nat.one_mul]
  | cons x l ih => show x * prodN (l ++ k) = x * prodN l * prodN k; rw [ih, Nat.mul_assoc]
theorem prodN_le (b : Nat) : ∀ l : List Nat, (∀ x ∈ l, x ≤ b) → prodN l ≤ b ^ l.length
  | [], _ => Nat.le_refl _
  | x :: l, h => by
    show x * prodN l ≤ b ^ (l.length + 1)
    rw [Nat.pow_succ, Nat.mul_comm]
    exact Nat.mul_le_mul (prodN_le b l fun y hy => h y (List.mem_cons_of_mem _ hy)) (h x List.mem_cons_self)
/-- how many falls a disk of n plates has -/
def fallsN (S : List Vl) (Ls : Lv) (n : Nat) : Nat := prodN ((List.range n).map fun i => (unl (verW S Ls ((i : Nat) : Int))).length)
theorem fallsN_more (S : List Vl) (Ls : Lv) (n : Nat) : fallsN S Ls (n + 1) = fallsN S Ls n * (unl (verW S Ls ((n : Nat) : Int))).length := by
  unfold fallsN
  rw [List.range_succ, List.map_append, prodN_app]
  show _ * (_ * 1) = _
  rw [Nat.mul_one]
theorem fallsN_le {S : List Vl} {Ls : Lv} {n : Nat} (h : Ls.length ≤ 5) (hn : n ≤ 3) : fallsN S Ls n ≤ 343 := by
  have h1 := prodN_le 7 ((List.range n).map fun i => (unl (verW S Ls ((i : Nat) : Int))).length) fun x hx => by
    obtain ⟨i, _, rfl⟩ := List.mem_map.mp hx
    have h2 := unl_len (verW S Ls ((i : Nat) : Int))
    have h3 := verW_len S Ls ((i : Nat) : Int)
    omega
  rw [List.length_map, List.length_range] at h1
  refine Nat.le_trans h1 (Nat.le_trans (Nat.pow_le_pow_right (by decide) hn) (by decide))
theorem scCf : FnScope ["self", "product", "plate"] ["self"] (defScope sCount) := ⟨rfl, rfl, rfl, by decide +kernel, rfl, by decide +kernel, by decide +kernel⟩
section
variable {P : Program} {w : World} {K : PySem.W.Frag} {mg : Str → Option Value} {base : Heap} {C : Addr}
def spCf (K : PySem.W.Frag) (C : Addr) : Sp := fun vs H Q _ => ∃ (d : Addr) (S : List Vl) (Ls : Lv), vs = [.ref d] ∧ DkV K C H d S Ls ∧ S.length ≤ 3 ∧ Ls.length ≤ 5 ∧ ∀ H', Same H H' → Q (.int ((fallsN S Ls S.length : Nat) : Int)) H'
theorem ok_cf {f fU fV : Addr} {fd dU dV : FuncData} (F : Fun K "count_falls" "Disk.count_falls" sCount f fd) (T : DTxt K C) (DU : Df P w K mg base CX0 1 "count_unlike" ["values"] (spCu K) fU dU) (MV : Me P w K mg base 3 C "versions" ["self", "plate"] (spVers C) fV dV) (mr : mg "range" = none) : FnOk P w K mg base CX0 4 f fd ["self"] (spCf K C) := by
  refine F.ok scCf (fun vs H Q E h => ?_) (fun cdv A outer s H vs Q E hr h => ?_)
  · obtain ⟨d, S, Ls, rfl, _⟩ := h
    rfl
  · obtain ⟨d, S, Ls, rfl, Dk, hS, hL, k⟩ := h
    have nd := scCf.nd
    have h1 : Room 1 _ := hr.mono (by decide)
    refine ⟨_, (pss_cons (ps_set (i := 1) nd rfl (.inl rfl) pe_int) (pss_cons (ps_for PassesOwn.never rfl (pi_range1 (by rfl) mr (pa_cons (pe_fld (pv 0) rfl) pa_nil)) (pg_name (i := 2) nd rfl (.inl rfl)) (pss_one (ps_set (i := 1) nd rfl (.inl rfl) (pe_op op_mul (pv 1) (pe_call DU.G h1 rfl DU.g DU.kp DU.b .nil pass0 (pa_cons (pe_meth (pv 0) T.cl MV.m MV.G hr MV.b .nil pass0 (pa_cons (pv 2) pa_nil)) pa_nil)))))) (pss_one (ps_ret (pv 1))))), ?_⟩
    obtain ⟨sv, lv, D, D2, D3⟩ := id Dk
    rw [List.length_map] at D
    obtain ⟨dx, sA, lA, ts, e1, _⟩ := id D
    have hlv : lv.length = Ls.length := by
      have := congrArg List.length D3.1
      unfold lwD at this
      simpa using this
    refine ⟨_, rfl, d, C, dx, _, _, rfl, e1, T.cl, T.nM, fl_many _ _ _, _, rfl, by omega, by omega, ?_⟩
    rw [Int.toNat_natCast]
    refine for_range (lo := 0) (n := S.length) (fun i σ H' => ∃ y2, σ = [some (.ref d), some (.int ((fallsN S Ls i : Nat) : Int)), y2] ∧ Same H H') ⟨none, rfl, Same.refl _⟩ ?_ ?_
    · rintro i σ H1 hi ⟨y2, rfl, s1⟩
      refine ⟨_, rfl, _, rfl, d, dx, _, rfl, s1 _ _ e1, fl_no _ _ _ (by decide +kernel) (by decide +kernel) (by decide +kernel), _, rfl, d, _, _, sv, lv, rfl, D.same s1, by omega, by omega, by omega, fun t H2 s2 ht et => ?_⟩
      have s12 := s1.trans s2
      have hv := vers_dp (p := 0 + ((i : Nat) : Int)) (D3.same (tp_same s12)) (dps_same (tp_same s12) _ _ D2) (by omega) (by rw [List.length_map]; omega)
      rw [ver_w] at hv
      have hvl := verW_len S Ls (0 + ((i : Nat) : Int))
      refine ⟨t, _, verW S Ls (0 + ((i : Nat) : Int)), rfl, SqT.of (tp_at et rfl), hv, by omega, fun H3 s3 => ?_⟩
      have hul := unl_len (verW S Ls (0 + ((i : Nat) : Int)))
      refine ⟨_, _, rfl, rfl, .inr (by omega), some (.int (0 + ((i : Nat) : Int))), ?_, s12.trans s3⟩
      rw [fallsN_more, Int.zero_add]
      rfl
    · rintro σ H1 ⟨y2, rfl, s1⟩
      exact ⟨_, rfl, k H1 s1⟩
end
end Pf

set_option Elab.async false
set_option linter.all false
set_option maxRecDepth 100000
set_option maxHeartbeats 4000000
namespace L2
open PySem PySem.Spec PyProof.Rows
section
variable {X : Cx} {CX : CXT} {k : Nat} {f C : Addr} {fd : FuncData} {ps : List Str} {sp : Sp} {E : St → XK} {m : Str} {pos apos : Pos} {e o : Expr} {es : List Expr} {ta : TE} {t : TA}
/-- a method that may raise, the wish told by the slots -/
theorem pe_methX {pl : Sem Bool} (he : PE X o ta) (c : Cls X.K C) (hm : Meth X.K C m f) (F : FnOk X.prog X.w X.K X.mg X.base CX k f fd ps sp) (hr : Room k X.A) (hb : Binds X.K fd ps []) (hx : ∀ σ, PassesAt CX X σ (E σ)) (ha : PA X (e :: es) t)
    (hs : starEach (e :: es) X.env = (false, eval e X.env) :: starEach es X.env := by rfl) (hp : (backTo pos (starEach es X.env)).any (·.1) = false := by rfl)
    (ht : eval (.Call (.Attribute o m apos) (e :: es) [] pos) X.env = (do let ov ← eval o X.env; standAt apos.atName; let (f, first) ← holding [ov] (getMethod ov m pl); callWith pos f first (backTo pos (starEach (e :: es) X.env)) (backToKw pos (keywordEach [] X.env))) := by rfl) :
    PE X (.Call (.Attribute o m apos) (e :: es) [] pos) (L2H.tMethH C m sp E ta t) := ⟨fun pins s σ H Q I h => PySem.W.methodCall_KW (pl := pl) (thn (he.run pins s σ H _ I h) fun u s1 ⟨x, H1, I1, rx, a, dx, fs, ex, ea, l, q⟩ => by
      subst ex
      cases (show u = Value.ref a from rx)
      refine getmeth_ok I1 ea c hm l (PySem.W.callWith_K (first := [.ref a]) (h₀ := X.base) I.ok.mod.kin hm.kp (thn (ha.run pos pins s1 σ H1 _ I1 q) fun us s2 ⟨vs, H2, I2, r, q2⟩ => ⟨I2.kIn, ?_⟩) hs hp)
      exact run_fnS (us := .ref a :: us) (vs := .ref a :: vs) F hr hb (hx σ) I2 (.cons rfl r) q2) ht⟩
/-- a method without arguments, called while an error is handled -/
theorem pe_meth0H {pl : Sem Bool} (he : PE X o ta) (c : Cls X.K C) (hm : Meth X.K C m f) (F : L2H.FnH X.prog X.w X.K X.mg X.base CX k f fd ps sp) (hr : L2H.RoomH k X.A) (hc : L2H.HotC X) (hb : Binds X.K fd ps []) (hx : ∀ σ, PassesAt CX X σ (E σ))
    (ht : eval (.Call (.Attribute o m apos) [] [] pos) X.env = (do let ov ← eval o X.env; standAt apos.atName; let (f, first) ← holding [ov] (getMethod ov m pl); callWith pos f first (backTo pos (starEach [] X.env)) (backToKw pos (keywordEach [] X.env))) := by rfl) :
    PE X (.Call (.Attribute o m apos) [] [] pos) (L2H.tMethH C m sp E ta tNil) := ⟨fun pins s σ H Q I h => PySem.W.methodCall_KW (pl := pl) (thn (he.run pins s σ H _ I h) fun u s1 ⟨x, H1, I1, rx, a, dx, fs, ex, ea, l, q⟩ => by
      subst ex
      cases (show u = Value.ref a from rx)
      refine getmeth_ok I1 ea c hm l (PySem.W.callWith_K0 (first := [.ref a]) I1.kIn hm.kp ?_)
      exact L2H.run_fnH (us := [.ref a]) (vs := [.ref a]) F hr hc hb (hx σ) I1 (.cons rfl .nil) q) ht⟩
end
section
variable {P : Program} {w : World} {K : PySem.W.Frag} {mg : Str → Option Value} {base : Heap}
/-- a def whose error has no other one behind it -/
theorem Fun.okN {x qual : Str} {st : Stmt} {f : Addr} {fd : FuncData} {N ps : List Str} {k : Nat} {sp : Sp} (F : Fun K x qual st f fd) (S : FnScope N ps (defScope st)) (len : ∀ vs H Q E, sp vs H Q E → vs.length = ps.length)
    (body : ∀ (cdv : Value) (A : Around) (outer : List Env) (s : Shared) (H : Hp) (vs : List V) (Q : VK) (E : XK), Room k (A.deeper (envOfC qual (defScope st) s.heap.objs.size f cdv)) → sp vs H Q E →
      ∃ t, PSs (cxOf (L2N.CX P w) P w K mg base N qual (defScope st) f cdv A outer s H E) (defBody st) t ∧ t { nx := fun _ H' => Q .non H', rt := Q } (start N vs) H) : FnOk P w K mg base (L2N.CX P w) (k + 1) f fd ps sp := by
  obtain ⟨_, _, _, _, _, _, cdv, _, _, rfl, lk, hcd⟩ := F.ex
  exact fn_of lk hcd S len (body cdv)
/-- a def called while an error is handled -/
theorem Fun.okH {x qual : Str} {st : Stmt} {f : Addr} {fd : FuncData} {N ps : List Str} {k : Nat} {sp : Sp} (F : Fun K x qual st f fd) (S : FnScope N ps (defScope st)) (len : ∀ vs H Q E, sp vs H Q E → vs.length = ps.length)
    (body : ∀ (cdv : Value) (A : Around) (outer : List Env) (s : Shared) (H : Hp) (vs : List V) (Q : VK) (E : XK) (p : Addr × Obj), L2H.Hot1 A p → L2H.RoomH k (A.deeper (envOfC qual (defScope st) s.heap.objs.size f cdv)) → sp vs H Q E →
      ∃ t, PSs (L2H.cxH CX0 P w K mg base N qual (defScope st) f cdv A outer s H E p) (defBody st) t ∧ t { nx := fun _ H' => Q .non H', rt := Q } (start N vs) H) : L2H.FnH P w K mg base CX0 (k + 1) f fd ps sp := by
  obtain ⟨_, _, _, _, _, _, cdv, _, _, rfl, lk, hcd⟩ := F.ex
  exact L2H.fn_ofH lk hcd S len (body cdv)
theorem passLN {X : Cx} : Passes (L2N.CX X.prog X.w) X E0 := fun _ _ _ _ _ _ _ h => by
  obtain ⟨_, _, _, _, _, _, _, _, _, _, _, _, z⟩ := h; exact z.elim
theorem pass0H {X : Cx} {E : St → XK} : ∀ σ, PassesAt CX0 X σ (E σ) := fun _ _ _ _ _ _ _ h => h.elim
theorem takesN {X : Cx} : L2N.Takes X (fun _ _ _ _ => False) := fun _ _ x => by
  obtain ⟨_, _, _, _, _, _, _, _, _, _, _, _, _, _, _, _, _, z⟩ := x
end
end L2

set_option Elab.async false
set_option linter.all false
set_option maxRecDepth 100000
set_option maxHeartbeats 4000000
/-! # an error class of the program two steps beneath Exception, whose __init__ keeps one word: self.word = word -/
namespace PySem
namespace BpX
open PySem.W PySem.Calls PyProof.Rows PySem.HandSPX Builtin Builtin.ObjectAttr
abbrev tail2 (S : Addr) : List Value := .ref S :: ESX.exTail
def argsI (p1 p2 : Pos) : Arguments := ⟨[], [⟨"self", none, p1⟩, ⟨"plate", none, p2⟩], none, [], [], none, []⟩
def bodyI (q1 q2 q3 q4 : Pos) : List Stmt := [.Assign [.Attribute (.Name "self" q1) "plate" q2] (.Name "plate" q3) q4]
def scopeI : Scope := ⟨.function, [(PySem.Str.ofString "self", .local), (PySem.Str.ofString "plate", .local)], false, false, []⟩
/-- all that is written of the class at C, of StoreError at S, and of the class's __init__ at fI -/
structure Txt (K : Frag) (C S fI : Addr) : Prop where
  cls : ∃ nm q N bs sn sub ab col dd k0 k1 k2 k3 k5, K.lookup C = some (excClassObj nm q C N bs (tail2 S) true sn sub ab col dd k0 k1 k2 k3 k5 "Exception.__new__")
  sa : findIn K (.ref C) "__setattr__" = some (some (.builtin "object.__setattr__"))
  noW : findIn K (.ref C) "plate" = some none
  iC : findIn K (.ref C) "__init__" = some (some (.ref fI))
  tI : typeIn K (.ref fI) = some (.type "function")
  kC : keepIn K (.ref C) = true
  exC : subIn K (.ref C) (.type "BaseException") = some true
  tyC : typeIn K (.ref C) = some (.type "type")
  fn : ∃ oc od doc pm an cdv ct osl p1 p2 q1 q2 q3 q4, K.lookup fI = some ⟨oc, od, .func (fnOf "__init__" "BadPlate.__init__" (argsI p1 p2) (bodyI q1 q2 q3 q4) scopeI .none .none doc pm an cdv ct), osl⟩ ∧ codeIn K cdv "BadPlate.__init__" = true
theorem tail2_has (S : Addr) (T : String) : (tail2 S).contains (.type T) = ESX.exTail.contains (.type T) := by
  show (Value.ref S :: ESX.exTail).contains (.type T) = _
  rw [List.contains_cons]; rfl
section
variable {prog : Program} {w : World} {A : Around} {R : Result → Shared → Prop}
/-- x.name = v, the first field of an error that is being made -/
theorem first_field {hp : Heap} {g : Array GenState} {dr : Drawn} {t : Nat} {os : OsState} {K : Frag} {nm : Str} {tk : Tok} {v : Value} {x C S : Addr} {fs : Array Value} {c : ClassData} (X : K.In hp) (hx : hp.get? x = some { cls := .ref C, data := .fields fs })
    (hc : clsIn K C = some c) (hm : c.mro = .ref C :: tail2 S) (hd : c.hasDict = true) (no : findIn K (.ref C) nm = some none)
    (end' : ∀ h' tk' dx, (∀ b o, b ≠ x → hp.get? b = some o → h'.get? b = some o) → hp.objs.size ≤ dx → dx ≠ x → h'.get? x = some { cls := .ref C, dict := some dx, data := .fields fs } → h'.Ns1 dx (fun y => if y = nm then some v else none) →
      R (.ok (.ret .none)) ⟨h', g, dr, tk', os⟩) :
    codeAny (model prog w) A (.call (.builtin "object.__setattr__") ⟨[.ref x, .str nm tk, v], []⟩) R ⟨hp, g, dr, t, os⟩ := by
  have inst : InstAt hp x { cls := .ref C, data := .fields fs } C none := ⟨hx, rfl, rfl, trivial⟩
  have out : x ≠ hp.objs.size := Nat.ne_of_lt (Heap.lt_size hx)
  have so := F.store_object
  have obj : mroIn K C (.type "object") = some true := by
    unfold mroIn; rw [hc, Option.bind_some, hm, if_neg (show ¬ (List.isEmpty (Value.ref C :: tail2 S) = true) from Bool.false_ne_true), List.contains_cons, tail2_has]; rfl
  have isO : Looks (model prog w) hp (isInstance (.ref x) (.type "object")) true := inst.type.andThen (looks_mroIn X obj)
  refine codeAny_call_builtin so.slot.plain so.entry (@W.check_slot (model prog w) _ _ ⟨hp, g, dr, t, os⟩ "object.__setattr__" "object" "__setattr__" (.ref x) [.str nm tk, v] [] _ so.kind so.split isO (so.args (.ref x) (.str nm tk) v) ?_)
  have row : Looks (model prog w) hp (mroOf (.ref C)) c.mro := (looks_clsIn X hc).andThen .now
  have free : Looks (model prog w) hp (storeTaker? none) none := .now
  have its : Looks (model prog w) hp (classData C) c := looks_clsIn X hc
  have pass : refuseLoop (.ref x) "__setattr__" c.mro = pure () := by rw [hm, refuseLoop_ref, refuseLoop_ref]; exact F.store_Exception.passes _
  rw [osa_eq, refuse_eq]
  refine wpAny_bind (wpAny_bind (inst.type.at (wpAny_bind (row.at ?_))))
  rw [pass]
  refine wpAny_pure (wpAny_bind (inst.type.at (wpAny_bind ((looks_findIn X no).at (wpAny_bind (free.at ?_))))))
  obtain ⟨a1, a2, a3, a4, a5, a6, a7, a8, a9, a10, a11⟩ := c
  dsimp only at hd
  subst hd
  show wpAny _ _ (storeInOwnDict (.ref x) (.ref C) (.str nm tk) nm v false) _ _ _
  unfold storeInOwnDict ownDictForStores
  repeat (first | with_reducible refine its.at ?_ | with_reducible refine store_in_new ?_ ?_ | with_reducible refine wpAny_loadPart_at hx ?_ | wp_step)
  · exact ⟨_, #[], _, (Heap.get?_update_ne _ _ _ _ out.symm).trans (Heap.get?_push_at rfl rfl), rfl, fun e he => absurd he (by simp), fun _ => rfl⟩
  · intro h' tk' ns kb
    have hx1 : (hp.push { cls := .type "dict", data := .dict #[] }).get? x = some { cls := .ref C, data := .fields fs } := Heap.get?_push_of_some _ hx
    exact end' h' tk' hp.objs.size (fun b o nb ho => (kb.2 b (Nat.ne_of_lt (Heap.lt_size ho))).trans ((Heap.get?_update_ne _ _ _ _ nb).trans (Heap.get?_push_of_some _ ho))) (Nat.le_refl _) out.symm ((kb.2 x out).trans (Heap.get?_update_self _ hx1 rfl)) ns
theorem load1 {M : Model} {B : Around} {Er : Value → Shared → Prop} {sh : Shared} {fn nam : Str} {sc : Scope} {loc fa : Addr} {cv val : Value} {m : Str → Option Value} {ps : Pos} {Q : Value → Shared → Prop} (n : sh.heap.Ns loc m) (e : m nam = some val) (q : Q val sh)
    (k1 : sc.kind = .function := by rfl) (k2 : (envOfC fn sc loc fa cv).kindOf nam = some .local := by rfl) (k3 : (nam == ("__debug__" : Str)) = false := by decide) : wpAny M B (eval (.Name nam ps) (envOfC fn sc loc fa cv)) Q Er sh := wpAny_Name (wpAny_loadName_local k1 k2 n e q) k3
/-- what BadPlate(v) leaves: the error at e, its own dict at d -/
structure Made (h h' : Heap) (e C d : Addr) (v : Value) : Prop where
  keep : ∀ b o, h.get? b = some o → h'.get? b = some o
  eNew : h.objs.size ≤ e
  obj : ∃ oe vs, h'.get? e = some oe ∧ oe.cls = .ref C ∧ oe.dict = some d ∧ oe.data = .fields vs ∧ vs[1]? = some .none ∧ vs[2]? = some .none
  dNew : h.objs.size ≤ d
  ne : d ≠ e
  ns : h'.Ns1 d (fun y => if y = "plate" then some v else none)
theorem run_init {s : Shared} {K : Frag} {C S fI : Addr} (T : Txt K C S fI) {x t0 : Addr} {v : Value} (X : K.In s.heap) (lim : s.heap.NoLimit) (hx : s.heap.get? x = some (excO C t0)) (room : A.depth < recursionLimit)
    (go : ∀ h' tk dx, (∀ b o, b ≠ x → s.heap.get? b = some o → h'.get? b = some o) → h'.get? x = some { cls := .ref C, dict := some dx, data := .fields #[.ref t0, .none, .none, .none, .bool false, .none] } → s.heap.objs.size ≤ dx → dx ≠ x → h'.Ns1 dx (fun y => if y = "plate" then some v else none) →
      R (.ok (.ret .none)) { s with heap := h', toks := tk }) :
    codeAny (model prog w) A (.call (.ref fI) ⟨[.ref x, v], []⟩) R s := by
  obtain ⟨oc, od, doc, pm, an, cdv, ct, osl, p1, p2, q1, q2, q3, q4, ho, hcd⟩ := T.fn
  obtain ⟨nm, q, N, bs, sn, sub, ab, col, dd, k0, k1, k2, k3, k5, hC⟩ := T.cls
  have hc : clsIn K C = some ⟨nm, bs, .ref C :: tail2 S, N, q, true, sn, sub, ab, col, false⟩ := by unfold clsIn; rw [hC] <;> rfl
  refine Att.call_fn (binds := [("self", .ref x), ("plate", v)]) X lim ho hcd room (BindsTo.of_eq (by first | rfl | with_unfolding_all rfl)) (by first | rfl | decide | with_unfolding_all rfl) (fun s1 IC => ?_) rfl rfl rfl
  obtain ⟨h1, tk1, rfl⟩ := IC.toInCall.same
  have kp := IC.toInCall.keep
  have ns := IC.toInCall.ns
  have hx1 := kp _ _ hx
  show wpAny _ _ (execs _ _) _ _ _
  refine wpAny_execs_cons (plainObj_wpAny_Assign_Attribute ?_)
  refine load1 (val := v) ns (by first | rfl | with_unfolding_all rfl | kernel_rfl) (load1 (val := .ref x) ns (by first | rfl | with_unfolding_all rfl | kernel_rfl) ?_)
  refine set_plain (X.keeps kp) (ox := excO C t0) (od := none) ⟨hx1, rfl, rfl, trivial⟩ T.sa ?_
  refine first_field (X.keeps kp) hx1 hc rfl rfl T.noW fun h3 tk3 dx k3 dn dne hx3 ns3 => ?_
  show wpAny _ _ (execs _ _) _ _ _
  exact wpAny_execs_nil (go h3 tk3 dx (fun b o nb e => k3 b o nb (kp b o e)) hx3 (Nat.le_of_lt (Nat.lt_of_lt_of_le ns.lt dn)) dne ns3)
theorem run_made {s : Shared} {K : Frag} {C S fI : Addr} (T : Txt K C S fI) {v : Value} (X : K.In s.heap) (lim : s.heap.NoLimit) (room : A.depth + 1 < recursionLimit)
    (go : ∀ h' tk e d, Made s.heap h' e C d v → R (.ok (.ret (.ref e))) { s with heap := h', toks := tk }) : codeAny (model prog w) A (.call (.ref C) ⟨[v], []⟩) R s := by
  obtain ⟨nm, q, N, bs, sn, sub, ab, col, dd, k0, k1, k2, k3, k5, hC⟩ := T.cls
  obtain ⟨hp, g, dr, tk, os⟩ := s
  have kp : ∀ b o, hp.get? b = some o → ((hp.push (kdv_tup [v])).push (excO C hp.objs.size)).get? b = some o := fun b o z => Heap.get?_push_of_some _ (Heap.get?_push_of_some _ z)
  have at' : ((hp.push (kdv_tup [v])).push (excO C hp.objs.size)).get? (hp.objs.size + 1) = some (excO C hp.objs.size) := by heap_get
  have one : [v].length ≤ sizeLine := by rw [sizeLine_eq]; exact (by decide : 1 ≤ 16777216)
  refine call_own F.excBase_Exception (tail2_has S) (X _ _ hC) (looks_findIn X T.iC) (fun self => bind_fn X self T.tI) one ?_
  refine run_init (s := ⟨(hp.push (kdv_tup [v])).push (excO C hp.objs.size), g, dr, tk, os⟩) T (X.keeps kp) (lim.keeps kp) at' ?_ fun h' tk' dx k' hx dn dne ns => ?_
  · show A.depth + 1 < recursionLimit
    exact room
  · have z : hp.objs.size + 1 + 1 ≤ dx := by
      first | exact dn | (simpa only [Heap.size_push] using dn)
    exact ⟨rfl, go h' tk' (hp.objs.size + 1) dx ⟨fun b o z => k' b o (Nat.ne_of_lt (Nat.lt_succ_of_lt (Heap.lt_size z))) (kp b o z), Nat.le_succ _, ⟨_, _, hx, rfl, rfl, rfl, rfl, rfl⟩, (show hp.objs.size ≤ dx by omega), dne, ns⟩⟩
end
end BpX
end PySem
namespace L2
open PySem PySem.Spec PyProof.Rows
section
variable {X : Cx} {C S fI : Addr}
def tBp (C : Addr) (ta : TA) : St → Hp → XK → Prop := fun σ H Q => ta σ H fun vs H1 => ∃ v, vs = [v] ∧ ∀ d, H1 d = none → Q (.ref C) (some d) (upd H1 d (.xd [(("plate" : Str), v)]))
theorem pmk_bp {a : Expr} {ta : TA} {p pos : Pos} {k : Nat} (T : PySem.BpX.Txt X.K C S fI) (gC : X.mg "BadPlate" = some (.ref C)) (hr : Room k X.A) (ha : PA X [a] ta) (hg : Gl X "BadPlate" := by rfl)
    (he : starEach (a :: []) X.env = (false, eval a X.env) :: starEach [] X.env := by rfl) (hpl : (backTo pos (starEach [] X.env)).any (·.1) = false := by rfl) : L2N.PMk X (.Call (.Name "BadPlate" p) [a] [] pos) (tBp C ta) := by
  intro pins s σ H Q I h
  refine wpAny_Call_Name_kw (ld_glob I hg gC ?_)
  refine PySem.W.callWith_K (h₀ := X.base) I.ok.mod.kin T.kC (thn (ha.run pos pins s σ H _ I h) fun us s1 ⟨vs, H1, I1, r1, v, ev, q1⟩ => ⟨I1.kIn, ?_⟩) he hpl
  subst ev
  cases r1 with
  | @cons _ v' _ us' rv rn =>
    cases rn
    show wpAny _ _ (call (.ref C) [v']) _ _ _
    have lim := I1.nolimit
    obtain ⟨hp, g, dr, tk, os⟩ := s1
    refine wpAny_call (PySem.BpX.run_made T I1.kIn lim (by have := hr.dp; omega) fun h' tk' e d M => ?_)
    show L2N.MkP X pins σ Q (.ref e) ⟨h', g, dr, tk', os⟩
    obtain ⟨oe, fv, hoe, hc, hd, hdat, h1, h2⟩ := M.obj
    obtain ⟨G, g1, g2⟩ := restrict h' fun b => decide (b ≠ e)
    have gk : ∀ b, b ≠ e → G.get? b = h'.get? b := fun b nb => g1 b (decide_eq_true nb)
    have ge : G.get? e = none := g2 e (by simp)
    have fld : ∀ f : Str, RelO (List.lookup f [(("plate" : Str), v)]) (if f = "plate" then some v' else none) := fun f => by
      by_cases hw : f = "plate"
      · rw [if_pos hw, hw, show List.lookup ("plate" : Str) [(("plate" : Str), v)] = some v by simp [List.lookup]]; exact rv
      · rw [if_neg hw, show List.lookup f [(("plate" : Str), v)] = none by simp [List.lookup, show (f == ("plate" : Str)) = false by simpa using hw]]; trivial
    have ob : ObjOk X.prog X.w (upd H1 d (.xd [(("plate" : Str), v)])) G d (.xd [(("plate" : Str), v)]) := ⟨_, M.ns.at (fun o z => (gk d M.ne).trans z), fld⟩
    have J : Inv X pins σ (upd H1 d (.xd [(("plate" : Str), v)])) ⟨G, g, dr, tk', os⟩ := I1.laid (t' := tk') (fun b o z => (gk b (Nat.ne_of_lt (Nat.lt_of_lt_of_le (Heap.lt_size z) M.eNew))).trans (M.keep b o z)) M.dNew ob
    refine ⟨e, oe, fv, ⟨G, g, dr, tk', os⟩, _, .ref C, some d, rfl, J, fun b o z => ?_, ge, hoe, ⟨hc, hd, fun vs z => by rw [hdat] at z; cases z; exact h2⟩, hdat, h1, ?_, rfl, I1.bare, raises_own T.exC T.tyC, q1 d (I1.hok.fresh M.dNew)⟩
    · by_cases hb : b = e
      · have z' : G.get? b = some o := z
        rw [hb, ge] at z'; cases z'
      · exact (gk b hb).symm.trans z
    · rw [upd_ne (Ne.symm M.ne)]; exact I1.hok.fresh M.eNew
theorem ps_bp {a : Expr} {ta : TA} {W : WX} {p pos pos2 : Pos} {k : Nat} (hc : X.calm = true) (T : PySem.BpX.Txt X.K C S fI) (gC : X.mg "BadPlate" = some (.ref C)) (hr : Room k X.A) (tk : L2N.Takes X W) (ha : PA X [a] ta) (hg : Gl X "BadPlate" := by rfl)
    (he : starEach (a :: []) X.env = (false, eval a X.env) :: starEach [] X.env := by rfl) (hpl : (backTo pos (starEach [] X.env)).any (·.1) = false := by rfl) :
    PS X (.Raise (some (.Call (.Name "BadPlate" p) [a] [] pos)) none pos2) (fun _ σ H => tBp C ta σ H fun cls d H' => W cls d σ H') 
    := L2N.ps_raise hc tk (pmk_bp T gC hr ha hg he hpl)
end
end L2

set_option Elab.async false
set_option linter.all false
set_option maxRecDepth 100000
set_option maxHeartbeats 4000000
/-! # an error class of the program two steps beneath Exception, whose __init__ keeps one word: self.word = word -/
namespace PySem
namespace BhX
open PySem.W PySem.Calls PyProof.Rows PySem.HandSPX Builtin Builtin.ObjectAttr
abbrev tail2 (S : Addr) : List Value := .ref S :: ESX.exTail
def argsI (p1 p2 : Pos) : Arguments := ⟨[], [⟨"self", none, p1⟩, ⟨"plate", none, p2⟩], none, [], [], none, []⟩
def bodyI (q1 q2 q3 q4 : Pos) : List Stmt := [.Assign [.Attribute (.Name "self" q1) "plate" q2] (.Name "plate" q3) q4]
def scopeI : Scope := ⟨.function, [(PySem.Str.ofString "self", .local), (PySem.Str.ofString "plate", .local)], false, false, []⟩
/-- all that is written of the class at C, of StoreError at S, and of the class's __init__ at fI -/
structure Txt (K : Frag) (C S fI : Addr) : Prop where
  cls : ∃ nm q N bs sn sub ab col dd k0 k1 k2 k3 k5, K.lookup C = some (excClassObj nm q C N bs (tail2 S) true sn sub ab col dd k0 k1 k2 k3 k5 "Exception.__new__")
  sa : findIn K (.ref C) "__setattr__" = some (some (.builtin "object.__setattr__"))
  noW : findIn K (.ref C) "plate" = some none
  iC : findIn K (.ref C) "__init__" = some (some (.ref fI))
  tI : typeIn K (.ref fI) = some (.type "function")
  kC : keepIn K (.ref C) = true
  exC : subIn K (.ref C) (.type "BaseException") = some true
  tyC : typeIn K (.ref C) = some (.type "type")
  fn : ∃ oc od doc pm an cdv ct osl p1 p2 q1 q2 q3 q4, K.lookup fI = some ⟨oc, od, .func (fnOf "__init__" "BadChoice.__init__" (argsI p1 p2) (bodyI q1 q2 q3 q4) scopeI .none .none doc pm an cdv ct), osl⟩ ∧ codeIn K cdv "BadChoice.__init__" = true
theorem tail2_has (S : Addr) (T : String) : (tail2 S).contains (.type T) = ESX.exTail.contains (.type T) := by
  show (Value.ref S :: ESX.exTail).contains (.type T) = _
  rw [List.contains_cons]; rfl
section
variable {prog : Program} {w : World} {A : Around} {R : Result → Shared → Prop}
/-- x.name = v, the first field of an error that is being made -/
theorem first_field {hp : Heap} {g : Array GenState} {dr : Drawn} {t : Nat} {os : OsState} {K : Frag} {nm : Str} {tk : Tok} {v : Value} {x C S : Addr} {fs : Array Value} {c : ClassData} (X : K.In hp) (hx : hp.get? x = some { cls := .ref C, data := .fields fs })
    (hc : clsIn K C = some c) (hm : c.mro = .ref C :: tail2 S) (hd : c.hasDict = true) (no : findIn K (.ref C) nm = some none)
    (end' : ∀ h' tk' dx, (∀ b o, b ≠ x → hp.get? b = some o → h'.get? b = some o) → hp.objs.size ≤ dx → dx ≠ x → h'.get? x = some { cls := .ref C, dict := some dx, data := .fields fs } → h'.Ns1 dx (fun y => if y = nm then some v else none) →
      R (.ok (.ret .none)) ⟨h', g, dr, tk', os⟩) :
    codeAny (model prog w) A (.call (.builtin "object.__setattr__") ⟨[.ref x, .str nm tk, v], []⟩) R ⟨hp, g, dr, t, os⟩ := by
  have inst : InstAt hp x { cls := .ref C, data := .fields fs } C none := ⟨hx, rfl, rfl, trivial⟩
  have out : x ≠ hp.objs.size := Nat.ne_of_lt (Heap.lt_size hx)
  have so := F.store_object
  have obj : mroIn K C (.type "object") = some true := by
    unfold mroIn; rw [hc, Option.bind_some, hm, if_neg (show ¬ (List.isEmpty (Value.ref C :: tail2 S) = true) from Bool.false_ne_true), List.contains_cons, tail2_has]; rfl
  have isO : Looks (model prog w) hp (isInstance (.ref x) (.type "object")) true := inst.type.andThen (looks_mroIn X obj)
  refine codeAny_call_builtin so.slot.plain so.entry (@W.check_slot (model prog w) _ _ ⟨hp, g, dr, t, os⟩ "object.__setattr__" "object" "__setattr__" (.ref x) [.str nm tk, v] [] _ so.kind so.split isO (so.args (.ref x) (.str nm tk) v) ?_)
  have row : Looks (model prog w) hp (mroOf (.ref C)) c.mro := (looks_clsIn X hc).andThen .now
  have free : Looks (model prog w) hp (storeTaker? none) none := .now
  have its : Looks (model prog w) hp (classData C) c := looks_clsIn X hc
  have pass : refuseLoop (.ref x) "__setattr__" c.mro = pure () := by rw [hm, refuseLoop_ref, refuseLoop_ref]; exact F.store_Exception.passes _
  rw [osa_eq, refuse_eq]
  refine wpAny_bind (wpAny_bind (inst.type.at (wpAny_bind (row.at ?_))))
  rw [pass]
  refine wpAny_pure (wpAny_bind (inst.type.at (wpAny_bind ((looks_findIn X no).at (wpAny_bind (free.at ?_))))))
  obtain ⟨a1, a2, a3, a4, a5, a6, a7, a8, a9, a10, a11⟩ := c
  dsimp only at hd
  subst hd
  show wpAny _ _ (storeInOwnDict (.ref x) (.ref C) (.str nm tk) nm v false) _ _ _
  unfold storeInOwnDict ownDictForStores
  repeat (first | with_reducible refine its.at ?_ | with_reducible refine store_in_new ?_ ?_ | with_reducible refine wpAny_loadPart_at hx ?_ | wp_step)
  · exact ⟨_, #[], _, (Heap.get?_update_ne _ _ _ _ out.symm).trans (Heap.get?_push_at rfl rfl), rfl, fun e he => absurd he (by simp), fun _ => rfl⟩
  · intro h' tk' ns kb
    have hx1 : (hp.push { cls := .type "dict", data := .dict #[] }).get? x = some { cls := .ref C, data := .fields fs } := Heap.get?_push_of_some _ hx
    exact end' h' tk' hp.objs.size (fun b o nb ho => (kb.2 b (Nat.ne_of_lt (Heap.lt_size ho))).trans ((Heap.get?_update_ne _ _ _ _ nb).trans (Heap.get?_push_of_some _ ho))) (Nat.le_refl _) out.symm ((kb.2 x out).trans (Heap.get?_update_self _ hx1 rfl)) ns
theorem load1 {M : Model} {B : Around} {Er : Value → Shared → Prop} {sh : Shared} {fn nam : Str} {sc : Scope} {loc fa : Addr} {cv val : Value} {m : Str → Option Value} {ps : Pos} {Q : Value → Shared → Prop} (n : sh.heap.Ns loc m) (e : m nam = some val) (q : Q val sh)
    (k1 : sc.kind = .function := by rfl) (k2 : (envOfC fn sc loc fa cv).kindOf nam = some .local := by rfl) (k3 : (nam == ("__debug__" : Str)) = false := by decide) : wpAny M B (eval (.Name nam ps) (envOfC fn sc loc fa cv)) Q Er sh := wpAny_Name (wpAny_loadName_local k1 k2 n e q) k3
/-- what BadChoice(v) leaves: the error at e, its own dict at d -/
structure Made (h h' : Heap) (e C d : Addr) (v : Value) : Prop where
  keep : ∀ b o, h.get? b = some o → h'.get? b = some o
  eNew : h.objs.size ≤ e
  obj : ∃ oe vs, h'.get? e = some oe ∧ oe.cls = .ref C ∧ oe.dict = some d ∧ oe.data = .fields vs ∧ vs[1]? = some .none ∧ vs[2]? = some .none
  dNew : h.objs.size ≤ d
  ne : d ≠ e
  ns : h'.Ns1 d (fun y => if y = "plate" then some v else none)
theorem run_init {s : Shared} {K : Frag} {C S fI : Addr} (T : Txt K C S fI) {x t0 : Addr} {v : Value} (X : K.In s.heap) (lim : s.heap.NoLimit) (hx : s.heap.get? x = some (excO C t0)) (room : A.depth < recursionLimit)
    (go : ∀ h' tk dx, (∀ b o, b ≠ x → s.heap.get? b = some o → h'.get? b = some o) → h'.get? x = some { cls := .ref C, dict := some dx, data := .fields #[.ref t0, .none, .none, .none, .bool false, .none] } → s.heap.objs.size ≤ dx → dx ≠ x → h'.Ns1 dx (fun y => if y = "plate" then some v else none) →
      R (.ok (.ret .none)) { s with heap := h', toks := tk }) :
    codeAny (model prog w) A (.call (.ref fI) ⟨[.ref x, v], []⟩) R s := by
  obtain ⟨oc, od, doc, pm, an, cdv, ct, osl, p1, p2, q1, q2, q3, q4, ho, hcd⟩ := T.fn
  obtain ⟨nm, q, N, bs, sn, sub, ab, col, dd, k0, k1, k2, k3, k5, hC⟩ := T.cls
  have hc : clsIn K C = some ⟨nm, bs, .ref C :: tail2 S, N, q, true, sn, sub, ab, col, false⟩ := by unfold clsIn; rw [hC] <;> rfl
  refine Att.call_fn (binds := [("self", .ref x), ("plate", v)]) X lim ho hcd room (BindsTo.of_eq (by first | rfl | with_unfolding_all rfl)) (by first | rfl | decide | with_unfolding_all rfl) (fun s1 IC => ?_) rfl rfl rfl
  obtain ⟨h1, tk1, rfl⟩ := IC.toInCall.same
  have kp := IC.toInCall.keep
  have ns := IC.toInCall.ns
  have hx1 := kp _ _ hx
  show wpAny _ _ (execs _ _) _ _ _
  refine wpAny_execs_cons (plainObj_wpAny_Assign_Attribute ?_)
  refine load1 (val := v) ns (by first | rfl | with_unfolding_all rfl | kernel_rfl) (load1 (val := .ref x) ns (by first | rfl | with_unfolding_all rfl | kernel_rfl) ?_)
  refine set_plain (X.keeps kp) (ox := excO C t0) (od := none) ⟨hx1, rfl, rfl, trivial⟩ T.sa ?_
  refine first_field (X.keeps kp) hx1 hc rfl rfl T.noW fun h3 tk3 dx k3 dn dne hx3 ns3 => ?_
  show wpAny _ _ (execs _ _) _ _ _
  exact wpAny_execs_nil (go h3 tk3 dx (fun b o nb e => k3 b o nb (kp b o e)) hx3 (Nat.le_of_lt (Nat.lt_of_lt_of_le ns.lt dn)) dne ns3)
theorem run_made {s : Shared} {K : Frag} {C S fI : Addr} (T : Txt K C S fI) {v : Value} (X : K.In s.heap) (lim : s.heap.NoLimit) (room : A.depth + 1 < recursionLimit)
    (go : ∀ h' tk e d, Made s.heap h' e C d v → R (.ok (.ret (.ref e))) { s with heap := h', toks := tk }) : codeAny (model prog w) A (.call (.ref C) ⟨[v], []⟩) R s := by
  obtain ⟨nm, q, N, bs, sn, sub, ab, col, dd, k0, k1, k2, k3, k5, hC⟩ := T.cls
  obtain ⟨hp, g, dr, tk, os⟩ := s
  have kp : ∀ b o, hp.get? b = some o → ((hp.push (kdv_tup [v])).push (excO C hp.objs.size)).get? b = some o := fun b o z => Heap.get?_push_of_some _ (Heap.get?_push_of_some _ z)
  have at' : ((hp.push (kdv_tup [v])).push (excO C hp.objs.size)).get? (hp.objs.size + 1) = some (excO C hp.objs.size) := by heap_get
  have one : [v].length ≤ sizeLine := by rw [sizeLine_eq]; exact (by decide : 1 ≤ 16777216)
  refine call_own F.excBase_Exception (tail2_has S) (X _ _ hC) (looks_findIn X T.iC) (fun self => bind_fn X self T.tI) one ?_
  refine run_init (s := ⟨(hp.push (kdv_tup [v])).push (excO C hp.objs.size), g, dr, tk, os⟩) T (X.keeps kp) (lim.keeps kp) at' ?_ fun h' tk' dx k' hx dn dne ns => ?_
  · show A.depth + 1 < recursionLimit
    exact room
  · have z : hp.objs.size + 1 + 1 ≤ dx := by
      first | exact dn | (simpa only [Heap.size_push] using dn)
    exact ⟨rfl, go h' tk' (hp.objs.size + 1) dx ⟨fun b o z => k' b o (Nat.ne_of_lt (Nat.lt_succ_of_lt (Heap.lt_size z))) (kp b o z), Nat.le_succ _, ⟨_, _, hx, rfl, rfl, rfl, rfl, rfl⟩, (show hp.objs.size ≤ dx by omega), dne, ns⟩⟩
end
end BhX
end PySem
namespace L2
open PySem PySem.Spec PyProof.Rows
section
variable {X : Cx} {C S fI : Addr}
def tBh (C : Addr) (ta : TA) : St → Hp → XK → Prop := fun σ H Q => ta σ H fun vs H1 => ∃ v, vs = [v] ∧ ∀ d, H1 d = none → Q (.ref C) (some d) (upd H1 d (.xd [(("plate" : Str), v)]))
theorem pmk_bh {a : Expr} {ta : TA} {p pos : Pos} {k : Nat} (T : PySem.BhX.Txt X.K C S fI) (gC : X.mg "BadChoice" = some (.ref C)) (hr : Room k X.A) (ha : PA X [a] ta) (hg : Gl X "BadChoice" := by rfl)
    (he : starEach (a :: []) X.env = (false, eval a X.env) :: starEach [] X.env := by rfl) (hpl : (backTo pos (starEach [] X.env)).any (·.1) = false := by rfl) : L2N.PMk X (.Call (.Name "BadChoice" p) [a] [] pos) (tBh C ta) := by
  intro pins s σ H Q I h
  refine wpAny_Call_Name_kw (ld_glob I hg gC ?_)
  refine PySem.W.callWith_K (h₀ := X.base) I.ok.mod.kin T.kC (thn (ha.run pos pins s σ H _ I h) fun us s1 ⟨vs, H1, I1, r1, v, ev, q1⟩ => ⟨I1.kIn, ?_⟩) he hpl
  subst ev
  cases r1 with
  | @cons _ v' _ us' rv rn =>
    cases rn
    show wpAny _ _ (call (.ref C) [v']) _ _ _
    have lim := I1.nolimit
    obtain ⟨hp, g, dr, tk, os⟩ := s1
    refine wpAny_call (PySem.BhX.run_made T I1.kIn lim (by have := hr.dp; omega) fun h' tk' e d M => ?_)
    show L2N.MkP X pins σ Q (.ref e) ⟨h', g, dr, tk', os⟩
    obtain ⟨oe, fv, hoe, hc, hd, hdat, h1, h2⟩ := M.obj
    obtain ⟨G, g1, g2⟩ := restrict h' fun b => decide (b ≠ e)
    have gk : ∀ b, b ≠ e → G.get? b = h'.get? b := fun b nb => g1 b (decide_eq_true nb)
    have ge : G.get? e = none := g2 e (by simp)
    have fld : ∀ f : Str, RelO (List.lookup f [(("plate" : Str), v)]) (if f = "plate" then some v' else none) := fun f => by
      by_cases hw : f = "plate"
      · rw [if_pos hw, hw, show List.lookup ("plate" : Str) [(("plate" : Str), v)] = some v by simp [List.lookup]]; exact rv
      · rw [if_neg hw, show List.lookup f [(("plate" : Str), v)] = none by simp [List.lookup, show (f == ("plate" : Str)) = false by simpa using hw]]; trivial
    have ob : ObjOk X.prog X.w (upd H1 d (.xd [(("plate" : Str), v)])) G d (.xd [(("plate" : Str), v)]) := ⟨_, M.ns.at (fun o z => (gk d M.ne).trans z), fld⟩
    have J : Inv X pins σ (upd H1 d (.xd [(("plate" : Str), v)])) ⟨G, g, dr, tk', os⟩ := I1.laid (t' := tk') (fun b o z => (gk b (Nat.ne_of_lt (Nat.lt_of_lt_of_le (Heap.lt_size z) M.eNew))).trans (M.keep b o z)) M.dNew ob
    refine ⟨e, oe, fv, ⟨G, g, dr, tk', os⟩, _, .ref C, some d, rfl, J, fun b o z => ?_, ge, hoe, ⟨hc, hd, fun vs z => by rw [hdat] at z; cases z; exact h2⟩, hdat, h1, ?_, rfl, I1.bare, raises_own T.exC T.tyC, q1 d (I1.hok.fresh M.dNew)⟩
    · by_cases hb : b = e
      · have z' : G.get? b = some o := z
        rw [hb, ge] at z'; cases z'
      · exact (gk b hb).symm.trans z
    · rw [upd_ne (Ne.symm M.ne)]; exact I1.hok.fresh M.eNew
theorem ps_bh {a : Expr} {ta : TA} {W : WX} {p pos pos2 : Pos} {k : Nat} (hc : X.calm = true) (T : PySem.BhX.Txt X.K C S fI) (gC : X.mg "BadChoice" = some (.ref C)) (hr : Room k X.A) (tk : L2N.Takes X W) (ha : PA X [a] ta) (hg : Gl X "BadChoice" := by rfl)
    (he : starEach (a :: []) X.env = (false, eval a X.env) :: starEach [] X.env := by rfl) (hpl : (backTo pos (starEach [] X.env)).any (·.1) = false := by rfl) :
    PS X (.Raise (some (.Call (.Name "BadChoice" p) [a] [] pos)) none pos2) (fun _ σ H => tBh C ta σ H fun cls d H' => W cls d σ H') 
    := L2N.ps_raise hc tk (pmk_bh T gC hr ha hg he hpl)
end
end L2

set_option Elab.async false
set_option linter.all false
set_option maxRecDepth 100000
set_option maxHeartbeats 4000000
/-! # an error class of the program two steps beneath Exception, whose __init__ keeps one word: self.word = word -/
namespace PySem
namespace BmX
open PySem.W PySem.Calls PyProof.Rows PySem.HandSPX Builtin Builtin.ObjectAttr
abbrev tail2 (S : Addr) : List Value := .ref S :: ESX.exTail
def argsI (p1 p2 : Pos) : Arguments := ⟨[], [⟨"self", none, p1⟩, ⟨"many", none, p2⟩], none, [], [], none, []⟩
def bodyI (q1 q2 q3 q4 : Pos) : List Stmt := [.Assign [.Attribute (.Name "self" q1) "many" q2] (.Name "many" q3) q4]
def scopeI : Scope := ⟨.function, [(PySem.Str.ofString "self", .local), (PySem.Str.ofString "many", .local)], false, false, []⟩
/-- all that is written of the class at C, of StoreError at S, and of the class's __init__ at fI -/
structure Txt (K : Frag) (C S fI : Addr) : Prop where
  cls : ∃ nm q N bs sn sub ab col dd k0 k1 k2 k3 k5, K.lookup C = some (excClassObj nm q C N bs (tail2 S) true sn sub ab col dd k0 k1 k2 k3 k5 "Exception.__new__")
  sa : findIn K (.ref C) "__setattr__" = some (some (.builtin "object.__setattr__"))
  noW : findIn K (.ref C) "many" = some none
  iC : findIn K (.ref C) "__init__" = some (some (.ref fI))
  tI : typeIn K (.ref fI) = some (.type "function")
  kC : keepIn K (.ref C) = true
  exC : subIn K (.ref C) (.type "BaseException") = some true
  tyC : typeIn K (.ref C) = some (.type "type")
  fn : ∃ oc od doc pm an cdv ct osl p1 p2 q1 q2 q3 q4, K.lookup fI = some ⟨oc, od, .func (fnOf "__init__" "BadMoment.__init__" (argsI p1 p2) (bodyI q1 q2 q3 q4) scopeI .none .none doc pm an cdv ct), osl⟩ ∧ codeIn K cdv "BadMoment.__init__" = true
theorem tail2_has (S : Addr) (T : String) : (tail2 S).contains (.type T) = ESX.exTail.contains (.type T) := by
  show (Value.ref S :: ESX.exTail).contains (.type T) = _
  rw [List.contains_cons]; rfl
section
variable {prog : Program} {w : World} {A : Around} {R : Result → Shared → Prop}
/-- x.name = v, the first field of an error that is being made -/
theorem first_field {hp : Heap} {g : Array GenState} {dr : Drawn} {t : Nat} {os : OsState} {K : Frag} {nm : Str} {tk : Tok} {v : Value} {x C S : Addr} {fs : Array Value} {c : ClassData} (X : K.In hp) (hx : hp.get? x = some { cls := .ref C, data := .fields fs })
    (hc : clsIn K C = some c) (hm : c.mro = .ref C :: tail2 S) (hd : c.hasDict = true) (no : findIn K (.ref C) nm = some none)
    (end' : ∀ h' tk' dx, (∀ b o, b ≠ x → hp.get? b = some o → h'.get? b = some o) → hp.objs.size ≤ dx → dx ≠ x → h'.get? x = some { cls := .ref C, dict := some dx, data := .fields fs } → h'.Ns1 dx (fun y => if y = nm then some v else none) →
      R (.ok (.ret .none)) ⟨h', g, dr, tk', os⟩) :
    codeAny (model prog w) A (.call (.builtin "object.__setattr__") ⟨[.ref x, .str nm tk, v], []⟩) R ⟨hp, g, dr, t, os⟩ := by
  have inst : InstAt hp x { cls := .ref C, data := .fields fs } C none := ⟨hx, rfl, rfl, trivial⟩
  have out : x ≠ hp.objs.size := Nat.ne_of_lt (Heap.lt_size hx)
  have so := F.store_object
  have obj : mroIn K C (.type "object") = some true := by
    unfold mroIn; rw [hc, Option.bind_some, hm, if_neg (show ¬ (List.isEmpty (Value.ref C :: tail2 S) = true) from Bool.false_ne_true), List.contains_cons, tail2_has]; rfl
  have isO : Looks (model prog w) hp (isInstance (.ref x) (.type "object")) true := inst.type.andThen (looks_mroIn X obj)
  refine codeAny_call_builtin so.slot.plain so.entry (@W.check_slot (model prog w) _ _ ⟨hp, g, dr, t, os⟩ "object.__setattr__" "object" "__setattr__" (.ref x) [.str nm tk, v] [] _ so.kind so.split isO (so.args (.ref x) (.str nm tk) v) ?_)
  have row : Looks (model prog w) hp (mroOf (.ref C)) c.mro := (looks_clsIn X hc).andThen .now
  have free : Looks (model prog w) hp (storeTaker? none) none := .now
  have its : Looks (model prog w) hp (classData C) c := looks_clsIn X hc
  have pass : refuseLoop (.ref x) "__setattr__" c.mro = pure () := by rw [hm, refuseLoop_ref, refuseLoop_ref]; exact F.store_Exception.passes _
  rw [osa_eq, refuse_eq]
  refine wpAny_bind (wpAny_bind (inst.type.at (wpAny_bind (row.at ?_))))
  rw [pass]
  refine wpAny_pure (wpAny_bind (inst.type.at (wpAny_bind ((looks_findIn X no).at (wpAny_bind (free.at ?_))))))
  obtain ⟨a1, a2, a3, a4, a5, a6, a7, a8, a9, a10, a11⟩ := c
  dsimp only at hd
  subst hd
  show wpAny _ _ (storeInOwnDict (.ref x) (.ref C) (.str nm tk) nm v false) _ _ _
  unfold storeInOwnDict ownDictForStores
  repeat (first | with_reducible refine its.at ?_ | with_reducible refine store_in_new ?_ ?_ | with_reducible refine wpAny_loadPart_at hx ?_ | wp_step)
  · exact ⟨_, #[], _, (Heap.get?_update_ne _ _ _ _ out.symm).trans (Heap.get?_push_at rfl rfl), rfl, fun e he => absurd he (by simp), fun _ => rfl⟩
  · intro h' tk' ns kb
    have hx1 : (hp.push { cls := .type "dict", data := .dict #[] }).get? x = some { cls := .ref C, data := .fields fs } := Heap.get?_push_of_some _ hx
    exact end' h' tk' hp.objs.size (fun b o nb ho => (kb.2 b (Nat.ne_of_lt (Heap.lt_size ho))).trans ((Heap.get?_update_ne _ _ _ _ nb).trans (Heap.get?_push_of_some _ ho))) (Nat.le_refl _) out.symm ((kb.2 x out).trans (Heap.get?_update_self _ hx1 rfl)) ns
theorem load1 {M : Model} {B : Around} {Er : Value → Shared → Prop} {sh : Shared} {fn nam : Str} {sc : Scope} {loc fa : Addr} {cv val : Value} {m : Str → Option Value} {ps : Pos} {Q : Value → Shared → Prop} (n : sh.heap.Ns loc m) (e : m nam = some val) (q : Q val sh)
    (k1 : sc.kind = .function := by rfl) (k2 : (envOfC fn sc loc fa cv).kindOf nam = some .local := by rfl) (k3 : (nam == ("__debug__" : Str)) = false := by decide) : wpAny M B (eval (.Name nam ps) (envOfC fn sc loc fa cv)) Q Er sh := wpAny_Name (wpAny_loadName_local k1 k2 n e q) k3
/-- what BadMoment(v) leaves: the error at e, its own dict at d -/
structure Made (h h' : Heap) (e C d : Addr) (v : Value) : Prop where
  keep : ∀ b o, h.get? b = some o → h'.get? b = some o
  eNew : h.objs.size ≤ e
  obj : ∃ oe vs, h'.get? e = some oe ∧ oe.cls = .ref C ∧ oe.dict = some d ∧ oe.data = .fields vs ∧ vs[1]? = some .none ∧ vs[2]? = some .none
  dNew : h.objs.size ≤ d
  ne : d ≠ e
  ns : h'.Ns1 d (fun y => if y = "many" then some v else none)
theorem run_init {s : Shared} {K : Frag} {C S fI : Addr} (T : Txt K C S fI) {x t0 : Addr} {v : Value} (X : K.In s.heap) (lim : s.heap.NoLimit) (hx : s.heap.get? x = some (excO C t0)) (room : A.depth < recursionLimit)
    (go : ∀ h' tk dx, (∀ b o, b ≠ x → s.heap.get? b = some o → h'.get? b = some o) → h'.get? x = some { cls := .ref C, dict := some dx, data := .fields #[.ref t0, .none, .none, .none, .bool false, .none] } → s.heap.objs.size ≤ dx → dx ≠ x → h'.Ns1 dx (fun y => if y = "many" then some v else none) →
      R (.ok (.ret .none)) { s with heap := h', toks := tk }) :
    codeAny (model prog w) A (.call (.ref fI) ⟨[.ref x, v], []⟩) R s := by
  obtain ⟨oc, od, doc, pm, an, cdv, ct, osl, p1, p2, q1, q2, q3, q4, ho, hcd⟩ := T.fn
  obtain ⟨nm, q, N, bs, sn, sub, ab, col, dd, k0, k1, k2, k3, k5, hC⟩ := T.cls
  have hc : clsIn K C = some ⟨nm, bs, .ref C :: tail2 S, N, q, true, sn, sub, ab, col, false⟩ := by unfold clsIn; rw [hC] <;> rfl
  refine Att.call_fn (binds := [("self", .ref x), ("many", v)]) X lim ho hcd room (BindsTo.of_eq (by first | rfl | with_unfolding_all rfl)) (by first | rfl | decide | with_unfolding_all rfl) (fun s1 IC => ?_) rfl rfl rfl
  obtain ⟨h1, tk1, rfl⟩ := IC.toInCall.same
  have kp := IC.toInCall.keep
  have ns := IC.toInCall.ns
  have hx1 := kp _ _ hx
  show wpAny _ _ (execs _ _) _ _ _
  refine wpAny_execs_cons (plainObj_wpAny_Assign_Attribute ?_)
  refine load1 (val := v) ns (by first | rfl | with_unfolding_all rfl | kernel_rfl) (load1 (val := .ref x) ns (by first | rfl | with_unfolding_all rfl | kernel_rfl) ?_)
  refine set_plain (X.keeps kp) (ox := excO C t0) (od := none) ⟨hx1, rfl, rfl, trivial⟩ T.sa ?_
  refine first_field (X.keeps kp) hx1 hc rfl rfl T.noW fun h3 tk3 dx k3 dn dne hx3 ns3 => ?_
  show wpAny _ _ (execs _ _) _ _ _
  exact wpAny_execs_nil (go h3 tk3 dx (fun b o nb e => k3 b o nb (kp b o e)) hx3 (Nat.le_of_lt (Nat.lt_of_lt_of_le ns.lt dn)) dne ns3)
theorem run_made {s : Shared} {K : Frag} {C S fI : Addr} (T : Txt K C S fI) {v : Value} (X : K.In s.heap) (lim : s.heap.NoLimit) (room : A.depth + 1 < recursionLimit)
    (go : ∀ h' tk e d, Made s.heap h' e C d v → R (.ok (.ret (.ref e))) { s with heap := h', toks := tk }) : codeAny (model prog w) A (.call (.ref C) ⟨[v], []⟩) R s := by
  obtain ⟨nm, q, N, bs, sn, sub, ab, col, dd, k0, k1, k2, k3, k5, hC⟩ := T.cls
  obtain ⟨hp, g, dr, tk, os⟩ := s
  have kp : ∀ b o, hp.get? b = some o → ((hp.push (kdv_tup [v])).push (excO C hp.objs.size)).get? b = some o := fun b o z => Heap.get?_push_of_some _ (Heap.get?_push_of_some _ z)
  have at' : ((hp.push (kdv_tup [v])).push (excO C hp.objs.size)).get? (hp.objs.size + 1) = some (excO C hp.objs.size) := by heap_get
  have one : [v].length ≤ sizeLine := by rw [sizeLine_eq]; exact (by decide : 1 ≤ 16777216)
  refine call_own F.excBase_Exception (tail2_has S) (X _ _ hC) (looks_findIn X T.iC) (fun self => bind_fn X self T.tI) one ?_
  refine run_init (s := ⟨(hp.push (kdv_tup [v])).push (excO C hp.objs.size), g, dr, tk, os⟩) T (X.keeps kp) (lim.keeps kp) at' ?_ fun h' tk' dx k' hx dn dne ns => ?_
  · show A.depth + 1 < recursionLimit
    exact room
  · have z : hp.objs.size + 1 + 1 ≤ dx := by
      first | exact dn | (simpa only [Heap.size_push] using dn)
    exact ⟨rfl, go h' tk' (hp.objs.size + 1) dx ⟨fun b o z => k' b o (Nat.ne_of_lt (Nat.lt_succ_of_lt (Heap.lt_size z))) (kp b o z), Nat.le_succ _, ⟨_, _, hx, rfl, rfl, rfl, rfl, rfl⟩, (show hp.objs.size ≤ dx by omega), dne, ns⟩⟩
end
end BmX
end PySem
namespace L2
open PySem PySem.Spec PyProof.Rows
section
variable {X : Cx} {C S fI : Addr}
def tBm (C : Addr) (ta : TA) : St → Hp → XK → Prop := fun σ H Q => ta σ H fun vs H1 => ∃ v, vs = [v] ∧ ∀ d, H1 d = none → Q (.ref C) (some d) (upd H1 d (.xd [(("many" : Str), v)]))
theorem pmk_bm {a : Expr} {ta : TA} {p pos : Pos} {k : Nat} (T : PySem.BmX.Txt X.K C S fI) (gC : X.mg "BadMoment" = some (.ref C)) (hr : Room k X.A) (ha : PA X [a] ta) (hg : Gl X "BadMoment" := by rfl)
    (he : starEach (a :: []) X.env = (false, eval a X.env) :: starEach [] X.env := by rfl) (hpl : (backTo pos (starEach [] X.env)).any (·.1) = false := by rfl) : L2N.PMk X (.Call (.Name "BadMoment" p) [a] [] pos) (tBm C ta) := by
  intro pins s σ H Q I h
  refine wpAny_Call_Name_kw (ld_glob I hg gC ?_)
  refine PySem.W.callWith_K (h₀ := X.base) I.ok.mod.kin T.kC (thn (ha.run pos pins s σ H _ I h) fun us s1 ⟨vs, H1, I1, r1, v, ev, q1⟩ => ⟨I1.kIn, ?_⟩) he hpl
  subst ev
  cases r1 with
  | @cons _ v' _ us' rv rn =>
    cases rn
    show wpAny _ _ (call (.ref C) [v']) _ _ _
    have lim := I1.nolimit
    obtain ⟨hp, g, dr, tk, os⟩ := s1
    refine wpAny_call (PySem.BmX.run_made T I1.kIn lim (by have := hr.dp; omega) fun h' tk' e d M => ?_)
    show L2N.MkP X pins σ Q (.ref e) ⟨h', g, dr, tk', os⟩
    obtain ⟨oe, fv, hoe, hc, hd, hdat, h1, h2⟩ := M.obj
    obtain ⟨G, g1, g2⟩ := restrict h' fun b => decide (b ≠ e)
    have gk : ∀ b, b ≠ e → G.get? b = h'.get? b := fun b nb => g1 b (decide_eq_true nb)
    have ge : G.get? e = none := g2 e (by simp)
    have fld : ∀ f : Str, RelO (List.lookup f [(("many" : Str), v)]) (if f = "many" then some v' else none) := fun f => by
      by_cases hw : f = "many"
      · rw [if_pos hw, hw, show List.lookup ("many" : Str) [(("many" : Str), v)] = some v by simp [List.lookup]]; exact rv
      · rw [if_neg hw, show List.lookup f [(("many" : Str), v)] = none by simp [List.lookup, show (f == ("many" : Str)) = false by simpa using hw]]; trivial
    have ob : ObjOk X.prog X.w (upd H1 d (.xd [(("many" : Str), v)])) G d (.xd [(("many" : Str), v)]) := ⟨_, M.ns.at (fun o z => (gk d M.ne).trans z), fld⟩
    have J : Inv X pins σ (upd H1 d (.xd [(("many" : Str), v)])) ⟨G, g, dr, tk', os⟩ := I1.laid (t' := tk') (fun b o z => (gk b (Nat.ne_of_lt (Nat.lt_of_lt_of_le (Heap.lt_size z) M.eNew))).trans (M.keep b o z)) M.dNew ob
    refine ⟨e, oe, fv, ⟨G, g, dr, tk', os⟩, _, .ref C, some d, rfl, J, fun b o z => ?_, ge, hoe, ⟨hc, hd, fun vs z => by rw [hdat] at z; cases z; exact h2⟩, hdat, h1, ?_, rfl, I1.bare, raises_own T.exC T.tyC, q1 d (I1.hok.fresh M.dNew)⟩
    · by_cases hb : b = e
      · have z' : G.get? b = some o := z
        rw [hb, ge] at z'; cases z'
      · exact (gk b hb).symm.trans z
    · rw [upd_ne (Ne.symm M.ne)]; exact I1.hok.fresh M.eNew
theorem ps_bm {a : Expr} {ta : TA} {W : WX} {p pos pos2 : Pos} {k : Nat} (hc : X.calm = true) (T : PySem.BmX.Txt X.K C S fI) (gC : X.mg "BadMoment" = some (.ref C)) (hr : Room k X.A) (tk : L2N.Takes X W) (ha : PA X [a] ta) (hg : Gl X "BadMoment" := by rfl)
    (he : starEach (a :: []) X.env = (false, eval a X.env) :: starEach [] X.env := by rfl) (hpl : (backTo pos (starEach [] X.env)).any (·.1) = false := by rfl) :
    PS X (.Raise (some (.Call (.Name "BadMoment" p) [a] [] pos)) none pos2) (fun _ σ H => tBm C ta σ H fun cls d H' => W cls d σ H') 
    := L2N.ps_raise hc tk (pmk_bm T gC hr ha hg he hpl)
end
end L2

set_option Elab.async false
set_option linter.all false
set_option maxRecDepth 100000
set_option maxHeartbeats 4000000
/-! # try .. except A as n: .. except B as n: .. : several handlers, all of one name -/
namespace L2N
open PySem PySem.Spec PyProof.Rows L2
/-- the handlers and what their suites do -/
inductive AsOk (X : Cx) (n : Str) : List ExceptHandler → List (Value × (Addr → Value → Option Addr → TS)) → Prop
  | nil : AsOk X n [] []
  | cons {x : Str} {c : Value} {ts : Addr → Value → Option Addr → TS} {b : Stmt} {more : List Stmt} {q1 q2 : Pos} {hs : List ExceptHandler} {l : List (Value × (Addr → Value → Option Addr → TS))} (hc : Names X x c)
      (suite : ∀ (a : Addr) (oe : Obj) (cls : Value) (d : Option Addr) (pn : List (Addr × Obj)), Zn cls d oe → (∃ vs, oe.data = .fields vs) → PSs (X.suite a ((a, oe) :: pn)) (b :: more) (ts a cls d)) (r : AsOk X n hs l) :
      AsOk X n (.ExceptHandler (some (.Name x q1)) (some n) (b :: more) q2 :: hs) ((c, ts) :: l)
/-- the wish of the body: the first class that fits takes the error -/
def wEach (K : PySem.W.Frag) (i : Nat) (Wout : WX) (D : Ends) : List (Value × (Addr → Value → Option Addr → TS)) → WX
  | [] => Wout
  | (c, ts) :: l => wAs K c i ts (wEach K i Wout D l) D
section
variable {X : Cx} {n : Str} {i : Nat} {body : List Stmt} {h0 : ExceptHandler} {more : List ExceptHandler} {l : List (Value × (Addr → Value → Option Addr → TS))} {pos : Pos} {tb : WX → TS} {Wout : WX}
theorem ps_try_each (hs : X.stack = X.env :: X.outer) (hf : X.env.frame = some X.env.locals) (hN : X.N.Nodup) (hi : X.N[i]? = some n) (hln : X.env.kindOf n = some .local) (tk : Takes X Wout)
    (hb : ∀ (W : WX) (pn : List (Addr × Obj)) (xe : Value → Shared → Prop), Takes (X.tr pn xe) W → PassesOwn (model X.prog X.w) X.A X.env xe → PSs (X.tr pn xe) body (tb W)) (hh : AsOk X n (h0 :: more) l) :
    PS X (.Try body (h0 :: more) [] [] pos) (fun D σ H => tb (wEach X.K i Wout D l) D σ H) := by
  refine ⟨fun pins s σ H D I h => ?_⟩
  have ok := I.ok
  have row : X.A.frames = some (X.env :: X.outer) := by rw [ok.frames, hs]
  have loc : Loc X.env.scope n := .inl hln
  refine wpAny_Try_except (wpAny_mono ((hb (wEach X.K i Wout D l) (X.pn ++ pins) (fun e s1 => wpAny (model X.prog X.w) X.A (noteFrame e X.env) (fun _ s2 => wpAny (model X.prog X.w) X.A (setFlight e none)
    (fun _ s3 => wpAny (model X.prog X.w) X.A (handleBy e X.env (h0 :: more)) (SP X pins D) X.xe s3) X.xe s2) X.xe s1) (fun u s1 wish => ?_) PassesOwn.looking).run [] s σ H D (I.toTry _) h) (fun fl s1 q => ?_) fun e s1 q => q)
  · obtain ⟨a, B, sI, pins2, τ, G, cls, d, rfl, J2, nb, up, sky, free, os, bare, w⟩ := wish
    have J : Inv X pins τ G sI := J2.ofTry ok
    have sky2 : Sky B (X.env :: X.outer) a (Zn cls d) X.env.locals s1.heap := by rw [← hs]; exact sky
    show wpAny (model X.prog X.w) X.A (noteFrame (.ref a) X.env) _ _ _
    refine Sky.land Zn.steady row hf sky2 fun h3 fl3 up3 => ?_
    have J3 : Inv X pins τ G { s1 with heap := h3 } := J.landed nb fl3.1 (up.trans up3) os bare
    obtain ⟨o3, v3, e3, z3, d3⟩ := fl3.there
    have off : a ∉ frs (X.env :: X.outer) := fun hm => by
      obtain ⟨_, o, e, no⟩ := fl3.2.2.1.mem hm
      rw [e3] at e
      cases e
      exact no _ d3
    have nL : a ≠ X.env.locals := fun z => off (List.mem_filterMap.mpr ⟨X.env, List.mem_cons_self, by rw [hf, z]⟩)
    have nF : a ∉ X.fs := fun hm => by
      obtain ⟨e, he, q⟩ := List.mem_filterMap.mp hm
      exact off (List.mem_filterMap.mpr ⟨e, List.mem_cons_of_mem _ he, q⟩)
    have S3 := J3.suite e3 d3 free nL nF
    have own : PySem.W.Looks (model X.prog X.w) h3 (typeOf (.ref a)) cls := fun A Q E s k q => wpAny_typeOf_ref (k _ _ e3) (by rw [z3.1]; exact q)
    suffices all : ∀ (hds : List ExceptHandler) (l2 : List (Value × (Addr → Value → Option Addr → TS))), AsOk X n hds l2 → wEach X.K i Wout D l2 cls d τ G → wpAny (model X.prog X.w) X.A (handleBy (.ref a) X.env hds) (SP X pins D) X.xe { s1 with heap := h3 } from all _ _ hh w
    intro hds l2 okh
    induction okh with
    | nil =>
      intro w0
      refine wpAny_handleBy_nil ?_
      obtain ⟨_, _, _, oe, vs, T, _, _, he, _, hd, h1, _⟩ := id fl3
      have up4 : wpAny (model X.prog X.w) X.A (setFlight (.ref a) X.env.frame) (fun _ s4 => wpAny (model X.prog X.w) X.A (throw (.ref a) : Sem Flow) (SP X pins D) X.xe s4) X.xe { s1 with heap := h3 } := by
        rw [hf]
        exact HandSPX.setFlight_upZ fl3 fun h4 in4 k4 => wpAny_throw (tk _ _ ⟨a, B, sI, pins, τ, G, cls, d, rfl, J, nb, (up.trans up3).trans k4, .inr (.inr (by rw [hs]; exact in4)), free, os, bare, w0⟩)
      unfold PySem.passOn
      refine wpAny_bind (wpAny_field he hd h1 ?_)
      rw [if_neg (show ¬ ((Value.ref T == Value.none) = true) from by simp)]
      first | exact wpAny_bind (wpAny_pure (wpAny_bind up4)) | exact wpAny_bind up4
    | @cons x c ts b more2 q1 q2 hs2 l3 hc suite r ih =>
      intro w0
      obtain ⟨fits, hx, yes, no⟩ := w0
      have looked := PySem.W.exm_one (M := model X.prog X.w) J3.kIn own hx
      refine wpAny_handleBy_cons (codeAny_handlers_test ?_) (by intro z; cases z)
      have named : ∀ {Q E : Value → Shared → Prop}, Q c { s1 with heap := h3 } → wpAny (model X.prog X.w) (X.A.mark (some (.ref a))) (eval (.Name x q1) X.env) Q E { s1 with heap := h3 } := fun {Q E} q => by
        obtain ⟨g1, g2, g3 | ⟨g3, g4, g5⟩⟩ := hc
        · exact ld_glob (X := X.suite a ((a, o3) :: (X.pn ++ pins))) S3 g1 g3 q g2
        · exact ld_blt (X := X.suite a ((a, o3) :: (X.pn ++ pins))) S3 g1 g3 g4 q g5 g2
      refine named (looked.here ?_)
      cases fits with
      | false => exact ih (no rfl)
      | true =>
        refine codeAny_handlers_suite_as (HandSPX.lands_againZ fl3 fun h4 fl4 up4 => ?_)
        have J4 : Inv X pins τ G { s1 with heap := h4 } := J.landed nb fl4.1 ((up.trans up3).trans up4) os bare
        obtain ⟨o4, v4, e4, z4, d4⟩ := fl4.there
        refine store_ok (X := X.suite a ((a, o4) :: (X.pn ++ pins))) (v := .ref a) (J4.suite e4 d4 free nL nF) hN hi loc rfl (fun s5 S5 => ?_) (.inr hln)
        refine wpAny_mono ((suite a o4 cls d (X.pn ++ pins) z4 ⟨_, d4⟩).run [] s5 _ G _ S5 (yes rfl a free)) (fun fl s6 q => ?_) fun _ _ z => z.elim
        have out : ∀ {τ6 : St} {G6 : Hp} {Q : Shared → Prop}, Inv (X.suite a ((a, o4) :: (X.pn ++ pins))) [] τ6 G6 s6 → (∀ s7, Inv X pins (τ6.set i none) G6 s7 → Q s7) →
            wpAny (model X.prog X.w) X.A (do bindName X.env n .none; unbindBehindTheSuite X.env n q2) (fun _ s7 => Q s7) X.xe s6 := fun S6 k => gone_ok (S6.unsuite ok) hN hi hln k
        cases fl with
        | next => obtain ⟨_, _, S6, k⟩ := q; exact out S6 fun s7 J7 => ⟨_, _, J7, k⟩
        | brk => obtain ⟨_, _, S6, k⟩ := q; exact out S6 fun s7 J7 => ⟨_, _, J7, k⟩
        | cont => obtain ⟨_, _, S6, k⟩ := q; exact out S6 fun s7 J7 => ⟨_, _, J7, k⟩
        | ret v => obtain ⟨_, _, _, S6, r6, k⟩ := q; exact out S6 fun s7 J7 => ⟨_, _, _, J7, r6, k⟩
  · cases fl with
    | next => obtain ⟨_, _, J2, k⟩ := q; exact wpAny_execs_nil ⟨_, _, J2.ofTry ok, k⟩
    | brk => obtain ⟨_, _, J2, k⟩ := q; exact ⟨_, _, J2.ofTry ok, k⟩
    | cont => obtain ⟨_, _, J2, k⟩ := q; exact ⟨_, _, J2.ofTry ok, k⟩
    | ret v => obtain ⟨_, _, _, J2, r2, k⟩ := q; exact ⟨_, _, _, J2.ofTry ok, r2, k⟩
end
end L2N

set_option Elab.async false
set_option linter.all false
set_option maxRecDepth 100000
set_option maxHeartbeats 4000000
namespace Pf
open PySem PySem.Spec PyProof.Rows L2
/-! ### what raises -/
structure BpTx (K : PySem.W.Frag) (mg : Str → Option Value) (C S fI : Addr) : Prop where
  T : PySem.BpX.Txt K C S fI
  g : mg "BadPlate" = some (.ref C)
structure BhTx (K : PySem.W.Frag) (mg : Str → Option Value) (C S fI : Addr) : Prop where
  T : PySem.BhX.Txt K C S fI
  g : mg "BadChoice" = some (.ref C)
structure BmTx (K : PySem.W.Frag) (mg : Str → Option Value) (C S fI : Addr) : Prop where
  T : PySem.BmX.Txt K C S fI
  g : mg "BadMoment" = some (.ref C)
/-- an error with one field is raised; all else stays -/
def raisesS (C : Addr) (fld : Str) (H : Hp) (v : V) (E : XK) : Prop := ∀ H' dd, Same H H' → H' dd = some (.xd [(fld, v)]) → E (.ref C) (some dd) H'
section
variable {P : Program} {w : World} {K : PySem.W.Frag} {mg : Str → Option Value} {base : Heap} {C CP SP fIP CH SH fIH CM SM fIM : Addr}
/-- check_plate of what is no plate -/
def spCheckX (K : PySem.W.Frag) (C CP : Addr) : Sp := fun vs H Q E => ∃ (d : Addr) (n : Int) (v : V) (dt : PyData) (sv : List V) (lv : List (Int × V)), vs = [.ref d, v] ∧ DiskAt C H d n sv lv ∧ Dp K H v dt ∧ wholeB dt (some 0) (some (n - 1)) = false ∧ raisesS CP "plate" H v E
theorem ok_checkX {f fW : Addr} {fd fdW : FuncData} (F : Fun K "check_plate" "Disk.check_plate" sCheck f fd) (T : DTxt K C) (RP : BpTx K mg CP SP fIP) (GW : FnOk P w K mg base CX0 1 fW fdW ["thing", "low", "high"] (spWhole K)) (kW : PySem.W.keepIn K (.ref fW) = true) (gW : mg "is_whole" = some (.ref fW))
    (b3 : Binds K fdW ["thing", "low", "high"] []) : FnOk P w K mg base (L2N.CX P w) 3 f fd ["self", "plate"] (spCheckX K C CP) := by
  refine F.okN scCheck (fun vs H Q E h => ?_) (fun cdv A outer s H vs Q E hr h => ?_)
  · obtain ⟨d, n, v, dt, sv, lv, rfl, _⟩ := h
    rfl
  · obtain ⟨d, n, v, dt, sv, lv, rfl, D, dv, hw, k⟩ := h
    obtain ⟨dx, a, b, ts, e1, e2, e3, e4, e5, e6⟩ := id D
    refine ⟨_, pss_cons (ps_if (pt_not (pt_val (pe_call GW (hr.mono (by decide)) rfl gW kW b3 .nil pass0 (pa_cons (pv 1) (pa_cons pe_int (pa_cons (pe_op op_sub (pe_fld (pv 0) rfl) pe_int) pa_nil)))))) (pss_one (ps_bp rfl RP.T RP.g hr (L2N.takes_of rfl rfl rfl rfl) (pa_cons (pv 1) pa_nil))) pss_nil) pss_never, ?_⟩
    refine ⟨_, rfl, _, rfl, d, C, dx, _, _, rfl, e1, T.cl, T.nM, fl_many _ _ _, _, _, rfl, rfl, v, dt, some 0, some (n - 1), rfl, dv, _, rfl, ?_⟩
    rw [hw]
    exact iteT ⟨_, rfl, _, rfl, fun dd hdd => k _ dd (same_upd hdd) upd_same⟩
/-- write, now, versions of what is no plate -/
def spWriteX (K : PySem.W.Frag) (C CP : Addr) : Sp := fun vs H Q E => ∃ (d : Addr) (n : Int) (v x : V) (dt : PyData) (sv : List V) (lv : List (Int × V)), vs = [.ref d, v, x] ∧ DiskAt C H d n sv lv ∧ Dp K H v dt ∧ wholeB dt (some 0) (some (n - 1)) = false ∧ raisesS CP "plate" H v E
theorem ok_writeX {f fK : Addr} {fd dK : FuncData} (F : Fun K "write" "Disk.write" sWrite f fd) (T : DTxt K C) (GK : FnOk P w K mg base (L2N.CX P w) 3 fK dK ["self", "plate"] (spCheckX K C CP)) (mK : Meth K C "check_plate" fK) (bK : Binds K dK ["self", "plate"] []) : FnOk P w K mg base (L2N.CX P w) 4 f fd ["self", "plate", "value"] (spWriteX K C CP) := by
  refine F.okN scWrite (fun vs H Q E h => ?_) (fun cdv A outer s H vs Q E hr h => ?_)
  · obtain ⟨d, n, v, x, dt, sv, lv, rfl, _⟩ := h
    rfl
  · obtain ⟨d, n, v, x, dt, sv, lv, rfl, D, dv, hw, k⟩ := h
    obtain ⟨dx, a, b, ts, e1, e2, e3, e4, e5, e6⟩ := id D
    refine ⟨_, pss_cons (ps_expr (by exact (pe_methX (pv 0) T.cl mK GK hr bK (fun σ => L2N.passAt (L2N.takes_of rfl rfl rfl rfl) σ) (by exact (pa_cons (pv 1) pa_nil))))) pss_never, ?_⟩
    exact ⟨_, rfl, d, dx, _, rfl, e1, fl_no _ _ _ (by decide +kernel) (by decide +kernel) (by decide +kernel), _, rfl, d, n, v, dt, sv, lv, rfl, D, dv, hw, k⟩
def spNowX (K : PySem.W.Frag) (C CP : Addr) : Sp := fun vs H Q E => ∃ (d : Addr) (n : Int) (v : V) (dt : PyData) (sv : List V) (lv : List (Int × V)), vs = [.ref d, v] ∧ DiskAt C H d n sv lv ∧ Dp K H v dt ∧ wholeB dt (some 0) (some (n - 1)) = false ∧ raisesS CP "plate" H v E
theorem ok_nowX {f fK : Addr} {fd dK : FuncData} (F : Fun K "now" "Disk.now" sNow f fd) (T : DTxt K C) (GK : FnOk P w K mg base (L2N.CX P w) 3 fK dK ["self", "plate"] (spCheckX K C CP)) (mK : Meth K C "check_plate" fK) (bK : Binds K dK ["self", "plate"] []) : FnOk P w K mg base (L2N.CX P w) 4 f fd ["self", "plate"] (spNowX K C CP) := by
  refine F.okN scNow (fun vs H Q E h => ?_) (fun cdv A outer s H vs Q E hr h => ?_)
  · obtain ⟨d, n, v, dt, sv, lv, rfl, _⟩ := h
    rfl
  · obtain ⟨d, n, v, dt, sv, lv, rfl, D, dv, hw, k⟩ := h
    obtain ⟨dx, a, b, ts, e1, e2, e3, e4, e5, e6⟩ := id D
    refine ⟨_, pss_cons (ps_expr (by exact (pe_methX (pv 0) T.cl mK GK hr bK (fun σ => L2N.passAt (L2N.takes_of rfl rfl rfl rfl) σ) (by exact (pa_cons (pv 1) pa_nil))))) pss_never, ?_⟩
    exact ⟨_, rfl, d, dx, _, rfl, e1, fl_no _ _ _ (by decide +kernel) (by decide +kernel) (by decide +kernel), _, rfl, d, n, v, dt, sv, lv, rfl, D, dv, hw, k⟩
def spVersX (K : PySem.W.Frag) (C CP : Addr) : Sp := fun vs H Q E => ∃ (d : Addr) (n : Int) (v : V) (dt : PyData) (sv : List V) (lv : List (Int × V)), vs = [.ref d, v] ∧ DiskAt C H d n sv lv ∧ Dp K H v dt ∧ wholeB dt (some 0) (some (n - 1)) = false ∧ raisesS CP "plate" H v E
theorem ok_versX {f fK : Addr} {fd dK : FuncData} (F : Fun K "versions" "Disk.versions" sVers f fd) (T : DTxt K C) (GK : FnOk P w K mg base (L2N.CX P w) 3 fK dK ["self", "plate"] (spCheckX K C CP)) (mK : Meth K C "check_plate" fK) (bK : Binds K dK ["self", "plate"] []) : FnOk P w K mg base (L2N.CX P w) 4 f fd ["self", "plate"] (spVersX K C CP) := by
  refine F.okN scVers (fun vs H Q E h => ?_) (fun cdv A outer s H vs Q E hr h => ?_)
  · obtain ⟨d, n, v, dt, sv, lv, rfl, _⟩ := h
    rfl
  · obtain ⟨d, n, v, dt, sv, lv, rfl, D, dv, hw, k⟩ := h
    obtain ⟨dx, a, b, ts, e1, e2, e3, e4, e5, e6⟩ := id D
    refine ⟨_, pss_cons (ps_expr (by exact (pe_methX (pv 0) T.cl mK GK hr bK (fun σ => L2N.passAt (L2N.takes_of rfl rfl rfl rfl) σ) (by exact (pa_cons (pv 1) pa_nil))))) pss_never, ?_⟩
    exact ⟨_, rfl, d, dx, _, rfl, e1, fl_no _ _ _ (by decide +kernel) (by decide +kernel) (by decide +kernel), _, rfl, d, n, v, dt, sv, lv, rfl, D, dv, hw, k⟩
/-- check_moment of what is no moment -/
def spCmX (K : PySem.W.Frag) (CM : Addr) : Sp := fun vs H Q E => ∃ (v : V) (dt : PyData) (N : Int), vs = [v, .int N] ∧ Dp K H v dt ∧ wholeB dt (some 0) (some N) = false ∧ raisesS CM "many" H v E
theorem ok_cmX {f fW : Addr} {fd fdW : FuncData} (F : Fun K "check_moment" "check_moment" sCm f fd) (RM : BmTx K mg CM SM fIM) (GW : FnOk P w K mg base CX0 1 fW fdW ["thing", "low", "high"] (spWhole K)) (kW : PySem.W.keepIn K (.ref fW) = true) (gW : mg "is_whole" = some (.ref fW)) (b3 : Binds K fdW ["thing", "low", "high"] []) :
    FnOk P w K mg base (L2N.CX P w) 3 f fd ["moment", "most"] (spCmX K CM) := by
  refine F.okN scCm (fun vs H Q E h => ?_) (fun cdv A outer s H vs Q E hr h => ?_)
  · obtain ⟨v, dt, N, rfl, _⟩ := h
    rfl
  · obtain ⟨v, dt, N, rfl, dv, hw, k⟩ := h
    refine ⟨_, pss_cons (ps_if (pt_not (pt_val (pe_call GW (hr.mono (by decide)) rfl gW kW b3 .nil pass0 (pa_cons (pv 0) (pa_cons pe_int (pa_cons (pv 1) pa_nil)))))) (pss_one (ps_bm rfl RM.T RM.g hr (L2N.takes_of rfl rfl rfl rfl) (pa_cons (pv 0) pa_nil))) pss_nil) pss_never, ?_⟩
    refine ⟨_, rfl, _, rfl, v, dt, some 0, some N, rfl, dv, _, rfl, ?_⟩
    rw [hw]
    exact iteT ⟨_, rfl, _, rfl, fun dd hdd => k _ dd (same_upd hdd) upd_same⟩
/-- disk_after of what is no moment -/
def spDaX (K : PySem.W.Frag) (CM : Addr) : Sp := fun vs H Q E => ∃ (d ta : Addr) (v : V) (dt : PyData) (us : List V), vs = [.ref d, .ref ta, v] ∧ SqT K H ta us ∧ Dp K H v dt ∧ wholeB dt (some 0) (some ((us.length : Nat) : Int)) = false ∧ raisesS CM "many" H v E
theorem ok_daX {f fM : Addr} {fd dM : FuncData} (F : Fun K "disk_after" "disk_after" sDa f fd) (DM : Df P w K mg base (L2N.CX P w) 3 "check_moment" ["moment", "most"] (spCmX K CM) fM dM) (ml : mg "len" = none) : FnOk P w K mg base (L2N.CX P w) 4 f fd ["disk", "trace", "moment"] (spDaX K CM) := by
  refine F.okN scDa (fun vs H Q E h => ?_) (fun cdv A outer s H vs Q E hr h => ?_)
  · obtain ⟨d, ta, v, dt, us, rfl, _⟩ := h
    rfl
  · obtain ⟨d, ta, v, dt, us, rfl, hT, dv, hw, k⟩ := h
    refine ⟨_, pss_cons (ps_expr (pe_call (E := E) DM.G hr rfl DM.g DM.kp DM.b .nil (L2N.passes_call (L2N.takes_of rfl rfl rfl rfl) (fun _ _ _ _ h => h)) (pa_cons (pv 2) (pa_cons (pe_callB call_len_seq (by rfl) ml boot_len (pa_cons (pv 1) pa_nil)) pa_nil)))) pss_never, ?_⟩
    exact ⟨_, rfl, _, rfl, ta, us, rfl, .inr hT, v, dt, _, rfl, dv, hw, k⟩
/-- can_choose of anything -/
def spCanG (K : PySem.W.Frag) (C : Addr) : Sp := fun vs H Q _ => ∃ (d : Addr) (n : Int) (v1 v2 : V) (d1 d2 : PyData) (sv : List V) (lv : List (Int × V)), vs = [.ref d, v1, v2] ∧ DiskAt C H d n sv lv ∧ Dp K H v1 d1 ∧ Dp K H v2 d2 ∧ lv.length ≤ 900 ∧
  ((wholeB d1 (some 0) (some (n - 1)) = false ∧ Q (.bl false) H) ∨ (∃ p : Int, v1 = .int p ∧ 0 ≤ p ∧ p < n ∧ ∀ H', Same H H' → Q (.bl (wholeB d2 (some (loI (lateV lv p).length)) (some (((lateV lv p).length : Nat) : Int)))) H'))
theorem ok_canG {f fW : Addr} {fd fdW : FuncData} (F : Fun K "can_choose" "Disk.can_choose" sCan f fd) (T : DTxt K C) (GW : FnOk P w K mg base CX0 1 fW fdW ["thing", "low", "high"] (spWhole K)) (kW : PySem.W.keepIn K (.ref fW) = true) (gW : mg "is_whole" = some (.ref fW))
    (b3 : Binds K fdW ["thing", "low", "high"] []) (ml : mg "len" = none) : FnOk P w K mg base CX0 2 f fd ["self", "plate", "number"] (spCanG K C) := by
  refine F.ok scCan (fun vs H Q E h => ?_) (fun cdv A outer s H vs Q E hr h => ?_)
  · obtain ⟨d, n, v1, v2, d1, d2, sv, lv, rfl, _⟩ := h
    rfl
  · obtain ⟨d, n, v1, m, dd1, dd2, sv, lv, rfl, D, dv1, dv2, hz, k⟩ := h
    obtain ⟨dx, a, b, ts, e1, e2, e3, e4, e5, e6⟩ := id D
    refine ⟨_, pss_cons (ps_if (pt_not (pt_val (pe_call GW hr rfl gW kW b3 .nil pass0 (pa_cons (pv 1) (pa_cons pe_int (pa_cons (pe_op op_sub (pe_fld (pv 0) rfl) pe_int) pa_nil)))))) (pss_one (ps_ret pe_bl)) pss_nil)
      (pss_cons (ps_set (i := 3) scCan.nd rfl (.inl rfl) (pe_callB call_len_seq (by rfl) ml boot_len (pa_cons
        (pe_lc (own := [("written", 4), ("value", 5)]) (g := gTup K 2 (gCons (gName 4) (gCons (gName 5) gNil))) (te := tVar 5) rfl scCan.nd (pi_tup (pe_fld (pv 0) rfl)) (blkOk_by (N := ["self", "plate", "number", "many_loose", "written", "value"]) (sc := defScope sCan) (by decide +kernel))
          (fun _ _ _ _ _ => pg_tup rfl (pgs_cons (pg_name (i := 4) scCan.nd rfl (.inl rfl)) (pgs_cons (pg_name (i := 5) scCan.nd rfl (.inl rfl)) pgs_nil))) (fun _ _ _ _ _ => pts_one (pt_cmpR op_eq (pv 4) (pv 1) (nomark _)))
          (fun _ _ _ _ _ => pv 5)) pa_nil)))
      (pss_one (ps_ret (pe_call GW hr rfl gW kW b3 .nil pass0 (pa_cons (pv 2) (pa_cons (pe_ifExp (pt_cmpR op_gt (pv 3) pe_int (nomark _)) (pe_un un_neg pe_int) pe_int) (pa_cons (pv 3) pa_nil))))))), ?_⟩
    refine ⟨_, rfl, _, rfl, d, C, dx, _, _, rfl, e1, T.cl, T.nM, fl_many _ _ _, _, _, rfl, rfl, v1, dd1, some 0, some (n - 1), rfl, dv1, _, rfl, ?_⟩
    rcases k with ⟨hw, k⟩ | ⟨p, rfl, h0, h1, k⟩
    · rw [hw]
      exact iteT k
    have hdd : dd1 = .int p := by cases dv1; rfl
    subst hdd
    have e : wholeB (.int p) (some 0) (some (n - 1)) = true := by
      show (decide (0 ≤ p) && decide (p ≤ n - 1)) = true
      rw [decide_eq_true h0, decide_eq_true (by omega)]
      rfl
    rw [e]
    refine iteF ⟨_, rfl, d, C, dx, _, _, rfl, e1, T.cl, T.nL, fl_loose _ _ _, b, rfl, ⟨_, SqT.of e5⟩, fun D1 hD1 => lc_tup (K := K) (a := b) (xs := ts)
      (fun i H' => Same H H' ∧ H' D1 = some (.lst (lateV (lv.take i) p))) ⟨same_upd hD1, upd_same⟩ (fun i H' _ z => SqT.of (z.1 _ _ e5)) ?_ ?_⟩
    · rintro i x H' hi ⟨s1, el⟩
      have hil : i < lv.length := by
        rw [← e6.1]
        exact (List.getElem?_eq_some_iff.mp hi).1
      obtain ⟨c, z1, z2⟩ := e6.2 i _ (List.getElem?_eq_getElem hil)
      have ex : x = .ref c := Option.some.inj (hi.symm.trans z1)
      subst ex
      have em := late_more (p := p) (List.getElem?_eq_getElem hil)
      refine ⟨c, _, rfl, SqT.of (s1 _ _ z2), rfl, _, _, rfl, _, _, rfl, rfl, rfl, _, rfl, _, rfl, rfl, _, rfl, ite2 (fun hc => ?_) (fun hc => ?_)⟩
      · have he : lv[i].1 = p := by
          have := of_decide_eq_true hc
          injection this
        rw [if_pos he] at em
        refine ⟨_, rfl, _, el, ?_, fun q o e => ?_, ?_⟩
        · exact Nat.lt_of_le_of_lt (late_len lv p i) (by rw [sizeLine_eq]; omega)
        · rw [upd_ne (ne_of_none e hD1)]
          exact s1 _ _ e
        · rw [upd_same, em]
      · have he : ¬ lv[i].1 = p := fun z => hc (decide_eq_true (by rw [z]))
        rw [if_neg he, List.append_nil] at em
        exact ⟨s1, by rw [em]; exact el⟩
    · rintro H1 ⟨s1, el⟩
      rw [e6.1, List.take_length] at el
      refine ⟨D1, _, rfl, .inl (SqL.of el), _, rfl, _, rfl, _, _, rfl, rfl, _, rfl, ?_⟩
      have fin : ∀ lo : Int, lo = loI (lateV lv p).length → Q (.bl (wholeB dd2 (some lo) (some ((lateV lv p).length : Nat)))) H1 := fun lo hlo => by
        subst hlo
        exact k H1 s1
      refine ite2 (fun hc => ?_) (fun hc => ?_)
      · have hl : 0 < (lateV lv p).length := by
          have := of_decide_eq_true hc
          omega
        exact ⟨1, rfl, _, rfl, m, dd2, some (-1), some ((lateV lv p).length : Nat), rfl, dp_same s1 _ _ dv2, fin (-1) (by unfold loI; rw [if_pos hl])⟩
      · have hl : ¬ 0 < (lateV lv p).length := fun z => hc (decide_eq_true (by omega))
        exact ⟨_, rfl, m, dd2, some 0, some ((lateV lv p).length : Nat), rfl, dp_same s1 _ _ dv2, fin 0 (by unfold loI; rw [if_neg hl])⟩
/-- a choice that is none -/
def spFallenX (K : PySem.W.Frag) (C CH : Addr) : Sp := fun vs H Q E => ∃ (d ch : Addr) (n p : Int) (v : V) (dt : PyData) (sv : List V) (lv : List (Int × V)), vs = [.ref d, .ref ch] ∧ DiskAt C H d n sv lv ∧ H ch = some (.dK [(Sum.inl p, v)]) ∧ Dp K (Tp H) v dt ∧ lv.length ≤ 900 ∧
  (wholeB (.int p) (some 0) (some (n - 1)) = false ∨ (0 ≤ p ∧ p < n ∧ wholeB dt (some (loI (lateV lv p).length)) (some (((lateV lv p).length : Nat) : Int)) = false)) ∧
  ∀ H' dd, Fr [ch] H H' → H' dd = some (.xd [(("plate" : Str), V.int p)]) → E (.ref CH) (some dd) H'
theorem ok_fallenX {f fC : Addr} {fd fdC : FuncData} (F : Fun K "fallen" "Disk.fallen" sFallen f fd) (T : DTxt K C) (RH : BhTx K mg CH SH fIH) (GC : FnOk P w K mg base CX0 2 fC fdC ["self", "plate", "number"] (spCanG K C)) (mC : Meth K C "can_choose" fC) (bC : Binds K fdC ["self", "plate", "number"] []) : FnOk P w K mg base (L2N.CX P w) 4 f fd ["self", "choice"] (spFallenX K C CH) := by
  refine F.okN scFallen (fun vs H Q E h => ?_) (fun cdv A outer s H vs Q E hr h => ?_)
  · obtain ⟨d, ch, n, p, v, dt, sv, lv, rfl, _⟩ := h
    rfl
  · obtain ⟨d, ch, n, p, v, dt, sv, lv, rfl, D, hch, dv, hz, hw, k⟩ := h
    obtain ⟨dx, a, b, ts, e1, e2, e3, e4, e5, e6⟩ := id D
    have hr2 : Room 2 _ := hr.mono (by decide)
    refine ⟨_, pss_cons (ps_lock (ps_for (passes_of rfl) rfl (pi_keys (pv 1)) (pg_name (i := 2) scFallen.nd rfl (.inl rfl))
        (pss_one (ps_if (pt_not (pt_val (pe_meth (pv 0) T.cl mC GC hr2 bC .nil pass0 (pa_cons (pv 2) (pa_cons (pe_dget (hu_of hr) (pv 1) (pv 2) (fun _ _ => rfl)) pa_nil))))) (pss_one (ps_bh rfl RH.T RH.g hr (L2N.takes_of rfl rfl rfl rfl) (pa_cons (pv 2) pa_nil))) pss_nil)))) pss_never, ?_⟩
    have ndc : d ≠ ch := fun z => by rw [z, hch] at e1; cases e1
    refine ⟨ch, _, hch, trivial, fun od => ?_⟩
    have f0 : Fr [ch] H (upd H ch (.frz od (.dK [(Sum.inl p, v)]))) := .put (by simp) (fun u e => by rw [hch] at e; cases e; rfl)
    refine ⟨_, rfl, ch, od, rfl, .inl ⟨_, upd_same, for_it (walk_keys (d := ch) (o := od) (kvs := [(Sum.inl p, v)])) (fun i σ H' => i = 0 ∧ ∃ y2, σ = [some (.ref d), some (.ref ch), y2, none, none] ∧ Same (upd H ch (.frz od (.dK [(Sum.inl p, v)]))) H')
      ⟨rfl, none, rfl, Same.refl _⟩ (fun i σ H' _ z => by obtain ⟨_, _, _, z⟩ := z; exact z _ _ upd_same) ?_ ?_⟩⟩
    · rintro i x σ H1 H2 hi ⟨rfl, y2, rfl, s⟩ ⟨rfl, k0, v0, hkv, rfl⟩
      have e0 : ((Sum.inl p : Key), v) = (k0, v0) := Option.some.inj hkv
      cases e0
      have D2 := (D.fr f0 (by simp [ndc])).same s
      have fS := f0.trans (Fr.of (cs := [ch]) s)
      have dv2 := dp_same tp_le _ _ (dp_same fS.tp _ _ dv)
      refine ⟨_, rfl, d, dx, _, rfl, s _ _ (f0.at e1 (by simp [ndc])), fl_no _ _ _ (by decide +kernel) (by decide +kernel) (by decide +kernel), _, rfl, _, rfl, _, rfl, ch, _, rfl, .inl ⟨_, _, .inr ⟨od, s _ _ upd_same⟩, rfl, (valV_pos rfl).symm⟩, d, n, .int p, v, .int p, dt, sv, lv, rfl, D2, .int p, dv2, hz, ?_⟩
      rcases hw with hw | ⟨p0, p1, hw⟩
      · exact .inl ⟨hw, _, rfl, iteT ⟨_, rfl, _, rfl, fun dd hdd => k _ dd (fS.trans (.new hdd)) upd_same⟩⟩
      · refine .inr ⟨p, rfl, p0, p1, fun H3 s3 => ⟨_, rfl, ?_⟩⟩
        rw [hw]
        exact iteT ⟨_, rfl, _, rfl, fun dd hdd => k _ dd ((fS.trans (.of s3)).trans (.new hdd)) upd_same⟩
    · rintro σ H1 ⟨h0, _⟩
      cases h0
end
end Pf

set_option Elab.async false
set_option linter.all false
set_option maxRecDepth 100000
set_option maxHeartbeats 4000000
/-! # try .. except A as n: .. except B as n: .. : several handlers, all of one name -/
namespace LQ
open PySem PySem.Spec PyProof.Rows L2
/-- the handlers and what their suites do -/
inductive AsOk (X : Cx) (n : Str) : List ExceptHandler → List (Value × (Addr → Value → Option Addr → TS)) → Prop
  | nil : AsOk X n [] []
  | cons {x : Str} {c : Value} {ts : Addr → Value → Option Addr → TS} {b : Stmt} {more : List Stmt} {q1 q2 : Pos} {hs : List ExceptHandler} {l : List (Value × (Addr → Value → Option Addr → TS))} (hc : Names X x c)
      (suite : ∀ (a : Addr) (oe : Obj) (cls : Value) (d : Option Addr) (pn : List (Addr × Obj)), Zc cls d oe → (∃ vs, oe.data = .fields vs) → PSs (X.suite a ((a, oe) :: pn)) (b :: more) (ts a cls d)) (r : AsOk X n hs l) :
      AsOk X n (.ExceptHandler (some (.Name x q1)) (some n) (b :: more) q2 :: hs) ((c, ts) :: l)
/-- the wish of the body: the first class that fits takes the error -/
def wEach (K : PySem.W.Frag) (i : Nat) (Wout : WX) (D : Ends) : List (Value × (Addr → Value → Option Addr → TS)) → WX
  | [] => Wout
  | (c, ts) :: l => wAs K c i ts (wEach K i Wout D l) D
section
variable {X : Cx} {n : Str} {i : Nat} {body : List Stmt} {h0 : ExceptHandler} {more : List ExceptHandler} {l : List (Value × (Addr → Value → Option Addr → TS))} {pos : Pos} {tb : WX → TS} {Wout : WX}
theorem ps_try_each (hs : X.stack = X.env :: X.outer) (hf : X.env.frame = some X.env.locals) (hN : X.N.Nodup) (hi : X.N[i]? = some n) (hln : X.env.kindOf n = some .local) (tk : Takes X Wout)
    (hb : ∀ (W : WX) (pn : List (Addr × Obj)) (xe : Value → Shared → Prop), Takes (X.tr pn xe) W → PassesOwn (model X.prog X.w) X.A X.env xe → PSs (X.tr pn xe) body (tb W)) (hh : AsOk X n (h0 :: more) l) :
    PS X (.Try body (h0 :: more) [] [] pos) (fun D σ H => tb (wEach X.K i Wout D l) D σ H) := by
  refine ⟨fun pins s σ H D I h => ?_⟩
  have ok := I.ok
  have row : X.A.frames = some (X.env :: X.outer) := by rw [ok.frames, hs]
  have loc : Loc X.env.scope n := .inl hln
  refine wpAny_Try_except (wpAny_mono ((hb (wEach X.K i Wout D l) (X.pn ++ pins) (fun e s1 => wpAny (model X.prog X.w) X.A (noteFrame e X.env) (fun _ s2 => wpAny (model X.prog X.w) X.A (setFlight e none)
    (fun _ s3 => wpAny (model X.prog X.w) X.A (handleBy e X.env (h0 :: more)) (SP X pins D) X.xe s3) X.xe s2) X.xe s1) (fun u s1 wish => ?_) PassesOwn.looking).run [] s σ H D (I.toTry _) h) (fun fl s1 q => ?_) fun e s1 q => q)
  · obtain ⟨a, B, sI, pins2, τ, G, cls, d, rfl, J2, nb, up, sky, free, os, bare, w⟩ := wish
    have J : Inv X pins τ G sI := J2.ofTry ok
    have sky2 : Sky B (X.env :: X.outer) a (Zc cls d) X.env.locals s1.heap := by rw [← hs]; exact sky
    show wpAny (model X.prog X.w) X.A (noteFrame (.ref a) X.env) _ _ _
    refine Sky.land Zc.steady row hf sky2 fun h3 fl3 up3 => ?_
    have J3 : Inv X pins τ G { s1 with heap := h3 } := J.landed nb fl3.1 (up.trans up3) os bare
    obtain ⟨o3, v3, e3, z3, d3⟩ := fl3.there
    have off : a ∉ frs (X.env :: X.outer) := fun hm => by
      obtain ⟨_, o, e, no⟩ := fl3.2.2.1.mem hm
      rw [e3] at e
      cases e
      exact no _ d3
    have nL : a ≠ X.env.locals := fun z => off (List.mem_filterMap.mpr ⟨X.env, List.mem_cons_self, by rw [hf, z]⟩)
    have nF : a ∉ X.fs := fun hm => by
      obtain ⟨e, he, q⟩ := List.mem_filterMap.mp hm
      exact off (List.mem_filterMap.mpr ⟨e, List.mem_cons_of_mem _ he, q⟩)
    have S3 := J3.suite e3 d3 free nL nF
    have own : PySem.W.Looks (model X.prog X.w) h3 (typeOf (.ref a)) cls := fun A Q E s k q => wpAny_typeOf_ref (k _ _ e3) (by rw [z3.1]; exact q)
    suffices all : ∀ (hds : List ExceptHandler) (l2 : List (Value × (Addr → Value → Option Addr → TS))), AsOk X n hds l2 → wEach X.K i Wout D l2 cls d τ G → wpAny (model X.prog X.w) X.A (handleBy (.ref a) X.env hds) (SP X pins D) X.xe { s1 with heap := h3 } from all _ _ hh w
    intro hds l2 okh
    induction okh with
    | nil =>
      intro w0
      refine wpAny_handleBy_nil ?_
      obtain ⟨_, _, _, oe, vs, T, _, _, he, _, hd, h1, _⟩ := id fl3
      have up4 : wpAny (model X.prog X.w) X.A (setFlight (.ref a) X.env.frame) (fun _ s4 => wpAny (model X.prog X.w) X.A (throw (.ref a) : Sem Flow) (SP X pins D) X.xe s4) X.xe { s1 with heap := h3 } := by
        rw [hf]
        exact HandSPX.setFlight_upZ fl3 fun h4 in4 k4 => wpAny_throw (tk _ _ ⟨a, B, sI, pins, τ, G, cls, d, rfl, J, nb, (up.trans up3).trans k4, .inr (.inr (by rw [hs]; exact in4)), free, os, bare, w0⟩)
      unfold PySem.passOn
      refine wpAny_bind (wpAny_field he hd h1 ?_)
      rw [if_neg (show ¬ ((Value.ref T == Value.none) = true) from by simp)]
      first | exact wpAny_bind (wpAny_pure (wpAny_bind up4)) | exact wpAny_bind up4
    | @cons x c ts b more2 q1 q2 hs2 l3 hc suite r ih =>
      intro w0
      obtain ⟨fits, hx, yes, no⟩ := w0
      have looked := PySem.W.exm_one (M := model X.prog X.w) J3.kIn own hx
      refine wpAny_handleBy_cons (codeAny_handlers_test ?_) (by intro z; cases z)
      have named : ∀ {Q E : Value → Shared → Prop}, Q c { s1 with heap := h3 } → wpAny (model X.prog X.w) (X.A.mark (some (.ref a))) (eval (.Name x q1) X.env) Q E { s1 with heap := h3 } := fun {Q E} q => by
        obtain ⟨g1, g2, g3 | ⟨g3, g4, g5⟩⟩ := hc
        · exact ld_glob (X := X.suite a ((a, o3) :: (X.pn ++ pins))) S3 g1 g3 q g2
        · exact ld_blt (X := X.suite a ((a, o3) :: (X.pn ++ pins))) S3 g1 g3 g4 q g5 g2
      refine named (looked.here ?_)
      cases fits with
      | false => exact ih (no rfl)
      | true =>
        refine codeAny_handlers_suite_as (HandSPX.lands_againZ fl3 fun h4 fl4 up4 => ?_)
        have J4 : Inv X pins τ G { s1 with heap := h4 } := J.landed nb fl4.1 ((up.trans up3).trans up4) os bare
        obtain ⟨o4, v4, e4, z4, d4⟩ := fl4.there
        refine store_ok (X := X.suite a ((a, o4) :: (X.pn ++ pins))) (v := .ref a) (J4.suite e4 d4 free nL nF) hN hi loc rfl (fun s5 S5 => ?_) (.inr hln)
        refine wpAny_mono ((suite a o4 cls d (X.pn ++ pins) z4 ⟨_, d4⟩).run [] s5 _ G _ S5 (yes rfl a free)) (fun fl s6 q => ?_) fun _ _ z => z.elim
        have out : ∀ {τ6 : L2.St} {G6 : Hp} {Q : Shared → Prop}, Inv (X.suite a ((a, o4) :: (X.pn ++ pins))) [] τ6 G6 s6 → (∀ s7, Inv X pins (τ6.set i none) G6 s7 → Q s7) →
            wpAny (model X.prog X.w) X.A (do bindName X.env n .none; unbindBehindTheSuite X.env n q2) (fun _ s7 => Q s7) X.xe s6 := fun S6 k => gone_ok (S6.unsuite ok) hN hi hln k
        cases fl with
        | next => obtain ⟨_, _, S6, k⟩ := q; exact out S6 fun s7 J7 => ⟨_, _, J7, k⟩
        | brk => obtain ⟨_, _, S6, k⟩ := q; exact out S6 fun s7 J7 => ⟨_, _, J7, k⟩
        | cont => obtain ⟨_, _, S6, k⟩ := q; exact out S6 fun s7 J7 => ⟨_, _, J7, k⟩
        | ret v => obtain ⟨_, _, _, S6, r6, k⟩ := q; exact out S6 fun s7 J7 => ⟨_, _, _, J7, r6, k⟩
  · cases fl with
    | next => obtain ⟨_, _, J2, k⟩ := q; exact wpAny_execs_nil ⟨_, _, J2.ofTry ok, k⟩
    | brk => obtain ⟨_, _, J2, k⟩ := q; exact ⟨_, _, J2.ofTry ok, k⟩
    | cont => obtain ⟨_, _, J2, k⟩ := q; exact ⟨_, _, J2.ofTry ok, k⟩
    | ret v => obtain ⟨_, _, _, J2, r2, k⟩ := q; exact ⟨_, _, _, J2.ofTry ok, r2, k⟩
end
end LQ

set_option Elab.async false
set_option linter.all false
set_option maxRecDepth 100000
set_option maxHeartbeats 4000000
namespace L2
open PySem PySem.Spec PyProof.Rows
/-- what a call lets out, told with less -/
theorem cx_n {P : Program} {w : World} {outer : List Env} {H : Hp} {s : Shared} {E : XK} {u : Value} {s' : Shared} (h : L2N.CX P w outer H s E u s') : L2.CX P w outer H s E u s' := by
  obtain ⟨a, B, H', cls, d, e1, ⟨f1, f2, f3, f4⟩, r⟩ := h
  obtain ⟨oe, vs, T, oT, ts, he, hz, hr⟩ := f4
  exact ⟨a, B, H', cls, d, e1, ⟨f1, f2, f3, oe, vs, T, oT, ts, he, L2N.Zn.zc hz, hr⟩, r⟩
theorem FnOk.n2 {P : Program} {w : World} {K : PySem.W.Frag} {mg : Str → Option Value} {base : Heap} {k : Nat} {f : Addr} {fd : FuncData} {ps : List Str} {sp : Sp} (F : FnOk P w K mg base (L2N.CX P w) k f fd ps sp) : FnOk P w K mg base (L2.CX P w) k f fd ps sp := by
  refine ⟨F.len, fun A outer s H args us vs Q E hr he hb hv h => ?_⟩
  refine codeAny_mono (F.run A outer s H args us vs Q E hr he hb hv h) fun r s' q => ?_
  cases r with
  | error e => exact cx_n q
  | ok fl => cases fl <;> exact q
theorem takes_len {X : Cx} {W : WX} (tk : Takes X W) : Takes X (fun cls d σ H => σ.length = X.N.length → W cls d σ H) := fun u s' ⟨a, B, sI, pins, σ, H, cls, d, e, I, nb, up, sky, na, os, ag, w⟩ =>
  tk u s' ⟨a, B, sI, pins, σ, H, cls, d, e, I, nb, up, sky, na, os, ag, w I.len⟩
end L2
namespace Pf
open PySem PySem.Spec PyProof.Rows L2
abbrev NFa : List Str := ["work", "fault"]
theorem scFa : FnScope NFa ["work"] (defScope sFault) := ⟨rfl, rfl, rfl, by decide +kernel, rfl, by decide +kernel, by decide +kernel⟩
/-- an error as a pair: which, and what it tells -/
def FltW (CH CP CM : Addr) (Q : VK) : XK := fun cls d H' => ∃ dd v, d = some dd ∧
  ((cls = .ref CH ∧ H' dd = some (.xd [(("plate" : Str), v)]) ∧ ∀ p, H' p = none → Q (.ref p) (upd H' p (.tup [.str "choice", v]))) ∨
   (cls = .ref CP ∧ H' dd = some (.xd [(("plate" : Str), v)]) ∧ ∀ p, H' p = none → Q (.ref p) (upd H' p (.tup [.str "plate", v]))) ∨
   (cls = .ref CM ∧ H' dd = some (.xd [(("many" : Str), v)]) ∧ ∀ p, H' p = none → Q (.ref p) (upd H' p (.tup [.str "moment", v]))))
def TFl (CH CP CM : Addr) : (XK → Hp → VK → Prop) → Hp → VK → Prop := fun tl H Q => tl (FltW CH CP CM Q) H (fun _ H' => Q .non H')
theorem fault_gives {X : Cx} {CP SP fIP CH SH fIH CM SM fIM g : Addr} {cdg : Value} {q : Str} (RP : BpTx X.K X.mg CP SP fIP) (RH : BhTx X.K X.mg CH SH fIH) (RM : BmTx X.K X.mg CM SM fIM) (XP : XfC X.K CP) (XH : XfC X.K CH) (XM : XfC X.K CM)
    (mHH : PySem.W.exmOne X.K (.ref CH) (.ref CH) = some true) (mPH : PySem.W.exmOne X.K (.ref CP) (.ref CH) = some false) (mPP : PySem.W.exmOne X.K (.ref CP) (.ref CP) = some true) (mMH : PySem.W.exmOne X.K (.ref CM) (.ref CH) = some false) (mMP : PySem.W.exmOne X.K (.ref CM) (.ref CP) = some false) (mMM : PySem.W.exmOne X.K (.ref CM) (.ref CM) = some true) :
    LamX.GivesTo X NFa "_law_fault" (defScope sFault) g cdg (defBody sFault) "work" q (TFl CH CP CM) := by
  intro f c' s H Q tl act hc h
  refine ⟨_, pss_cons (LQ.ps_try_each (X := (cxOf CX0 X.prog X.w X.K X.mg X.base NFa "_law_fault" (defScope sFault) g cdg X.A X.stack s H E0).nox) (i := 1) (n := "fault")
      (tb := fun W D σ H => ∃ Ech : XK, (∀ cls d σ' H', Ech cls d H' → σ'.length = 2 → W cls d σ' H') ∧ σ[0]? = some (some (.ref f)) ∧ H c' = some (LamX.CodeO c' q) ∧ tl Ech H (fun _ H' => D.nx σ H'))
      (Wout := fun _ _ _ _ => False) (l := [(Value.ref CH, fun a cls d => tRet (tTup (tCons (tC (.str "choice")) (tCons (tXf a cls d CH "plate" (tVar 1)) tNil)))), (Value.ref CP, fun a cls d => tRet (tTup (tCons (tC (.str "plate")) (tCons (tXf a cls d CP "plate" (tVar 1)) tNil)))), (Value.ref CM, fun a cls d => tRet (tTup (tCons (tC (.str "moment")) (tCons (tXf a cls d CM "many" (tVar 1)) tNil))))])
      rfl rfl scFa.nd rfl rfl LamX.takes0
      (fun W pn xe tk _ => ?_)
      (.cons ⟨rfl, by decide, .inl RH.g⟩ (fun ax oe cls d pn hz hf => pss_one (ps_ret (pe_tup (pa_cons pe_str (pa_cons (pe_xf XH RH.T.noW hz hf (pv 1)) pa_nil)))))
      (.cons ⟨rfl, by decide, .inl RP.g⟩ (fun ax oe cls d pn hz hf => pss_one (ps_ret (pe_tup (pa_cons pe_str (pa_cons (pe_xf XP RP.T.noW hz hf (pv 1)) pa_nil)))))
      (.cons ⟨rfl, by decide, .inl RM.g⟩ (fun ax oe cls d pn hz hf => pss_one (ps_ret (pe_tup (pa_cons pe_str (pa_cons (pe_xf XM RM.T.noW hz hf (pv 1)) pa_nil))))) .nil))))
    (pss_one (ps_ret pe_non)), ?_⟩
  · refine ⟨fun pins s' σ H' D I h' => ?_⟩
    obtain ⟨Ech, hW, h1, h2, h3⟩ := h'
    exact (pss_one (ps_expr (act _ pn xe Ech _ _ (takes_len tk) hW))).run pins s' σ H' D I ⟨h1, h2, h3⟩
  · refine ⟨FltW CH CP CM Q, fun cls d σ' H' hE hl => ?_, rfl, hc, h⟩
    obtain ⟨dd, v, rfl, hE⟩ := hE
    obtain ⟨x, y, rfl⟩ : ∃ x y, σ' = [x, y] := by
      match σ', hl with
      | [x, y], _ => exact ⟨x, y, rfl⟩
    rcases hE with ⟨rfl, e, k⟩ | ⟨rfl, e, k⟩ | ⟨rfl, e, k⟩
    · exact ⟨true, mHH, fun _ ax hax => ⟨_, rfl, rfl, rfl, dd, _, _, rfl, e, rfl, (by show 2 ≤ sizeLine; decide), fun p hp => k p hp⟩, fun z => Bool.noConfusion z⟩
    · exact ⟨false, mPH, fun z => Bool.noConfusion z, fun _ => ⟨true, mPP, fun _ ax hax => ⟨_, rfl, rfl, rfl, dd, _, _, rfl, e, rfl, (by show 2 ≤ sizeLine; decide), fun p hp => k p hp⟩, fun z => Bool.noConfusion z⟩⟩
    · exact ⟨false, mMH, fun z => Bool.noConfusion z, fun _ => ⟨false, mMP, fun z => Bool.noConfusion z, fun _ => ⟨true, mMM, fun _ ax hax => ⟨_, rfl, rfl, rfl, dd, _, _, rfl, e, rfl, (by show 2 ≤ sizeLine; decide), fun p hp => k p hp⟩, fun z => Bool.noConfusion z⟩⟩⟩
end Pf

set_option Elab.async false
set_option linter.all false
set_option maxRecDepth 100000
set_option maxHeartbeats 4000000
/-! sets of tuples that are keys of any kind -/
namespace US
open PySem PySem.Spec PyProof.Rows L2
variable {P : Program} {w : World} {κ : Type} [DecidableEq κ]
/-- what a kind of keys must tell besides -/
structure Fit (kd : HeapKind P w κ) : Prop where
  st : kd.Stays
  cls : ∀ {A : Around} {E : Value → Shared → Prop} {s : Shared} {k : κ} {b : Addr} {Q : Bool → Shared → Prop}, kd.is s.heap k b → Q false s → wpAny (model P w) A (ofAClassStatement 8 (.ref b)) Q E s
  byv : ∀ {A : Around} {E : Value → Shared → Prop} {s : Shared} {k : κ} {b : Addr} {Q : Bool → Shared → Prop}, kd.is s.heap k b → (∀ c, Q c s) → wpAny (model P w) A (hashByValue 8 (.ref b)) Q E s
variable {kd : HeapKind P w κ} {A : Around} {E : Value → Shared → Prop} {s : Shared} {a : Addr} {L : List (Addr × κ)} {es : Array (Int × Value)} {ep : Nat} {t : SetTable}
theorem Fit.seen (FT : Fit kd) {k : κ} {b : Addr} {Q : Bool → Shared → Prop} (hk : kd.is s.heap k b) {ys : List Value} (hy : ∀ y ∈ ys, ∃ k' c, y = Value.ref c ∧ kd.is s.heap k' c) (q : Q false s) : wpAny (model P w) A (searchCouldBeSeen (.ref b) ys) Q E s := by
  unfold searchCouldBeSeen
  refine wpAny_bind ?_
  refine wpAny_forIn_list _ (fun more (r : Option Bool × PUnit) s' => r.1 = none ∧ s' = s ∧ ∀ y ∈ more, y ∈ ys) _ ?_ ?_ _ _ ⟨rfl, rfl, fun y m => m⟩
  · rintro v more r s' ⟨_, rfl, hall⟩
    obtain ⟨k', c, rfl, hc⟩ := hy v (hall v List.mem_cons_self)
    have hall' : ∀ y ∈ more, y ∈ ys := fun y m => hall y (List.mem_cons_of_mem _ m)
    dsimp only
    by_cases z : (b == c || (carriedByValue (.ref b) && carriedByValue (.ref c))) = true
    · exact wp_if_pos z (wpAny_pure ⟨rfl, rfl, hall'⟩)
    · refine wp_if_neg z (wpAny_bind (kd.quiet hk ?_))
      simp only [Bool.not_true, Bool.false_eq_true, if_false]
      refine wpAny_bind (kd.quiet hc ?_)
      simp only [Bool.not_true, Bool.false_eq_true, if_false]
      refine wpAny_bind (FT.cls hk ?_)
      simp only [Bool.false_eq_true, if_false]
      refine wpAny_bind (FT.cls hc ?_)
      simp only [Bool.false_eq_true, if_false]
      exact wpAny_pure ⟨rfl, rfl, hall'⟩
  · rintro ⟨r1, r2⟩ s' ⟨e, rfl, _⟩
    have e' : r1 = none := e
    subst e'
    exact wpAny_pure q
def lines (kd : HeapKind P w κ) (L : List (Addr × κ)) : List (Int × Value) := L.map fun p => (kd.hash p.2, Value.ref p.1)
theorem lines_len (L : List (Addr × κ)) : (lines kd L).length = L.length := List.length_map _
/-- at a stands a set of the keys L -/
structure At (kd : HeapKind P w κ) (h : Heap) (a : Addr) (L : List (Addr × κ)) (es : Array (Int × Value)) (ep : Nat) (t : SetTable) : Prop where
  obj : ∃ o, h.get? a = some o ∧ o.ExactSet ∧ o.data = .set es ep t
  row : es.toList = lines kd L
  tab : TabOk t (L.map fun p => kd.hash p.2)
  one : (L.map (·.2)).Nodup
  key : ∀ p ∈ L, kd.is h p.2 p.1
  led : w.params.followText "set-order" = true ∨ t.led = true
  wide : L.length * 5 < t.mask * 3
  few : L.length < 64
theorem size_of (r : es.toList = lines kd L) : es.size = L.length := by
  have := congrArg List.length r
  rwa [Array.length_toList, lines_len] at this
theorem fits_of (sz : t.place.size = L.length) (dm : t.dummies = #[]) (r : es.toList = lines kd L) (hm : L.length ≤ t.mask) : t.fits es.size = true := by
  have h2 := size_of r
  unfold SetTable.fits SetTable.fill
  rw [dm, Bool.and_eq_true, beq_iff_eq, decide_eq_true_eq]
  exact ⟨by omega, by show t.place.size + 0 ≤ t.mask; omega⟩
theorem At.plc (R : At kd s.heap a L es ep t) : t.place.size = L.length := by
  have := R.tab.sz
  rwa [List.length_map] at this
theorem At.fits (R : At kd s.heap a L es ep t) : t.fits es.size = true := fits_of R.plc R.tab.dm R.row (by have := R.wide; omega)
theorem At.ent (R : At kd s.heap a L es ep t) {i : Nat} {p : Addr × κ} (h : L[i]? = some p) : es[i]? = some (kd.hash p.2, Value.ref p.1) := by
  rw [← Array.getElem?_toList, R.row, lines, List.getElem?_map, h]
  rfl
theorem At.gw (R : At kd s.heap a L es ep t) : ¬ t.gaveWay = true := fun z => by
  unfold SetTable.gaveWay at z
  rw [mask_odd R.tab.mok] at z
  exact absurd z (by decide)
theorem no_dummy (m : Nat) : ∀ (n : Nat) (p : SetTable.Probe), p.dummy = none → (nth m p n).dummy = none
  | 0, _, h => h
  | n + 1, p, h => no_dummy m n (adv m p) (by unfold adv; split <;> exact h)
/-- the way of a search, from one of its steps on -/
abbrev pr (m : Nat) (hv : Int) (c : Nat) : SetTable.Probe := nth m (runAt m (SetTable.bits hv % (m + 1)) (SetTable.bits hv)) c
theorem pr_add (m : Nat) (hv : Int) (c q : Nat) : nth m (pr m hv c) q = pr m hv (c + q) := (nth_add m c _ q).symm
theorem At.seek (FT : Fit kd) (R : At kd s.heap a L es ep t) {x : Addr} {k : κ} (hx : kd.is s.heap k x) (hu : kd.room A) {hv : Int} (ev : kd.hash k = hv) {N : Nat} (nb : N < 10 * SetTable.turns t.mask) (nf : way t.mask hv N ∉ t.place.toList) (nt : ∀ c, c < N → way t.mask hv c ∈ t.place.toList)
    {Q : SetFound → Shared → Prop} (yes : k ∈ L.map (·.2) → Q (.there none) s) (no : k ∉ L.map (·.2) → Q (.free (way t.mask hv N) false) s) : ∀ (f c : Nat) (st : Option SetTable.Probe), st.getD (t.probeStart hv) = pr t.mask hv c → c ≤ N → N - c < f →
      (∀ (i : Nat) p, L[i]? = some p → p.2 = k → ∃ d, c ≤ d ∧ d < N ∧ t.place.toList[i]? = some (way t.mask hv d)) → wpAny (model P w) A (setSearchFrom a (.ref x) hv true f st) Q E s
  | 0, _, _, _, _, z, _ => absurd z (Nat.not_lt_zero _)
  | f + 1, c, st, est, hc, hf, ahead => by
    obtain ⟨o, go, gx, gd⟩ := R.obj
    have hsh : ∀ (i : Nat) (p : Addr × κ), L[i]? = some p → ((es[i]?.map (·.1)).getD 0 : Int) = kd.hash p.2 := fun i p hp => by simp only [R.ent hp, Option.map_some, Option.getD_some]
    have ej : ∀ q, (nth t.mask (pr t.mask hv c) q).j = way t.mask hv (c + q) := fun q => congrArg SetTable.Probe.j (pr_add t.mask hv c q)
    rw [setSearchFrom_succ]
    refine wpAny_bind (wpAny_setState_of go gd R.fits ?_)
    dsimp only
    refine wp_if_neg R.gw ?_
    have found := go_spec t R.tab.ris R.tab.dm (fun i => (es[i]?.map (·.1)).getD 0) hv (10 * SetTable.turns t.mask) (N - c) (pr t.mask hv c) (no_dummy _ c _ rfl) (by omega) (fun q hq => by rw [ej]; exact nt _ (by omega)) (by rw [ej, Nat.add_sub_cancel' hc]; exact nf)
    rw [est]
    rcases found with ⟨q, i, hq, hi, _, pass, ask⟩ | ⟨pass, ask⟩
    · rw [ej] at hi
      have hil : i < L.length := by
        have h1 := (List.getElem?_eq_some_iff.mp hi).1
        rw [Array.length_toList, R.plc] at h1
        exact h1
      obtain ⟨p, hp⟩ : ∃ p, L[i]? = some p := ⟨_, List.getElem?_eq_getElem hil⟩
      have hpm := List.mem_of_getElem? hp
      have ask' : t.probe (fun i => (es[i]?.map (·.1)).getD 0) hv (pr t.mask hv c) = some (.candidate (way t.mask hv (c + q)) i (pr t.mask hv (c + (q + 1)))) := by rw [← ej, ← pr_add]; exact ask
      have slot1 : t.slot (way t.mask hv (c + q)) = .live i := slot_live R.tab.ris hi
      have after : wpAny (model P w) A (searchRest a (.ref x) hv true f es t (way t.mask hv (c + q)) i (pr t.mask hv (c + (q + 1)))) Q E s := by
        unfold searchRest
        rw [R.ent hp]
        dsimp only
        refine wpAny_bind (wpAny_holding (kd.eqBool hu (R.key p hpm) hx (wpAny_bind (wpAny_setState_of go gd R.fits ?_))))
        dsimp only
        by_cases same : p.2 = k
        · exact wp_if_pos (by simp [same]) (wpAny_pure (yes (List.mem_map.mpr ⟨p, hpm, same⟩)))
        · refine wp_if_neg (by simp [same]) ?_
          rw [sameMem]
          dsimp only
          simp only [if_true, slot1, R.ent hp]
          refine wpAny_bind (wpAny_isSame_ref_self (wpAny_bind (wpAny_pure ?_)))
          simp only [if_true]
          refine wp_if_neg (by simp [same]) (At.seek FT R hx hu ev nb nf nt yes no f (c + (q + 1)) _ rfl (by omega) (by omega) fun i2 p2 h2 k2 => ?_)
          obtain ⟨d, d1, d2, d3⟩ := ahead i2 p2 h2 k2
          refine ⟨d, ?_, d2, d3⟩
          rcases Nat.lt_trichotomy d (c + q) with z | z | z
          · exact absurd ((hsh i2 p2 h2).trans (by rw [k2, ev])) (pass (d - c) i2 (by omega) (by rw [ej, Nat.add_sub_cancel' d1]; exact d3))
          · rw [z] at d3
            have s2 := slot_live R.tab.ris d3
            rw [slot1] at s2
            injection s2 with s2
            rw [← s2, hp] at h2
            exact absurd ((congrArg Prod.snd (Option.some.inj h2)).trans k2) same
          · exact z
      rw [ask']
      dsimp only
      by_cases hl : t.led = true
      · exact wp_if_neg (by simp [hl]) after
      · refine wp_if_pos (by simp [hl]) (wpAny_bind (FT.seen hx (fun y hy => ?_) (wp_if_neg (by decide) after)))
        obtain ⟨e, he, rfl⟩ := List.mem_map.mp hy
        have he1 : e ∈ es.toList := by simpa using (show e ∈ es ∧ e.1 = hv by simpa using he).1
        rw [R.row] at he1
        obtain ⟨p2, m2, rfl⟩ := List.mem_map.mp he1
        exact ⟨p2.2, p2.1, rfl, R.key p2 m2⟩
    · have ask' : t.probe (fun i => (es[i]?.map (·.1)).getD 0) hv (pr t.mask hv c) = some (.empty (way t.mask hv N) none) := by
        have e2 := ej (N - c)
        rw [Nat.add_sub_cancel' hc] at e2
        rw [← e2]
        exact ask
      rw [ask']
      dsimp only
      refine wpAny_pure (no fun hm => ?_)
      obtain ⟨p2, m2, k2⟩ := List.mem_map.mp hm
      obtain ⟨i2, h2⟩ := List.getElem?_of_mem m2
      obtain ⟨d, d1, d2, d3⟩ := ahead i2 p2 h2 k2
      exact pass (d - c) i2 (by omega) (by rw [ej, Nat.add_sub_cancel' d1]; exact d3) ((hsh i2 p2 h2).trans (by rw [k2, ev]))
/-- the search that adding asks for -/
theorem At.find (FT : Fit kd) (R : At kd s.heap a L es ep t) {x : Addr} {k : κ} (hx : kd.is s.heap k x) (hu : kd.room A) {hv : Int} (ev : kd.hash k = hv) {Q : SetFound → Shared → Prop} (yes : k ∈ L.map (·.2) → Q (.there none) s)
    (no : ∀ N, k ∉ L.map (·.2) → way t.mask hv N ∉ t.place.toList → (∀ c, c < N → way t.mask hv c ∈ t.place.toList) → Q (.free (way t.mask hv N) false) s) : wpAny (model P w) A (setSearch a (.ref x) hv true) Q E s := by
  have hw := R.wide
  obtain ⟨N, n1, n2, n3⟩ := R.tab.first (by rw [List.length_map]; omega) hv
  have hturn : 10 * SetTable.turns t.mask ≤ 1420 := by
    unfold SetTable.turns
    rcases R.tab.mok with e | e | e <;> omega
  unfold setSearch
  refine At.seek FT R hx hu ev n1 n2 n3 yes (fun z => no N z n2 n3) 100000 0 none rfl (Nat.zero_le _) (by omega) fun i p hp hk => ?_
  have g1 : (L.map fun p => kd.hash p.2)[i]? = some hv := by rw [List.getElem?_map, hp, ← ev, ← hk]; rfl
  have hil : i < t.place.toList.length := by
    rw [Array.length_toList, R.plc]
    exact (List.getElem?_eq_some_iff.mp hp).1
  obtain ⟨d, d1, d2⟩ := R.tab.before n2 g1 (List.getElem?_eq_getElem hil)
  exact ⟨d, Nat.zero_le _, d1, by rw [d2]; exact List.getElem?_eq_getElem hil⟩
end US

set_option Elab.async false
set_option linter.all false
set_option maxRecDepth 100000
set_option maxHeartbeats 4000000
namespace US
open PySem PySem.Spec PyProof.Rows L2
variable {P : Program} {w : World} {κ : Type} [DecidableEq κ] {kd : HeapKind P w κ} {A : Around} {E : Value → Shared → Prop} {s : Shared} {a : Addr} {L : List (Addr × κ)} {es : Array (Int × Value)} {ep : Nat} {t : SetTable}
/-- a key isn't the set -/
theorem Fit.move (FT : Fit kd) {h h' : Heap} {k : κ} {b : Addr} {o : Obj} (hk : kd.is h k b) (go : h.get? a = some o) (gd : o.data = .set es ep t) (sb : Heap.SameBut a h h') : kd.is h' k b :=
  FT.st.stays (fun c o' vs n e d => (sb.2 c fun z => by
    rw [z, go] at e
    rw [← Option.some.inj e, gd] at d
    exact nomatch d).trans e) hk
theorem ord_one (hr : es.toList = lines kd L) : ∀ l : List Nat, (∀ i ∈ l, i < L.length) → l.filterMap (fun i => es[i]?) = lines kd (l.filterMap fun i => L[i]?) ∧ ((l.filterMap fun i => L[i]?).map fun p => kd.hash p.2) = l.map fun i => (es.map (·.1)).getD i 0
  | [], _ => ⟨rfl, rfl⟩
  | i :: l, h => by
    obtain ⟨p, hp⟩ : ∃ p, L[i]? = some p := ⟨_, List.getElem?_eq_getElem (h i List.mem_cons_self)⟩
    obtain ⟨e1, e2⟩ := ord_one hr l fun j m => h j (List.mem_cons_of_mem _ m)
    have he : es[i]? = some (kd.hash p.2, Value.ref p.1) := by
      rw [← Array.getElem?_toList, hr, lines, List.getElem?_map, hp]
      rfl
    have hx : (es.map (·.1)).getD i 0 = kd.hash p.2 := by
      have : (es.map (·.1))[i]? = some (kd.hash p.2) := by rw [Array.getElem?_map, he]; rfl
      simp [Array.getD_eq_getD_getElem?, this]
    rw [List.filterMap_cons_some he, List.filterMap_cons_some hp, e1]
    exact ⟨rfl, by rw [List.map_cons, List.map_cons, e2, hx]⟩
theorem range_all (L : List (Addr × κ)) : ∀ n, n ≤ L.length → (List.range n).filterMap (fun i => L[i]?) = L.take n
  | 0, _ => rfl
  | n + 1, h => by
    rw [List.range_succ, List.filterMap_append, range_all L n (by omega), List.take_succ]
    congr 1
theorem ord_all (hr : es.toList = lines kd L) {order : Array Nat} (pm : order.toList.Perm (List.range L.length)) : ∃ M : List (Addr × κ), (order.filterMap (es[·]?)).toList = lines kd M ∧ M.Perm L ∧ (M.map fun p => kd.hash p.2) = order.toList.map fun i => (es.map (·.1)).getD i 0 := by
  obtain ⟨e1, e2⟩ := ord_one hr order.toList fun i m => List.mem_range.mp (pm.mem_iff.mp m)
  have e3 := pm.filterMap fun i => L[i]?
  rw [range_all L _ (Nat.le_refl _), List.take_length] at e3
  exact ⟨_, by rw [Array.toList_filterMap]; exact e1, e3, e2⟩
theorem relay (FT : Fit kd) {o : Obj} (go : s.heap.get? a = some o) (gx : o.ExactSet) (gd : o.data = .set es ep t) (row : es.toList = lines kd L) (sz : t.place.size = L.length) (dm : t.dummies = #[]) (hm : L.length ≤ t.mask) (one : (L.map (·.2)).Nodup) (key : ∀ p ∈ L, kd.is s.heap p.2 p.1)
    (led : w.params.followText "set-order" = true ∨ t.led = true) (few : L.length < 64) {n M : Nat} (h1 : SetTable.sizeAbove n - 1 = M) (h2 : MaskOk M) (h3 : SetTable.sizeAbove n ≤ 128) (h4 : L.length * 5 < M * 3) {Q : Unit → Shared → Prop}
    (q : ∀ h' L' es' ep' t', Heap.SameBut a s.heap h' → At kd h' a L' es' ep' t' → L'.Perm L → Q () { s with heap := h' }) : wpAny (model P w) A (setRelay a n) Q E s := by
  have hsl := size_of row
  obtain ⟨t', order, e, pm, T, em, el, _, _⟩ := relaid_ok t (hs := es.map (·.1)) (wanted := n) h1 h2 (by rw [Array.size_map, hsl]; omega)
  rw [Array.size_map, hsl] at pm
  obtain ⟨M', r1, r2, r3⟩ := ord_all row pm
  rw [← r3] at T
  have hs2 := (size_of r1).trans r2.length_eq
  rw [setRelay_eq]
  refine wpAny_bind (wpAny_setState_of go gd (fits_of sz dm row hm) ?_)
  dsimp only
  refine wp_if_neg (by rw [sizeLine_eq]; omega) ?_
  rw [e]
  dsimp only
  refine wpAny_bind (wp_if_neg (by rw [hs2, hsl]; simp) (wpAny_pure ?_))
  dsimp only
  refine wpAny_storeSet_of go gd ?_ (by rw [hs2, sizeLine_eq]; omega)
  have sb : Heap.SameBut a s.heap (s.heap.update a (Obj.putSet (order.filterMap (es[·]?)) t')) := Heap.SameBut.update ..
  refine q _ M' _ (ep + 1) t' sb ⟨⟨_, store_at go gd, ⟨gx.1, gx.2.1, gx.2.2⟩, rfl⟩, r1, T, (r2.map (·.2)).nodup_iff.mpr one, fun p m => FT.move (key p (r2.mem_iff.mp m)) go gd sb, by rw [el]; exact led, ?_, by rw [r2.length_eq]; exact few⟩ r2
  rw [r2.length_eq, em]
  exact h4
/-- a key put into the set -/
theorem At.add (FT : Fit kd) (R : At kd s.heap a L es ep t) {x : Addr} {k : κ} (hx : kd.is s.heap k x) (hu : kd.room A) (few : L.length + 1 < 64) {hv : Int} (ev : kd.hash k = hv) {Q : Bool → Shared → Prop}
    (q : ∀ b h' L' es' ep' t', Heap.SameBut a s.heap h' → At kd h' a L' es' ep' t' → (k ∈ L.map (·.2) → L' = L) → (k ∉ L.map (·.2) → L'.Perm ((x, k) :: L)) → Q b { s with heap := h' }) : wpAny (model P w) A (setAddHashed a (.ref x) hv) Q E s := by
  obtain ⟨o, go, gx, gd⟩ := R.obj
  have hsl := size_of R.row
  have hw := R.wide
  unfold setAddHashed
  refine wpAny_holding ?_
  rw [show (100000 : Nat) = 99999 + 1 from rfl, setAddHashedIn_succ]
  refine wpAny_bind (wpAny_setState_of go gd R.fits ?_)
  dsimp only
  refine wp_if_neg (by simp [byScan, Value.scannable]) ?_
  refine wpAny_bind (At.find FT R hx hu ev (fun m => ?_) fun N nm nf nt => ?_)
  · exact wpAny_pure (q false s.heap L es ep t (Heap.SameBut.refl a s.heap) R (fun _ => rfl) fun z => absurd m z)
  dsimp only
  refine wpAny_bind (wpAny_setState_of go gd R.fits ?_)
  dsimp only
  obtain ⟨q1, q2, q3, q4, q5, _, _, _, q9⟩ := R.tab.put nf nt
  generalize t.put (way t.mask hv N) = pt at q1 q3 q4 q5 q9 ⊢
  obtain ⟨t1, c⟩ := pt
  dsimp only at q1 q3 q4 q5 q9 ⊢
  subst q1
  have pm : (L.take (SetTable.below t.place (way t.mask hv N)) ++ (x, k) :: L.drop (SetTable.below t.place (way t.mask hv N))).Perm ((x, k) :: L) := by
    have := List.perm_middle (a := (x, k)) (l₁ := L.take (SetTable.below t.place (way t.mask hv N))) (l₂ := L.drop (SetTable.below t.place (way t.mask hv N)))
    rwa [List.take_append_drop] at this
  have row1 : (SetTable.insertAt es (SetTable.below t.place (way t.mask hv N)) (hv, Value.ref x)).toList = lines kd (L.take (SetTable.below t.place (way t.mask hv N)) ++ (x, k) :: L.drop (SetTable.below t.place (way t.mask hv N))) := by
    rw [SetTable.toList_insertAt, R.row]
    unfold lines
    rw [List.map_append, List.map_cons, List.map_take, List.map_drop, ev]
  have tab1 : TabOk t1 ((L.take (SetTable.below t.place (way t.mask hv N)) ++ (x, k) :: L.drop (SetTable.below t.place (way t.mask hv N))).map fun p => kd.hash p.2) := by
    rw [List.map_append, List.map_cons, List.map_take, List.map_drop, ev]
    exact q3
  generalize SetTable.insertAt es (SetTable.below t.place (way t.mask hv N)) (hv, Value.ref x) = es1 at row1 ⊢
  generalize L.take (SetTable.below t.place (way t.mask hv N)) ++ (x, k) :: L.drop (SetTable.below t.place (way t.mask hv N)) = L1 at pm row1 tab1
  have len1 : L1.length = L.length + 1 := pm.length_eq
  have hes := (size_of row1).trans len1
  have one1 : (L1.map (·.2)).Nodup := (pm.map (·.2)).nodup_iff.mpr (List.nodup_cons.mpr ⟨nm, R.one⟩)
  rw [List.length_map] at q9
  -- behind the question whether its hash hangs on its value alone
  have rest : ∀ t2 : SetTable, TabOk t2 (L1.map fun p => kd.hash p.2) → t2.mask = t.mask → t2.led = t.led → t2.tooFull = t1.tooFull → wpAny (model P w) A (do
      storeSet a es1 t2
      if (!false && t2.tooFull) = true then setRelay a (SetTable.grown (es.size + 1))
      return true) Q E s := fun t2 T2 m2 l2 f2 => by
    have led2 : w.params.followText "set-order" = true ∨ t2.led = true := by rw [l2]; exact R.led
    refine wpAny_bind (wpAny_storeSet_of go gd ?_ (by rw [hes, sizeLine_eq]; have := R.few; omega))
    have sb : Heap.SameBut a s.heap (s.heap.update a (Obj.putSet es1 t2)) := Heap.SameBut.update ..
    have g1 := store_at (es' := es1) (t' := t2) go gd
    generalize s.heap.update a (Obj.putSet es1 t2) = h1 at sb g1 ⊢
    have key1 : ∀ p ∈ L1, kd.is h1 p.2 p.1 := fun p m => by
      rcases List.mem_cons.mp (pm.mem_iff.mp m) with e | m'
      · rw [e]; exact FT.move hx go gd sb
      · exact FT.move (R.key p m') go gd sb
    have sz2 : t2.place.size = L1.length := by have := T2.sz; rwa [List.length_map] at this
    by_cases hf : t2.tooFull = true
    · have full : (L.length + 1) * 5 ≥ t.mask * 3 := by
        rw [f2] at hf
        unfold SetTable.tooFull at hf
        rw [decide_eq_true_eq, q9, q4] at hf
        exact hf
      have two : (t.mask = 7 ∧ L.length = 4) ∨ (t.mask = 31 ∧ L.length = 18) := by
        rcases R.tab.mok with e | e | e <;> rw [e] at full hw
        · exact .inl ⟨e, by omega⟩
        · exact .inr ⟨e, by omega⟩
        · omega
      have grow : ∀ M, SetTable.sizeAbove (SetTable.grown (L.length + 1)) - 1 = M → MaskOk M → SetTable.sizeAbove (SetTable.grown (L.length + 1)) ≤ 128 → (L.length + 1) * 5 < M * 3 → wpAny (model P w) A (setRelay a (SetTable.grown (es.size + 1))) (fun _ s' => wpAny (model P w) A (pure true) Q E s') E { s with heap := h1 } := fun M m1 m3 m4 m5 => by
        rw [hsl]
        refine relay (s := { s with heap := h1 }) FT g1 ⟨gx.1, gx.2.1, gx.2.2⟩ rfl row1 sz2 T2.dm (by rw [len1, m2]; rcases two with ⟨e, e2⟩ | ⟨e, e2⟩ <;> omega) one1 key1 led2 (by omega) m1 m3 m4 (by rw [len1]; exact m5) fun h2 L2 es2 ep2 t3 sb2 R2 pm2 => ?_
        exact wpAny_pure (q true h2 L2 es2 ep2 t3 (sb.trans sb2) R2 (fun z => absurd z nm) fun _ => pm2.trans pm)
      refine wp_if_pos (by simp [hf]) (wpAny_bind ?_)
      rcases two with ⟨_, e2⟩ | ⟨_, e2⟩
      · exact grow 31 (by rw [e2, size_20]) (.inr (.inl rfl)) (by rw [e2, size_20]; decide) (by omega)
      · exact grow 127 (by rw [e2, size_76]) (.inr (.inr rfl)) (by rw [e2, size_76]; decide) (by omega)
    · refine wp_if_neg (by simp [hf]) (wpAny_pure (q true h1 L1 es1 (ep + 1) t2 sb ⟨⟨_, g1, ⟨gx.1, gx.2.1, gx.2.2⟩, rfl⟩, row1, T2, one1, key1, led2, ?_, by omega⟩ (fun z => absurd z nm) fun _ => pm))
      rw [f2] at hf
      unfold SetTable.tooFull at hf
      rw [decide_eq_true_eq, q9, q4] at hf
      rw [len1, m2]
      omega
  by_cases hp : t1.plain = true
  · refine wp_if_pos hp (wpAny_bind (FT.byv hx fun c => ?_))
    cases c with
    | true => exact rest t1 tab1 q4 q5 rfl
    | false => exact rest { t1 with plain := false } ⟨tab1.ris, tab1.dm, tab1.sz, tab1.mok, tab1.bd, tab1.reach⟩ q4 q5 rfl
  · exact wp_if_neg hp (wpAny_bind (wpAny_pure (rest t1 tab1 q4 q5 rfl)))
end US

set_option Elab.async false
set_option linter.all false
set_option maxRecDepth 100000
set_option maxHeartbeats 4000000
namespace US
open PySem PySem.Spec PyProof.Rows L2
variable {P : Program} {w : World} {κ : Type} [DecidableEq κ] {kd : HeapKind P w κ} {A : Around} {E : Value → Shared → Prop} {s : Shared}
/-- what of the first items the set holds -/
structure Fill (ks : List (Addr × κ)) (i : Nat) (L : List (Addr × κ)) : Prop where
  sub : ∀ p ∈ L, p ∈ ks.take i
  all : ∀ p ∈ ks.take i, p.2 ∈ L.map (·.2)
  len : L.length ≤ i
theorem Fill.step {ks L L' : List (Addr × κ)} {i : Nat} {x : Addr × κ} (g : Fill ks i L) (h : ks[i]? = some x) (c1 : x.2 ∈ L.map (·.2) → L' = L) (c2 : x.2 ∉ L.map (·.2) → L'.Perm (x :: L)) : Fill ks (i + 1) L' := by
  have hT : ks.take (i + 1) = ks.take i ++ [x] := by rw [List.take_succ, h]; rfl
  by_cases c : x.2 ∈ L.map (·.2)
  · rw [c1 c]
    refine ⟨fun p m => by rw [hT]; exact List.mem_append_left _ (g.sub p m), fun p m => ?_, Nat.le_succ_of_le g.len⟩
    rw [hT] at m
    rcases List.mem_append.mp m with z | z
    · exact g.all p z
    · rw [List.mem_singleton.mp z]; exact c
  · have pm := c2 c
    refine ⟨fun p m => ?_, fun p m => ?_, by rw [pm.length_eq, List.length_cons]; exact Nat.succ_le_succ g.len⟩
    · rw [hT]
      rcases List.mem_cons.mp (pm.mem_iff.mp m) with z | z
      · rw [z]; exact List.mem_append_right _ (List.mem_singleton.mpr rfl)
      · exact List.mem_append_left _ (g.sub p z)
    · rw [(pm.map (·.2)).mem_iff, List.map_cons]
      rw [hT] at m
      rcases List.mem_append.mp m with z | z
      · exact List.mem_cons_of_mem _ (g.all p z)
      · rw [List.mem_singleton.mp z]; exact List.mem_cons_self
theorem Fit.stay (FT : Fit kd) {h h' : Heap} {k : κ} {b : Addr} (x : kd.is h k b) (hk : ∀ c o, h.get? c = some o → h'.get? c = some o) : kd.is h' k b := FT.st.stays (fun c o _ _ e _ => hk c o e) x
theorem At.stay {h h' : Heap} {a : Addr} {L : List (Addr × κ)} {es : Array (Int × Value)} {ep : Nat} {t : SetTable} (R : At kd h a L es ep t) (ha : ∀ o, h.get? a = some o → h'.get? a = some o) (hk : ∀ p ∈ L, kd.is h' p.2 p.1) : At kd h' a L es ep t :=
  let ⟨o, go, r⟩ := R.obj
  ⟨⟨o, ha o go, r⟩, R.row, R.tab, R.one, hk, R.led, R.wide, R.few⟩
abbrev newSet (w : World) : Obj := { cls := .type "set", dict := none, data := .set #[] 0 (.fresh 0 0 (!w.params.followText "set-order")) }
theorem At.none {h : Heap} {a : Addr} (go : h.get? a = some (newSet w)) : At kd h a [] #[] 0 (.fresh 0 0 (!w.params.followText "set-order")) := by
  refine ⟨⟨_, go, ⟨rfl, rfl, rfl⟩, rfl⟩, rfl, ⟨List.Pairwise.nil, rfl, rfl, .inl rfl, fun x m => absurd m List.not_mem_nil, fun i h j e => by simp at e⟩, List.nodup_nil, fun p m => absurd m List.not_mem_nil, ?_, by show 0 * 5 < 7 * 3; decide, by show 0 < 64; decide⟩
  show _ ∨ (!w.params.followText "set-order") = true
  cases w.params.followText "set-order" <;> simp
/-- the loop that puts all items into the set -/
theorem fill {I : Addr} {fp wr : List Addr} {G : Array GenState → Array GenState → Prop} {n : Nat} {Pv : Nat → Value → Prop} {St : Nat → Shared → Prop} {R : Result → Shared → Prop} (FT : Fit kd) (W : WalksS P w A.in1 I fp wr G n Pv St) (S : Addr) (nS : S ∉ fp) (ks : List (Addr × κ)) (en : n = ks.length) (few : ks.length < 64)
    (val : ∀ i v, Pv i v → ∃ p, ks[i]? = some p ∧ v = .ref p.1) (h0 : Heap) (hk : ∀ p ∈ ks, kd.is h0 p.2 p.1) (fS : h0.get? S = none) (fw : ∀ b ∈ wr, h0.get? b = none) (hu : kd.room A.in1) :
    ∀ (k i : Nat) (s : Shared), n - i = k → i ≤ n → St i s → (∀ b o, h0.get? b = some o → s.heap.get? b = some o) → (∃ L es ep t, At kd s.heap S L es ep t ∧ Fill ks i L) →
      (∀ s' L es ep t, Moved (S :: wr) G s s' → At kd s'.heap S L es ep t → Fill ks n L → (∀ b o, h0.get? b = some o → s'.heap.get? b = some o) → R (.ok (.ret .none)) s') → codeAny (model P w) A (.builtin "set.update.loop" ⟨[.ref S, .ref I], []⟩) R s := by
  have nSw : S ∉ wr := fun z => nS (W.sub _ z)
  have wide : ∀ b ∈ wr, b ∈ S :: wr := fun b m => List.mem_cons_of_mem _ m
  have still : ∀ {s s' : Shared}, Moved wr G s s' → (∀ b o, h0.get? b = some o → s.heap.get? b = some o) → ∀ b o, h0.get? b = some o → s'.heap.get? b = some o := fun mv q b o e => mv.heap b o (fun m => by rw [fw b m] at e; cases e) (q b o e)
  intro k
  induction k with
  | zero =>
    intro i s ek hi st q ⟨L, es, ep, t, hS, g⟩ fin
    have ei : i = n := by omega
    subst ei
    refine codeAny_builtin F.entry_set_update_loop ?_
    rw [Around.under_plainId F.plain_set_update_loop _]
    show wpAny _ A.in1 (pyNext (.ref I) >>= _) _ _ _
    refine wpAny_bind (W.done s _ _ st fun s' mv => wpAny_pure (fin s' L es ep t (mv.mono wide) (hS.stay (fun o e => mv.heap S o nSw e) fun p m => FT.stay (hk p (List.mem_of_mem_take (g.sub p m))) (still mv q)) g (still mv q)))
  | succ k ih =>
    intro i s ek hi st q ⟨L, es, ep, t, hS, g⟩ fin
    have hin : i < n := by omega
    refine codeAny_builtin F.entry_set_update_loop ?_
    rw [Around.under_plainId F.plain_set_update_loop _]
    show wpAny _ A.in1 (pyNext (.ref I) >>= _) _ _ _
    refine wpAny_bind (W.item i s _ _ hin st fun v s' hv st' mv => ?_)
    obtain ⟨p, hp, rfl⟩ := val i v hv
    have q' := still mv q
    have hS' : At kd s'.heap S L es ep t := hS.stay (fun o e => mv.heap S o nSw e) fun z m => FT.stay (hk z (List.mem_of_mem_take (g.sub z m))) q'
    have hx : kd.is s'.heap p.2 p.1 := FT.stay (hk p (List.mem_of_getElem? hp)) q'
    show wpAny _ A.in1 (holding [Value.ref p.1] (setAdd S (.ref p.1)) >>= _) _ _ _
    refine wpAny_bind (wpAny_holding ?_)
    unfold setAdd
    refine wpAny_holding (wpAny_bind (kd.pyHash hu hx (At.add (s := { s' with toks := s'.toks + kd.draws p.2 }) FT hS' hx hu (by have := g.len; omega) rfl fun b h' L' es' ep' t' sb hS2 c1 c2 => ?_)))
    have q2 : ∀ b o, h0.get? b = some o → h'.get? b = some o := fun b o e => (sb.2 b fun z => by rw [z, fS] at e; cases e).trans (q' b o e)
    refine wpAny_pure ⟨plainId_quiet F.plain_set_update_loop _, ih (i + 1) _ (by omega) hin (W.frame _ s' _ _ st' (Nat.le_add_right _ _) fun b m o e => ?_) q2 ⟨L', es', ep', t', hS2, g.step hp c1 c2⟩ fun s3 L3 es3 ep3 t3 mv3 hS3 g3 q3 => ?_⟩
    · rw [sb.2 b fun z => nS (z ▸ m)]
      exact e
    · refine fin s3 L3 es3 ep3 t3 (Moved.trans W.gtrans ((mv.mono wide).then_heap (Nat.le_add_right _ _) fun b o m e => ?_) mv3) hS3 g3 q3
      rw [sb.2 b fun z => m (z ▸ List.mem_cons_self)]
      exact e
end US

set_option Elab.async false
set_option linter.all false
set_option maxRecDepth 100000
set_option maxHeartbeats 4000000
namespace US
open PySem PySem.Spec PyProof.Rows L2
variable {P : Program} {w : World} {κ : Type} [DecidableEq κ] {kd : HeapKind P w κ} {A : Around} {E : Value → Shared → Prop} {s : Shared}
/-- set(x): the new object, then what its __init__ does -/
theorem call_set1 {x : Value} {Q : Value → Shared → Prop}
    (init : wpAny (model P w) A.in1.in1 (Builtin.«set.__init__» ⟨[.ref s.heap.objs.size, x], []⟩)
      (fun fin s' => match fin with | .done f => wants (fun r s₂ => r = .none ∧ Q (.ref s.heap.objs.size) s₂) E (.ok f) s' | .again c' => c'.quiet = true ∧ codeAny (model P w) A.in1 c' (wants (fun r s₂ => r = .none ∧ Q (.ref s.heap.objs.size) s₂) E) s')
      (fun e s' => wants (fun r s₂ => r = .none ∧ Q (.ref s.heap.objs.size) s₂) E (.error e) s') { s with heap := s.heap.push (newSet w) }) : wpAny (model P w) A (call (.type "set") [x]) Q E s := by
  obtain ⟨⟨c0, tl0, m1⟩, m2, m3, m4, m5⟩ : _ ∧ _ ∧ _ ∧ _ ∧ _ := ⟨F.called_set.mro, F.called_set.made, F.called_set.sub, F.called_set.notType, F.called_set.canCreate⟩
  refine wpAny_call (codeAny_of_tree (show wpAny _ _ (callAny (.type "set") _) _ _ _ from wpAny_pure ⟨Code.quiet_builtin _ (by decide +kernel), codeAny_builtin F.entry_type_call ?_⟩))
  rw [Around.under_plain (weight_type_call_type "set" [x] []) rfl]
  have m6 := F.typeCall_set_1 x
  repeat (any_goals (first | assumption | wp_step))

  refine codeAny_mono (code_set_led1 x (E := E) (Q₁ := fun o s₁ => o = .ref s.heap.objs.size ∧ s₁ = { s with heap := s.heap.push (newSet w) }) ⟨rfl, rfl⟩) fun r s₁ hr => ?_
  match r, hr with
  | .error e, hr => exact hr
  | .ok (.ret o), hr =>
    obtain ⟨rfl, rfl⟩ := hr
    have ty : Shared.TypeIs { s with heap := s.heap.push (newSet w) } (.ref s.heap.objs.size) "set" := ⟨_, Heap.get?_push_size _ rfl, rfl⟩
    obtain ⟨i1, i2⟩ : _ ∧ _ := ⟨F.called_set.init.lookup, F.called_set.init.bind (.ref s.heap.objs.size)⟩
    repeat (any_goals (first | assumption | wp_step))

    refine codeAny_mono (codeAny_call_builtin F.called_set.init.plain F.entry_set_init (check_set_init_1 ty init)) fun r₂ s₂ hr₂ => ?_
    match r₂, hr₂ with
    | .error e, hr₂ => exact hr₂
    | .ok (.ret r), hr₂ =>
      obtain ⟨rfl, q⟩ := hr₂
      repeat (any_goals (first | assumption | wp_step))
    | .ok .next, hr₂ => exact hr₂.elim
    | .ok .brk, hr₂ => exact hr₂.elim
    | .ok .cont, hr₂ => exact hr₂.elim
  | .ok .next, hr => exact hr.elim
  | .ok .brk, hr => exact hr.elim
  | .ok .cont, hr => exact hr.elim
/-- set(xs), xs a list of keys -/
theorem call_setU (FT : Fit kd) {l : Addr} {its : Array Value} (ks : List (Addr × κ)) {Q : Value → Shared → Prop} (hh : A.handled = none) (hl : s.heap.IsList l its) (ei : its.toList = ks.map fun p => Value.ref p.1) (hk : ∀ p ∈ ks, kd.is s.heap p.2 p.1) (few : ks.length < 64) (hu : kd.room A.in1.in1.in1)
    (q : ∀ (h' : Heap) (tk : Nat) L es ep t, At kd h' s.heap.objs.size L es ep t → Fill ks ks.length L → (∀ b o, s.heap.get? b = some o → h'.get? b = some o) → Q (.ref s.heap.objs.size) { s with heap := h', toks := tk }) : wpAny (model P w) A (call (.type "set") [.ref l]) Q E s := by
  have sz : its.size = ks.length := by
    have := congrArg List.length ei
    rwa [Array.length_toList, List.length_map] at this
  refine call_set1 ?_
  obtain ⟨⟨oc, od, oda, osl⟩, gl, e1, nl, e2⟩ := id hl
  simp only at e1 e2
  subst e1 e2
  have gl2 : (s.heap.push (newSet w)).get? l = some { cls := .type "list", dict := od, data := .seq its nl, slots := osl } := Heap.get?_push_of_some _ gl
  have l2 : (s.heap.push (newSet w)).IsList l its := ⟨_, gl2, rfl, nl, rfl⟩
  obtain ⟨f1, f2⟩ : _ ∧ _ := ⟨F.sub_list_set, F.sub_list_frozenset⟩
  have f3 : (Value.type "list" == Value.type "dict") = false := by decide
  unfold Builtin.«set.__init__» noKeywords Builtin.Frozenset.updateFrom
  generalize ePI : pyIter = PI
  wp_walk
  subst ePI
  refine wpAny_pyIter_list l2 (wpAny_bind (wpAny_runValue ?_))
  have lt := Heap.lt_size gl
  have z1 : (s.heap.push (newSet w)).objs.size = s.heap.objs.size + 1 := Heap.size_push ..
  have nI : l ≠ (s.heap.push (newSet w)).objs.size := by rw [z1]; exact Nat.ne_of_lt (Nat.lt_succ_of_lt lt)
  have nS : s.heap.objs.size ∉ [(s.heap.push (newSet w)).objs.size, l] := fun m => by
    rcases List.mem_cons.mp m with z | z
    · rw [z1] at z; omega
    · exact Nat.ne_of_gt lt (List.mem_singleton.mp z)
  have val : ∀ (i : Nat) (v : Value), its[i]? = some v → ∃ p, ks[i]? = some p ∧ v = .ref p.1 := fun i v hv => by
    rw [← Array.getElem?_toList, ei, List.getElem?_map] at hv
    cases e : ks[i]? with
    | none => rw [e] at hv; cases hv
    | some p => rw [e] at hv; exact ⟨p, rfl, (Option.some.inj hv).symm⟩
  have free : ∀ b, s.heap.objs.size ≤ b → s.heap.get? b = none := fun b hb => by
    cases e : s.heap.get? b with
    | none => rfl
    | some o => exact absurd (Nat.lt_of_lt_of_le (Heap.lt_size e) hb) (Nat.lt_irrefl _)
  refine fill FT ((Walks.list (by simp [hh]) _ l nI its).toS) s.heap.objs.size nS ks sz few val s.heap hk (free _ (Nat.le_refl _)) (fun b m => free b (by rw [List.mem_singleton.mp m, z1]; omega)) hu (its.size - 0) 0 _ (by omega) (Nat.zero_le _)
    ⟨⟨_, Heap.get?_push_size _ rfl, rfl, rfl⟩, l2.push _⟩ (fun b o e => Heap.get?_push_of_some _ (Heap.get?_push_of_some _ e)) ⟨[], #[], 0, _, At.none (Heap.get?_push_of_some _ (Heap.get?_push_size _ rfl)), fun p m => absurd m List.not_mem_nil, fun p m => by simp at m, Nat.le_refl _⟩ fun s' L es ep t mv hS g keep => ?_
  obtain ⟨h', g2, d', tk', os'⟩ := s'
  obtain rfl : g2 = s.gens := mv.gens
  obtain rfl : d' = s.drawn := mv.drawn
  obtain rfl : os' = s.os := mv.os
  rw [sz] at g
  exact wpAny_pure (wpAny_pure ⟨rfl, q h' tk' L es ep t hS g keep⟩)
end US

set_option Elab.async false
set_option linter.all false
set_option maxRecDepth 100000
set_option maxHeartbeats 4000000
namespace US
open PySem PySem.Spec PyProof.Rows L2
variable {P : Program} {w : World}
mutual
theorem cls_key : ∀ (k : NestedKey) (v : Value) (n : Nat) (s : Shared), NestedIs s.heap k v → k.depth ≤ n → ∀ (A : Around) (E : Value → Shared → Prop) (Q : Bool → Shared → Prop), Q false s → wpAny (model P w) A (ofAClassStatement n v) Q E s
  | .none, _, n, s, x, _ => fun A E Q q => by
    cases x
    have e : ofAClassStatement n Value.none = pure false := by cases n <;> rfl
    rw [e]
    exact wpAny_pure q
  | .num i, _, n, s, x, _ => fun A E Q q => by
    cases x with
    | @bool b _ _ =>
      have e : ofAClassStatement n (Value.bool b) = pure false := by cases n <;> rfl
      rw [e]
      exact wpAny_pure q
    | int _ t =>
      have e : ofAClassStatement n (Value.int i t) = pure false := by cases n <;> rfl
      rw [e]
      exact wpAny_pure q
  | .text y, _, n, s, x, _ => fun A E Q q => by
    cases x with
    | text _ t =>
      have e : ofAClassStatement n (Value.str y t) = pure false := by cases n <;> rfl
      rw [e]
      exact wpAny_pure q
  | .tup ks, _, n, s, x, hn => fun A E Q q => by
    cases x with
    | @tup a o its m _ hg hc hd hk =>
      simp only [NestedKey.depth] at hn
      cases n with
      | zero => omega
      | succ n =>
        have ih := cls_keys ks _ n s hk (by omega)
        have ty : s.TypeIs (.ref a) "tuple" := ⟨o, hg, hc⟩
        unfold ofAClassStatement
        refine wpAny_bind (wpAny_typeOf ty ?_)
        dsimp only
        simp only [show (("tuple" : String) == "tuple") = true by decide, if_true]
        refine wpAny_bind (wpAny_pure ?_)
        simp only [Bool.not_true, Bool.false_eq_true, if_false]
        show wpAny _ _ (seqItems? (.ref a) >>= _) _ _ _
        refine wpAny_bind (wpAny_seqItems hg hd ?_)
        dsimp only
        refine wpAny_bind ?_
        show wpAny _ _ (forIn its _ _) _ _ _
        rw [← Array.forIn_toList]
        refine wpAny_forIn_list _ (fun more (r : Option Bool × PUnit) s' => r.1 = none ∧ s' = s ∧ ∀ v ∈ more, v ∈ its.toList) _ ?_ ?_ _ _ ⟨rfl, rfl, fun v m => m⟩
        · rintro v more r s' ⟨_, rfl, hall⟩
          refine wpAny_bind (ih v (hall v List.mem_cons_self) _ _ _ ?_)
          simp only [Bool.false_eq_true, if_false]
          exact wpAny_pure ⟨rfl, rfl, fun u m => hall u (List.mem_cons_of_mem _ m)⟩
        · rintro ⟨r1, r2⟩ s' ⟨e, rfl, _⟩
          have e' : r1 = none := e
          subst e'
          exact wpAny_pure q
theorem cls_keys : ∀ (ks : List NestedKey) (vs : List Value) (n : Nat) (s : Shared), NestedAll s.heap ks vs → NestedKey.depthAll ks ≤ n → ∀ v ∈ vs, ∀ (A : Around) (E : Value → Shared → Prop) (Q : Bool → Shared → Prop), Q false s → wpAny (model P w) A (ofAClassStatement n v) Q E s
  | [], _, n, s, x, _, v, hv => by cases x; cases hv
  | k :: ks, _, n, s, x, hn, v, hv => by
    cases x with
    | cons x1 x2 =>
      simp only [NestedKey.depthAll] at hn
      rcases List.mem_cons.mp hv with e | hv
      · rw [e]; exact cls_key k _ n s x1 (by omega)
      · exact cls_keys ks _ n s x2 (by omega) v hv
end
mutual
theorem byv_key : ∀ (k : NestedKey) (v : Value) (n : Nat) (s : Shared), NestedIs s.heap k v → k.depth ≤ n → ∀ (A : Around) (E : Value → Shared → Prop) (Q : Bool → Shared → Prop), (∀ c, Q c s) → wpAny (model P w) A (hashByValue n v) Q E s
  | .none, _, n, s, x, _ => fun A E Q q => by
    cases x
    have e : hashByValue n Value.none = pure true := by cases n <;> rfl
    rw [e]
    exact wpAny_pure (q _)
  | .num i, _, n, s, x, _ => fun A E Q q => by
    cases x with
    | @bool b _ _ =>
      have e : hashByValue n (Value.bool b) = pure true := by cases n <;> rfl
      rw [e]
      exact wpAny_pure (q _)
    | int _ t =>
      have e : hashByValue n (Value.int i t) = pure true := by cases n <;> rfl
      rw [e]
      exact wpAny_pure (q _)
  | .text y, _, n, s, x, _ => fun A E Q q => by
    cases x with
    | text _ t =>
      have e : hashByValue n (Value.str y t) = pure false := by cases n <;> rfl
      rw [e]
      exact wpAny_pure (q _)
  | .tup ks, _, n, s, x, hn => fun A E Q q => by
    cases x with
    | @tup a o its m _ hg hc hd hk =>
      simp only [NestedKey.depth] at hn
      cases n with
      | zero => omega
      | succ n =>
        have ih := byv_keys ks _ n s hk (by omega)
        have ty : s.TypeIs (.ref a) "tuple" := ⟨o, hg, hc⟩
        unfold hashByValue
        refine wpAny_bind (wpAny_specialOf ty F.slot_tuple_hash.lookup ?_)
        show wpAny _ _ (seqItems? (.ref a) >>= _) _ _ _
        refine wpAny_bind (wpAny_seqItems hg hd (wpAny_bind ?_))
        show wpAny _ _ (forIn its _ _) _ _ _
        rw [← Array.forIn_toList]
        refine wpAny_forIn_list _ (fun more (r : Option Bool × PUnit) s' => r.1 = none ∧ s' = s ∧ ∀ v ∈ more, v ∈ its.toList) _ ?_ ?_ _ _ ⟨rfl, rfl, fun v m => m⟩
        · rintro v more r s' ⟨_, rfl, hall⟩
          refine wpAny_bind (ih v (hall v List.mem_cons_self) _ _ _ fun c => ?_)
          cases c with
          | true =>
            simp only [Bool.not_true, Bool.false_eq_true, if_false]
            exact wpAny_pure ⟨rfl, rfl, fun u m => hall u (List.mem_cons_of_mem _ m)⟩
          | false =>
            simp only [Bool.not_false, if_true]
            exact wpAny_pure (wpAny_pure (q false))
        · rintro ⟨r1, r2⟩ s' ⟨e, rfl, _⟩
          have e' : r1 = none := e
          subst e'
          exact wpAny_pure (q true)
theorem byv_keys : ∀ (ks : List NestedKey) (vs : List Value) (n : Nat) (s : Shared), NestedAll s.heap ks vs → NestedKey.depthAll ks ≤ n → ∀ v ∈ vs, ∀ (A : Around) (E : Value → Shared → Prop) (Q : Bool → Shared → Prop), (∀ c, Q c s) → wpAny (model P w) A (hashByValue n v) Q E s
  | [], _, n, s, x, _, v, hv => by cases x; cases hv
  | k :: ks, _, n, s, x, hn, v, hv => by
    cases x with
    | cons x1 x2 =>
      simp only [NestedKey.depthAll] at hn
      rcases List.mem_cons.mp hv with e | hv
      · rw [e]; exact byv_key k _ n s x1 (by omega)
      · exact byv_keys ks _ n s x2 (by omega) v hv
end
/-- tuples nested -/
theorem fit_nest : Fit (nestedKind P w) where
  st := nestedKind_stays
  cls := fun {A E s k b Q} hk q => cls_key k _ 8 s hk.1 hk.2 A E Q q
  byv := fun {A E s k b Q} hk q => byv_key k _ 8 s hk.1 hk.2 A E Q q
end US

set_option Elab.async false
set_option linter.all false
set_option maxRecDepth 100000
set_option maxHeartbeats 4000000
namespace Pf
open PySem PySem.Spec PyProof.Rows L2
/-- a row of plates -/
def rwD (r : List Vl) : PyData := .tuple (r.map vD)
def kv : Vl → NestedKey
  | none => .none
  | some l => .tup (l.map .num)
def kR (r : List Vl) : NestedKey := .tup (r.map kv)
theorem map_inj {α β : Type} {f : α → β} (h : ∀ a b, f a = f b → a = b) : ∀ {l k : List α}, l.map f = k.map f → l = k
  | [], [], _ => rfl
  | [], _ :: _, e => by simp at e
  | _ :: _, [], e => by simp at e
  | a :: l, b :: k, e => by
    rw [List.map_cons, List.map_cons] at e
    have h1 := List.cons.inj e
    rw [h a b h1.1, map_inj h h1.2]
theorem kv_inj : ∀ a b : Vl, kv a = kv b → a = b
  | none, none, _ => rfl
  | none, some _, e => by cases e
  | some _, none, e => by cases e
  | some l, some k, e => by
    have h := NestedKey.tup.inj e
    rw [map_inj (f := NestedKey.num) (fun a b h => NestedKey.num.inj h) h]
theorem kR_inj (a b : List Vl) (e : kR a = kR b) : a = b := map_inj kv_inj (NestedKey.tup.inj e)
theorem dep_nums : ∀ l : List Int, NestedKey.depthAll (l.map NestedKey.num) = 0
  | [] => by simp [NestedKey.depthAll]
  | x :: l => by simp [NestedKey.depthAll, NestedKey.depth, dep_nums l]
theorem dep_kvs : ∀ r : List Vl, NestedKey.depthAll (r.map kv) ≤ 1
  | [] => by simp [NestedKey.depthAll]
  | none :: r => by
    have := dep_kvs r
    simp only [List.map_cons, NestedKey.depthAll, kv, NestedKey.depth]
    omega
  | some l :: r => by
    have := dep_kvs r
    simp only [List.map_cons, NestedKey.depthAll, kv, NestedKey.depth, dep_nums]
    omega
section
variable {X : Cx} {pins : List (Addr × Obj)} {σ : L2.St} {H : Hp} {s : Shared}
theorem nest_ints {K : PySem.W.Frag} {h : Heap} : ∀ {l : List Int} {xs : List V} {us : List Value}, DpAll K H xs (l.map PyData.int) → Vals xs us → NestedAll h (l.map NestedKey.num) us
  | [], _, _, hd, hv => by cases hd; cases hv; exact .nil
  | x :: l, _, _, hd, hv => by
    cases hd with
    | cons h1 h2 => cases h1; cases hv with
      | cons r1 r2 =>
        obtain ⟨t, rfl⟩ := r1
        exact .cons (.int _ _) (nest_ints h2 r2)
theorem nest_v (I : Inv X pins σ H s) : ∀ {x : Vl} {v : V} {u : Value}, Dp X.K H v (vD x) → RelV v u → NestedIs s.heap (kv x) u
  | none, _, _, h, r => by
    have h' : Dp X.K H _ .none := h
    cases h'
    cases r
    exact .none
  | some l, _, _, h, r => by
    have h' : Dp X.K H _ (.tuple (l.map .int)) := h
    cases h' with
    | tup hT hd =>
      cases r
      obtain ⟨its, rv, ⟨o, ho, hc, n, he⟩, hs⟩ := I.tuple hT
      exact .tup ho hc he (by simpa using nest_ints hd rv)
theorem nest_vs (I : Inv X pins σ H s) : ∀ {r : List Vl} {xs : List V} {us : List Value}, DpAll X.K H xs (r.map vD) → Vals xs us → NestedAll s.heap (r.map kv) us
  | [], _, _, hd, hv => by cases hd; cases hv; exact .nil
  | x :: l, _, _, hd, hv => by
    cases hd with
    | cons h1 h2 => cases hv with
      | cons r1 r2 => exact .cons (nest_v I h1 r1) (nest_vs I h2 r2)
theorem nest_row (I : Inv X pins σ H s) {r : List Vl} {v : V} {u : Value} (h : Dp X.K H v (rwD r)) (rv : RelV v u) : ∃ a, u = .ref a ∧ (nestedKind X.prog X.w).is s.heap (kR r) a := by
  have h' : Dp X.K H v (.tuple (r.map vD)) := h
  cases h' with
  | tup hT hd =>
    cases rv
    obtain ⟨its, r2, ⟨o, ho, hc, n, he⟩, hs⟩ := I.tuple hT
    refine ⟨_, rfl, .tup ho hc he (by simpa using nest_vs I hd r2), ?_⟩
    have := dep_kvs r
    show NestedKey.depth (.tup _) ≤ 8
    simp only [NestedKey.depth]
    omega
theorem nest_rows (I : Inv X pins σ H s) : ∀ {rs : List (List Vl)} {xs : List V} {us : List Value}, DpAll X.K H xs (rs.map rwD) → Vals xs us → ∃ ks : List (Addr × NestedKey), us = ks.map (fun p => Value.ref p.1) ∧ ks.map (·.2) = rs.map kR ∧ ∀ p ∈ ks, (nestedKind X.prog X.w).is s.heap p.2 p.1
  | [], _, _, hd, hv => by cases hd; cases hv; exact ⟨[], rfl, rfl, fun p hp => by cases hp⟩
  | r :: rs, _, _, hd, hv => by
    cases hd with
    | cons h1 h2 => cases hv with
      | cons r1 r2 =>
        obtain ⟨a, rfl, ha⟩ := nest_row I h1 r1
        obtain ⟨ks, e1, e2, e3⟩ := nest_rows I h2 r2
        exact ⟨(a, kR r) :: ks, by rw [e1]; rfl, by rw [List.map_cons, e2]; rfl, fun p hp => by
          rcases List.mem_cons.mp hp with e | m
          · rw [e]; exact ha
          · exact e3 p m⟩
end
theorem len_le {α : Type} [DecidableEq α] : ∀ {l m : List α}, l.Nodup → (∀ x ∈ l, x ∈ m) → l.length ≤ m.length
  | [], _, _, _ => Nat.zero_le _
  | x :: l, m, hn, hs => by
    have h1 := List.nodup_cons.mp hn
    have hx := hs x List.mem_cons_self
    have := len_le (m := m.erase x) h1.2 fun y hy => (List.mem_erase_of_ne fun e => h1.1 (by rw [← e]; exact hy)).mpr (hs y (List.mem_cons_of_mem _ hy))
    rw [List.length_erase_of_mem hx] at this
    have := List.length_pos_of_mem hx
    rw [List.length_cons]
    omega
/-- len(set(xs)) of rows -/
def tLenSetN (K : PySem.W.Frag) (ta : TE) : TE := fun σ H Q => ta σ H fun x H1 => ∃ (l : Addr) (xs : List V) (rs : List (List Vl)), x = .ref l ∧ SqL K H1 l xs ∧ DpAll K H1 xs (rs.map rwD) ∧ rs.length < 64 ∧ Q (.int (((unl rs).length : Nat) : Int)) H1
theorem pe_lenSetN {X : Cx} {a : Expr} {ta : TE} {p p2 q pos : Pos} (hu : X.A.units + 64 < cLine) (hg : Gl X "len") (hm : X.mg "len" = none) (hg2 : Gl X "set") (hm2 : X.mg "set" = none) (ha : PE X a ta) (hc : X.calm = true := by rfl)
    (na : starEach [a] X.env = (false, eval a X.env) :: starEach [] X.env := by rfl) : PE X (.Call (.Name "len" p) [.Call (.Name "set" p2) [a] [] q] [] pos) (tLenSetN X.K ta) := by
  refine ⟨fun pins s σ H Q I h => ?_⟩
  refine Call_ (ld_blt I hg hm boot_len (PyProof.Rows.callWith_builtin1 (PyProof.Rows.args_cons ?_ rfl) rfl rfl))
  refine Call_ (ld_blt I hg2 hm2 boot_set (PyProof.Rows.callWith_type1 (PyProof.Rows.args_cons (thn (ha.run pins s σ H _ I h) fun v s1 ⟨x, H1, I1, r1, q1⟩ => PyProof.Rows.args_nil ?_) na) na rfl))
  obtain ⟨l, xs, rs, rfl, hq, hd, hf, q1⟩ := q1
  cases r1
  obtain ⟨its, r, pl, hz⟩ := I1.list hq
  obtain ⟨ks, e1, e2, e3⟩ := nest_rows I1 hd r
  have hkl : ks.length = rs.length := by
    have := congrArg List.length e2
    simpa using this
  refine US.call_setU (kd := nestedKind X.prog X.w) US.fit_nest ks (I1.ok.hd hc) pl.isList (by simpa using e1) e3 (by omega) (show _ < cLine by show X.A.in1.in1.in1.units + 8 < cLine; simp only [Around.in1]; omega) fun h' tk L es ep t R g keep => PyProof.Rows.args_nil ?_
  have I2 : Inv X pins σ H1 { s1 with heap := h', toks := tk } := I1.kept fun b o e => keep b o e
  obtain ⟨o, go, gx, gd⟩ := R.obj
  have hsz := US.size_of R.row
  have hL : L.length = (unl rs).length := by
    have hn : ((unl rs).map kR).Nodup := List.Pairwise.map kR (fun a c hne e => hne (kR_inj a c e)) (unl_nd rs)
    have h1 := len_le (m := (unl rs).map kR) R.one fun x hx => (by
      obtain ⟨p, hp, rfl⟩ := List.mem_map.mp hx
      have hm : p.2 ∈ ks.map (·.2) := List.mem_map.mpr ⟨p, List.mem_of_mem_take (g.sub p hp), rfl⟩
      rw [e2] at hm
      obtain ⟨r0, hr0, e0⟩ := List.mem_map.mp hm
      exact List.mem_map.mpr ⟨r0, unl_mem.mpr hr0, e0⟩ : x ∈ (unl rs).map kR)
    have h2 := len_le (m := L.map (·.2)) hn fun x hx => (by
      obtain ⟨r0, hr0, rfl⟩ := List.mem_map.mp hx
      have hm : kR r0 ∈ ks.map (·.2) := by rw [e2]; exact List.mem_map.mpr ⟨r0, unl_mem.mp hr0, rfl⟩
      obtain ⟨p, hp, ep⟩ := List.mem_map.mp hm
      rw [← ep]
      exact g.all p (by rw [List.take_length]; exact hp) : x ∈ L.map (·.2))
    rw [List.length_map, List.length_map] at h1 h2
    omega
  have hul := unl_len rs
  exact call_len_set go gx gd (R.fits (s := { s1 with heap := h', toks := tk })) (by omega) ⟨.int (((unl rs).length : Nat) : Int), H1, I2.tok _, ⟨_, by rw [hsz, hL]⟩, q1⟩
end Pf

set_option Elab.async false
set_option linter.all false
set_option maxRecDepth 100000
set_option maxHeartbeats 4000000
namespace Pf
open PySem PySem.Spec PyProof.Rows L2
/-! ### all rows that can stand behind a fall -/
def rowsN (S : List Vl) (Ls : Lv) : Nat → List (List Vl)
  | 0 => [[]]
  | n + 1 => (rowsN S Ls n).flatMap fun r => (verW S Ls ((n : Nat) : Int)).map fun v => r ++ [v]
def lenW (l : Nat) : Nat := if l = 0 then 1 else l + 2
theorem verW_lenW (S : List Vl) (Ls : Lv) (p : Int) : (verW S Ls p).length = lenW (lateW Ls p).length := by
  unfold verW lenW
  split
  · rfl
  · simp
theorem prod_len {α β γ : Type} (l : List α) (m : List β) (f : α → β → γ) : (l.flatMap fun r => m.map fun v => f r v).length = l.length * m.length := by
  induction l with
  | nil => simp
  | cons x l ih => rw [List.flatMap_cons, List.length_append, ih, List.length_map, List.length_cons, Nat.succ_mul]; omega
theorem rowsN_len (S : List Vl) (Ls : Lv) (n : Nat) : (rowsN S Ls (n + 1)).length = (rowsN S Ls n).length * lenW (lateW Ls ((n : Nat) : Int)).length := by
  show ((rowsN S Ls n).flatMap fun r => (verW S Ls ((n : Nat) : Int)).map fun v => r ++ [v]).length = _
  rw [prod_len, verW_lenW]
theorem late_sum : ∀ (Ls : Lv), (lateW Ls 0).length + (lateW Ls 1).length + (lateW Ls 2).length ≤ Ls.length
  | [] => Nat.le_refl _
  | q :: Ls => by
    have ih := late_sum Ls
    have e : ∀ p : Int, (lateW (q :: Ls) p).length = (lateW Ls p).length + if q.1 = p then 1 else 0 := fun p => by
      unfold lateW
      rw [List.filter_cons]
      by_cases c : q.1 = p
      · rw [if_pos (decide_eq_true c), if_pos c]; simp
      · rw [if_neg (by simp [c]), if_neg c]; simp
    rw [e, e, e, List.length_cons]
    by_cases c0 : q.1 = 0
    · rw [if_pos c0, if_neg (by omega), if_neg (by omega)]; omega
    · rw [if_neg c0]
      by_cases c1 : q.1 = 1
      · rw [if_pos c1, if_neg (by omega)]; omega
      · rw [if_neg c1]
        split <;> omega
theorem len_48 : ∀ a b c : Fin 6, a.1 + b.1 + c.1 ≤ 5 → lenW a.1 ≤ 48 ∧ lenW a.1 * lenW b.1 ≤ 48 ∧ lenW a.1 * lenW b.1 * lenW c.1 ≤ 48 := by decide
theorem rowsN_48 (S : List Vl) {Ls : Lv} {n : Nat} (hL : Ls.length ≤ 5) (hn : n ≤ 3) : (rowsN S Ls n).length ≤ 48 := by
  have hs := late_sum Ls
  obtain ⟨h1, h2, h3⟩ := len_48 ⟨(lateW Ls 0).length, by omega⟩ ⟨(lateW Ls 1).length, by omega⟩ ⟨(lateW Ls 2).length, by omega⟩ (by show (lateW Ls 0).length + (lateW Ls 1).length + (lateW Ls 2).length ≤ 5; omega)
  have e0 : (rowsN S Ls 0).length = 1 := rfl
  have e1 := rowsN_len S Ls 0
  have e2 := rowsN_len S Ls 1
  have e3 := rowsN_len S Ls 2
  rw [e0, Nat.one_mul] at e1
  rw [e1] at e2
  rw [e2] at e3
  match n, hn with
  | 0, _ => rw [e0]; decide
  | 1, _ => rw [e1]; exact h1
  | 2, _ => rw [e2]; exact h2
  | 3, _ => rw [e3]; exact h3
theorem rowsN_row (S : List Vl) (Ls : Lv) : ∀ n, ∀ r ∈ rowsN S Ls n, r.length = n
  | 0, r, h => by rw [List.mem_singleton.mp h]; rfl
  | n + 1, r, h => by
    obtain ⟨r0, h0, h⟩ := List.mem_flatMap.mp h
    obtain ⟨v, _, rfl⟩ := List.mem_map.mp h
    rw [List.length_append, rowsN_row S Ls n r0 h0]
    rfl
theorem tyes_go {σ : L2.St} {H : Hp} {A B : Hp → Prop} (h : A H) : tYes σ H (fun b H3 => if b = true then A H3 else B H3) := by
  show if true = true then A H else B H
  rw [if_pos rfl]
  exact h
theorem snoc_inj {α : Type} {a b : List α} {x y : α} (h : a ++ [x] = b ++ [y]) : a = b ∧ x = y := by
  have h1 := congrArg List.reverse h
  rw [List.reverse_append, List.reverse_append] at h1
  have h2 := List.cons.inj h1
  exact ⟨List.reverse_inj.mp h2.2, h2.1⟩
theorem unl_prod {l : List (List Vl)} {m : List Vl} : (unl (l.flatMap fun r => m.map fun v => r ++ [v])).length = (unl l).length * (unl m).length := by
  rw [← prod_len (unl l) (unl m) fun r v => r ++ [v]]
  have hn : ((unl l).flatMap fun r => (unl m).map fun v => r ++ [v]).Nodup := by
    unfold List.Nodup
    rw [List.pairwise_flatMap]
    refine ⟨fun r _ => List.Pairwise.map _ (fun a c hne e => hne (snoc_inj e).2) (unl_nd m), ?_⟩
    refine (unl_nd l).imp fun {r s} hne x hx y hy e => ?_
    obtain ⟨v, _, rfl⟩ := List.mem_map.mp hx
    obtain ⟨u, _, rfl⟩ := List.mem_map.mp hy
    exact hne (snoc_inj e).1
  refine Nat.le_antisymm (len_le (unl_nd _) fun x hx => ?_) (len_le hn fun x hx => ?_)
  · obtain ⟨r, hr, hx⟩ := List.mem_flatMap.mp (unl_mem.mp hx)
    obtain ⟨v, hv, rfl⟩ := List.mem_map.mp hx
    exact List.mem_flatMap.mpr ⟨r, unl_mem.mpr hr, List.mem_map.mpr ⟨v, unl_mem.mpr hv, rfl⟩⟩
  · obtain ⟨r, hr, hx⟩ := List.mem_flatMap.mp hx
    obtain ⟨v, hv, rfl⟩ := List.mem_map.mp hx
    exact unl_mem.mpr (List.mem_flatMap.mpr ⟨r, unl_mem.mp hr, List.mem_map.mpr ⟨v, unl_mem.mp hv, rfl⟩⟩)
/-- as many rows as falls are counted -/
theorem unl_rows (S : List Vl) (Ls : Lv) : ∀ n, (unl (rowsN S Ls n)).length = fallsN S Ls n
  | 0 => rfl
  | n + 1 => by
    show (unl ((rowsN S Ls n).flatMap fun r => (verW S Ls ((n : Nat) : Int)).map fun v => r ++ [v])).length = _
    rw [unl_prod, unl_rows S Ls n, fallsN_more]
/-! ### the law's own going through them -/
def pD (q : Int × Vl) : PyData := .tuple [.int q.1, vD q.2]
theorem dp_two {K : PySem.W.Frag} {H : Hp} {v : V} {d1 d2 : PyData} (h : Dp K H v (.tuple [d1, d2])) : ∃ t v1 v2, v = .ref t ∧ SqT K H t [v1, v2] ∧ Dp K H v1 d1 ∧ Dp K H v2 d2 := by
  cases h with
  | tup hT hd => cases hd with
    | cons h1 h2 => cases h2 with
      | cons h3 h4 => cases h4; exact ⟨_, _, _, rfl, hT, h1, h3⟩
theorem dp_intv {K : PySem.W.Frag} {H : Hp} {v : V} {i : Int} (h : Dp K H v (.int i)) : v = .int i := by cases h; rfl
theorem lateW_more {Ls : Lv} {p : Int} {i : Nat} {q : Int × Vl} (h : Ls[i]? = some q) : lateW (Ls.take (i + 1)) p = lateW (Ls.take i) p ++ if q.1 = p then [q.2] else [] := by
  unfold lateW
  rw [List.take_succ, h, Option.toList_some, List.filter_append, List.map_append]
  by_cases c : q.1 = p
  · rw [if_pos c, List.filter_cons, if_pos (decide_eq_true c)]; rfl
  · rw [if_neg c, List.filter_cons, if_neg (by simp [c])]; rfl
end Pf

set_option Elab.async false
set_option linter.all false
set_option maxRecDepth 100000
set_option maxHeartbeats 4000000
namespace Pf
open PySem PySem.Spec PyProof.Rows L2
abbrev NLf : List Str := ["settled", "loose", "many", "found", "plate", "one", "value", "late", "some", "longer", "row"]
theorem scLfl : FnScope NLf ["settled", "loose", "many"] (defScope sLfl) := ⟨rfl, rfl, rfl, by decide +kernel, rfl, by decide +kernel, by decide +kernel⟩
theorem pe_imp {X : Cx} {e : Expr} {t t' : TE} (h : PE X e t) (k : ∀ σ H Q, t' σ H Q → t σ H Q) : PE X e t' := ⟨fun pins s σ H Q I g => h.run pins s σ H Q I (k σ H Q g)⟩
theorem eqv_dnil (ds : List PyData) : PyData.eqv (.list ds) (.list []) = decide (ds.length = 0) := by
  cases ds with
  | nil => simp [PyData.eqv, PyData.eqvAll]
  | cons d ds => simp [PyData.eqv, PyData.eqvAll]
/-- [None] if late != [] else [] -/
def tNn (K : PySem.W.Frag) (i : Nat) : TE := fun σ H Q => ∃ (L : Addr) (l : List Vl), σ[i]? = some (some (.ref L)) ∧ LsT K H L (l.map vD) ∧ ∀ H' p, Same H H' → LsT K H' p ((if l.length = 0 then [] else [none]).map vD) → Q (.ref p) H'
section
variable {P : Program} {w : World} {K : PySem.W.Frag} {mg : Str → Option Value} {base : Heap} {C : Addr}
def spLfl (K : PySem.W.Frag) : Sp := fun vs H Q _ => ∃ (SL LL : Addr) (S : List Vl) (Ls : Lv), vs = [.ref SL, .ref LL, .int ((S.length : Nat) : Int)] ∧ LsT K H SL (S.map vD) ∧ LsT K H LL (Ls.map pD) ∧ S.length ≤ 3 ∧ Ls.length ≤ 5 ∧ ∀ H' p, Same H H' → LsT K H' p ((rowsN S Ls S.length).map rwD) → Q (.ref p) H'
theorem ok_lfl {f : Addr} {fd : FuncData} (F : Fun K "_law_falls" "_law_falls" sLfl f fd) (mr : mg "range" = none) : FnOk P w K mg base CX0 1 f fd ["settled", "loose", "many"] (spLfl K) := by
  refine F.ok scLfl (fun vs H Q E h => ?_) (fun cdv A outer s H vs Q E hr h => ?_)
  · obtain ⟨SL, LL, S, Ls, rfl, _⟩ := h
    rfl
  · obtain ⟨SL, LL, S, Ls, rfl, AS, AL, hS, hL, k⟩ := h
    have nd := scLfl.nd
    refine ⟨_, (pss_cons (ps_set (i := 3) nd rfl (.inl rfl) (pe_lst (pa_cons (pe_tup pa_nil) pa_nil))) (pss_cons (ps_for PassesOwn.never rfl (pi_range1 (by rfl) mr (pa_cons (pv 2) pa_nil)) (pg_name (i := 4) nd rfl (.inr rfl)) (pss_cons (ps_setLc (i := 7) (own := [("one", 5), ("value", 6)]) (g := gTup K 2 (gCons (gName 5) (gCons (gName 6) gNil))) (tt := tTest (tOp rEq (tVar 5) (tVar 4))) (te := tVar 6) (by rfl) nd rfl rfl (sw_true rfl rfl rfl (by decide +kernel)) (pi_list (pv 1)) (blkOk_by (N := NLf) (sc := defScope sLfl) (by decide +kernel)) (fun _ _ _ _ _ => (pg_tup rfl (pgs_cons (pg_name (i := 5) nd rfl (.inl rfl)) (pgs_cons (pg_name (i := 6) nd rfl (.inl rfl)) pgs_nil)))) (fun _ _ _ _ _ => pts_one (pt_cmpR op_eq (pv 5) (pv 4) (nomark _))) (fun _ _ _ _ _ => pv 6)) (pss_cons (ps_set (i := 8) nd rfl (.inl rfl) (pe_op op_cat (pe_op op_cat (pe_lst (pa_cons (pe_ix ix_list (pv 0) (pv 4) (fun _ _ => rfl)) pa_nil)) (pv 7)) (pe_imp (t' := tNn K 7) (pe_ifExp (pt_cmpR (op_neD hr.units) (pv 7) (pe_lst pa_nil) (nomark _)) (pe_lst (pa_cons pe_non pa_nil)) (pe_lst pa_nil)) ?nn9))) (pss_cons (ps_set (i := 9) nd rfl (.inl rfl) (pe_lst pa_nil)) (pss_cons (ps_for PassesOwn.never rfl (pi_list (pv 3)) (pg_name (i := 10) nd rfl (.inr rfl)) (pss_one (ps_set (i := 9) nd rfl (.inl rfl) (pe_op op_cat (pv 9) (pe_lc (own := [("value", 6)]) (g := gName 6) (tt := tYes) (te := tOp (rCatA K) (tVar 10) (tTup (tCons (tVar 6) tNil))) rfl nd (pi_list (pv 8)) (blkOk_by (N := NLf) (sc := defScope sLfl) (by decide +kernel)) (fun _ _ _ _ _ => (pg_name (i := 6) nd rfl (.inl rfl))) (fun _ _ _ _ _ => pts_nil) (fun _ _ _ _ _ => (pe_op op_catA (pv 10) (pe_tup (pa_cons (pv 6) pa_nil))))))))) (pss_one (ps_set (i := 3) nd rfl (.inl rfl) (pv 9)))))))) (pss_one (ps_ret (pv 3))))), ?_⟩
    case nn9 =>
      rintro σ H Q ⟨L, l, e7, LC, q⟩
      obtain ⟨us, eL, dL⟩ := id LC
      refine ⟨_, e7, Nat.zero_le _, fun z hz => ?_⟩
      have sz := same_upd (o := .lst []) hz
      refine ⟨.list (l.map vD), .list [], .lst (SqL.of (sz _ _ eL)) (dps_same tp_le _ _ (dps_same (tp_same sz) _ _ dL)), .lst (SqL.of upd_same) .nil, shl_of (ok_map ok_v _), shl_of (fun d hd => by cases hd), _, rfl, ?_⟩
      rw [eqv_dnil, List.length_map]
      by_cases c : l.length = 0
      · rw [decide_eq_true c]
        rw [if_pos c] at q
        exact iteF ⟨Nat.zero_le _, fun p hp => q _ p (sz.trans (same_upd hp)) ⟨[], upd_same, .nil⟩⟩
      · rw [decide_eq_false c]
        rw [if_neg c] at q
        exact iteT ⟨by show 1 ≤ sizeLine; decide, fun p hp => q _ p (sz.trans (same_upd hp)) ⟨[.non], upd_same, .cons .non .nil⟩⟩
    refine ⟨Nat.zero_le _, fun e he => ⟨by show 1 ≤ sizeLine; decide, fun F0 hF => ?_⟩⟩
    have z1 := same_upd (o := .tup []) he
    have ee1 : upd H e (.tup []) e = some (.tup []) := upd_same
    generalize upd H e (.tup []) = H1 at z1 ee1 hF ⊢
    have z2 := same_upd (o := .lst [.ref e]) hF
    have LF0 : LsT K (upd H1 F0 (.lst [.ref e])) F0 ((rowsN S Ls 0).map rwD) := ⟨[.ref e], upd_same, .cons (.tup (SqT.of (tp_at (z2 _ _ ee1) rfl)) .nil) .nil⟩
    have z12 := z1.trans z2
    generalize upd H1 F0 (.lst [.ref e]) = H2 at z2 LF0 z12 ⊢
    refine ⟨_, rfl, _, rfl, by omega, by omega, ?_⟩
    rw [Int.toNat_natCast]
    refine for_range (lo := 0) (n := S.length) (fun i σ H' => ∃ FL y4 y5 y6 y7 y8 y9 y10, σ = [some (.ref SL), some (.ref LL), some (.int ((S.length : Nat) : Int)), some (.ref FL), y4, y5, y6, y7, y8, y9, y10] ∧ Same H H' ∧ LsT K H' FL ((rowsN S Ls i).map rwD)) ⟨F0, none, none, none, none, none, none, none, rfl, z12, LF0⟩ ?_ ?_
    · rintro i σ H3 hi ⟨FL, y4, y5, y6, y7, y8, y9, y10, rfl, s3, LF⟩
      rw [Int.zero_add]
      obtain ⟨lus, eLL, dLL⟩ := AL.same s3
      have hlul := dps_len dLL
      rw [List.length_map] at hlul
      refine ⟨_, rfl, LL, rfl, ⟨_, SqL.of eLL⟩, fun R hR => lc_list (K := K) (a := LL) (xs := lus) (fun j HH => Same H3 HH ∧ LsT K HH R ((lateW (Ls.take j) ((i : Nat) : Int)).map vD)) ⟨same_upd hR, [], upd_same, .nil⟩ (fun j HH _ z => SqL.of (z.1 _ _ eLL)) ?_ ?_⟩
      · rintro j x HH hj ⟨q1, LR⟩
        obtain ⟨d, hd, dp⟩ := dps_get (dps_same (tp_same q1) _ _ dLL) hj
        rw [List.getElem?_map] at hd
        obtain ⟨q, hq, rfl⟩ := Option.map_eq_some_iff.mp hd
        obtain ⟨t, v1, v2, rfl, hT, d1, d2⟩ := dp_two dp
        have e1 := dp_intv d1
        subst e1
        have em := lateW_more (p := ((i : Nat) : Int)) hq
        obtain ⟨us, eR, dR⟩ := id LR
        have hul := dps_len dR
        rw [List.length_map] at hul
        have hll := lateW_len (Ls.take j) ((i : Nat) : Int)
        rw [List.length_take] at hll
        refine ⟨t, _, rfl, same_seqT tp_le hT, rfl, _, _, rfl, _, _, rfl, rfl, rfl, _, rfl, _, rfl, rfl, _, rfl, ite2 (fun hc => ?_) (fun hc => ?_)⟩
        · have he : q.1 = ((i : Nat) : Int) := V.int.inj (of_decide_eq_true hc)
          rw [if_pos he] at em
          refine ⟨_, rfl, us, eR, by rw [sizeLine_eq]; omega, fun c o e => by rw [upd_ne (ne_of_none e hR)]; exact q1 _ _ e, ?_⟩
          rw [em, List.map_append]
          exact LsT.push eR dR d2
        · have he : ¬ q.1 = ((i : Nat) : Int) := fun z => hc (decide_eq_true (congrArg V.int z))
          rw [if_neg he, List.append_nil] at em
          exact ⟨q1, by rw [em]; exact LR⟩
      · rintro H4 ⟨q1, LR⟩
        rw [hlul, List.take_length] at LR
        have s4 := s3.trans q1
        obtain ⟨sus, eSL, dSL⟩ := AS.same s4
        have hsul := dps_len dSL
        rw [List.length_map] at hsul
        obtain ⟨sv, hsv⟩ : ∃ sv, sus[i]? = some sv := ⟨_, List.getElem?_eq_getElem (by omega)⟩
        obtain ⟨d, hd, dp⟩ := dps_get dSL hsv
        rw [List.getElem?_map] at hd
        obtain ⟨sx, hsx, rfl⟩ := Option.map_eq_some_iff.mp hd
        have hgd : S.getD i none = sx := by rw [List.getD_eq_getElem?_getD, hsx]; rfl
        obtain ⟨lt, eLt, dLt⟩ := id LR
        have hltl := dps_len dLt
        rw [List.length_map] at hltl
        have hlw := lateW_len Ls ((i : Nat) : Int)
        refine ⟨_, rfl, _, rfl, SL, sus, _, sv, rfl, rfl, SqL.of eSL, atI_nat hsv, by show 1 ≤ sizeLine; decide, fun A1 hA1 => ?_⟩
        have w1 := same_upd (o := .lst [sv]) hA1
        have eA1 : upd H4 A1 (.lst [sv]) A1 = some (.lst [sv]) := upd_same
        have dp1 := dp_same (tp_same w1) _ _ dp
        have LR1 := LR.same w1
        generalize upd H4 A1 (.lst [sv]) = J1 at w1 eA1 dp1 LR1 ⊢
        obtain ⟨lt, eLt, dLt⟩ := id LR1
        have hltl := dps_len dLt
        rw [List.length_map] at hltl
        refine ⟨_, rfl, _, _, [sv], lt, rfl, rfl, eA1, eLt, by rw [sizeLine_eq]; simp; omega, fun B1 hB1 => ?_⟩
        have w2 := same_upd (o := .lst ([sv] ++ lt)) hB1
        have eB1 : upd J1 B1 (.lst ([sv] ++ lt)) B1 = some (.lst ([sv] ++ lt)) := upd_same
        have dB : DpAll K (Tp (upd J1 B1 (.lst ([sv] ++ lt)))) ([sv] ++ lt) ((sx :: lateW Ls ((i : Nat) : Int)).map vD) := .cons (dp_same (tp_same w2) _ _ dp1) (dps_same (tp_same w2) _ _ dLt)
        have LR2 := LR1.same w2
        generalize upd J1 B1 (.lst ([sv] ++ lt)) = J2 at w2 eB1 dB LR2 ⊢
        refine ⟨_, _, rfl, LR2, fun J3 p3 w3 LP => ?_⟩
        obtain ⟨pu, eP, dP⟩ := LP
        have hpul := dps_len dP
        have hpu2 : pu.length ≤ 1 := by
          rw [hpul, List.length_map]
          split <;> simp
        refine ⟨_, _, _, pu, rfl, rfl, w3 _ _ eB1, eP, by rw [sizeLine_eq]; simp; omega, fun SM hSM => ?_⟩
        have w4 := same_upd (o := .lst ([sv] ++ lt ++ pu)) hSM
        have LM : LsT K (upd J3 SM (.lst ([sv] ++ lt ++ pu))) SM ((verW S Ls ((i : Nat) : Int)).map vD) := by
          refine ⟨_, upd_same, ?_⟩
          have hv : verW S Ls ((i : Nat) : Int) = (sx :: lateW Ls ((i : Nat) : Int)) ++ (if (lateW Ls ((i : Nat) : Int)).length = 0 then [] else [none]) := by
            unfold verW
            rw [Int.toNat_natCast, hgd]
            by_cases c : (lateW Ls ((i : Nat) : Int)).length = 0
            · rw [if_pos c, if_pos c, List.eq_nil_of_length_eq_zero c]; rfl
            · rw [if_neg c, if_neg c]; rfl
          rw [hv, List.map_append]
          exact dps_app (dps_same (tp_same (w3.trans w4)) _ _ dB) (dps_same (tp_same w4) _ _ dP)
        have s5 := (((s4.trans w1).trans w2).trans w3).trans w4
        have sF5 := (((q1.trans w1).trans w2).trans w3).trans w4
        generalize upd J3 SM (.lst ([sv] ++ lt ++ pu)) = H5 at w4 LM s5 sF5 ⊢
        have LF5 := LF.same sF5
        refine ⟨Nat.zero_le _, fun G0 hG => ?_⟩
        have w6 := same_upd (o := .lst []) hG
        have LG0 : LsT K (upd H5 G0 (.lst [])) G0 ((((rowsN S Ls i).take 0).flatMap fun r => (verW S Ls ((i : Nat) : Int)).map fun v => r ++ [v]).map rwD) := ⟨[], upd_same, .nil⟩
        have LF6 := LF5.same w6
        have LM6 := LM.same w6
        have s6 := s5.trans w6
        generalize upd H5 G0 (.lst []) = H6 at w6 LG0 LF6 LM6 s6 ⊢
        obtain ⟨fus, eF, dF⟩ := id LF6
        obtain ⟨mus, eM, dM⟩ := id LM6
        have hful := dps_len dF
        rw [List.length_map] at hful
        have hmul := dps_len dM
        rw [List.length_map] at hmul
        have h48 := rowsN_48 S hL (show i ≤ 3 by omega)
        have h7 := verW_len S Ls ((i : Nat) : Int)
        refine ⟨_, rfl, FL, rfl, ⟨_, SqL.of eF⟩, for_list (K := K) (a := FL) (xs := fus) (fun j σ H' => ∃ GL y6 y10, σ = [some (.ref SL), some (.ref LL), some (.int ((S.length : Nat) : Int)), some (.ref FL), some (.int ((i : Nat) : Int)), y5, y6, some (.ref R), some (.ref SM), some (.ref GL), y10] ∧ Same H6 H' ∧ LsT K H' GL ((((rowsN S Ls i).take j).flatMap fun r => (verW S Ls ((i : Nat) : Int)).map fun v => r ++ [v]).map rwD)) ⟨G0, y6, y10, rfl, Same.refl _, LG0⟩ (fun j σ H' _ z => by obtain ⟨_, _, _, _, z, _⟩ := z; exact SqL.of (z _ _ eF)) ?_ ?_⟩
        · rintro j x σ H7 hj ⟨GL, y6, y10, rfl, s7, LG⟩
          obtain ⟨d, hd, dpr⟩ := dps_get (dps_same (tp_same s7) _ _ dF) hj
          rw [List.getElem?_map] at hd
          obtain ⟨r, hr', rfl⟩ := Option.map_eq_some_iff.mp hd
          obtain ⟨ra, rxs, rfl, hrT, hrd⟩ : ∃ ra rxs, x = .ref ra ∧ SqT K (Tp H7) ra rxs ∧ DpAll K (Tp H7) rxs (r.map vD) := by
            have h' : Dp K (Tp H7) x (.tuple (r.map vD)) := dpr
            cases h' with | tup h1 h2 => exact ⟨_, _, rfl, h1, h2⟩
          have hT7 : (rowsN S Ls i).take (j + 1) = (rowsN S Ls i).take j ++ [r] := by rw [List.take_succ, hr']; rfl
          obtain ⟨gus, eG, dG⟩ := id LG
          have hgul := dps_len dG
          rw [List.length_map, prod_len, List.length_take] at hgul
          have hg1 : min j (rowsN S Ls i).length * (verW S Ls ((i : Nat) : Int)).length ≤ 48 * 7 := Nat.mul_le_mul (by omega) (by omega)
          have hrl := dps_len hrd
          rw [List.length_map] at hrl
          obtain ⟨mus, eM7, dM7⟩ := LM6.same s7
          have hmul := dps_len dM7
          rw [List.length_map] at hmul
          refine ⟨_, rfl, _, rfl, SM, rfl, ⟨_, SqL.of eM7⟩, fun R2 hR2 => lc_list (K := K) (a := SM) (xs := mus) (fun l HH => Same H7 HH ∧ LsT K HH R2 ((((verW S Ls ((i : Nat) : Int)).take l).map fun v => r ++ [v]).map rwD)) ⟨same_upd hR2, [], upd_same, .nil⟩ (fun l HH _ z => SqL.of (z.1 _ _ eM7)) ?_ ?_⟩
          · rintro l x HH hl ⟨q2, LR2⟩
            obtain ⟨d, hd, dpv⟩ := dps_get (dps_same (tp_same q2) _ _ dM7) hl
            rw [List.getElem?_map] at hd
            obtain ⟨vv, hvv, rfl⟩ := Option.map_eq_some_iff.mp hd
            have hll := (List.getElem?_eq_some_iff.mp hvv).1
            have hTl : (verW S Ls ((i : Nat) : Int)).take (l + 1) = (verW S Ls ((i : Nat) : Int)).take l ++ [vv] := by rw [List.take_succ, hvv]; rfl
            refine ⟨rfl, tyes_go ⟨_, rfl, _, rfl, by show 1 ≤ sizeLine; decide, fun tu htu => ?_⟩⟩
            have w1 := same_upd (o := .tup [x]) htu
            have etu : upd HH tu (.tup [x]) tu = some (.tup [x]) := upd_same
            have q3 := q2.trans w1
            have LR3 := LR2.same w1
            have dv3 := dp_same (tp_same w1) _ _ dpv
            generalize upd HH tu (.tup [x]) = HI at w1 etu q3 LR3 dv3 ⊢
            have hrT3 := same_seqT (tp_same q3) hrT
            have hrd3 := dps_same (tp_same q3) _ _ hrd
            have fin : ∀ (HJ : Hp) (p : Addr), Same HI HJ → Dp K (Tp HJ) (.ref p) (rwD (r ++ [vv])) → ∃ acc, HJ R2 = some (.lst acc) ∧ acc.length < sizeLine ∧ Same H7 (upd HJ R2 (.lst (acc ++ [.ref p]))) ∧ LsT K (upd HJ R2 (.lst (acc ++ [.ref p]))) R2 ((((verW S Ls ((i : Nat) : Int)).take (l + 1)).map fun v => r ++ [v]).map rwD) := fun HJ p w9 dp9 => by
              obtain ⟨rus, eR9, dR9⟩ := LR3.same w9
              have hru := dps_len dR9
              rw [List.length_map, List.length_map, List.length_take] at hru
              refine ⟨rus, eR9, by rw [sizeLine_eq]; omega, fun c o e => by rw [upd_ne (ne_of_none e hR2)]; exact w9 _ _ (q3 _ _ e), ?_⟩
              rw [hTl, List.map_append, List.map_append]
              exact LsT.push eR9 dR9 dp9
            refine ⟨ra, tu, rxs, [x], rfl, rfl, same_seqT tp_le hrT3, SqT.of etu, ?_, fun hx => ?_, fun _ hx => (by cases hx), fun _ _ p hp => ?_⟩
            · have hl6 := rowsN_row S Ls i r (List.mem_of_getElem? hr')
              rw [sizeLine_eq]
              simp
              omega
            · have hr0 : r = [] := List.eq_nil_of_length_eq_zero (by rw [← hrl, hx]; rfl)
              rw [hr0] at fin ⊢
              exact fin HI tu (Same.refl _) (.tup (SqT.of (tp_at etu rfl)) (.cons dv3 .nil))
            · have w9 := same_upd (o := .tup (rxs ++ [x])) hp
              refine fin _ p w9 (.tup (SqT.of (tp_at upd_same rfl)) ?_)
              rw [List.map_append]
              exact dps_app (dps_same (tp_same w9) _ _ hrd3) (.cons (dp_same (tp_same w9) _ _ dv3) .nil)
          · rintro H8 ⟨q2, LR2⟩
            rw [hmul, List.take_length] at LR2
            obtain ⟨rus, eR2, dR2⟩ := LR2
            have hru := dps_len dR2
            rw [List.length_map, List.length_map] at hru
            obtain ⟨gus, eG8, dG8⟩ := LG.same q2
            have hgul := dps_len dG8
            rw [List.length_map, prod_len, List.length_take] at hgul
            refine ⟨_, _, gus, rus, rfl, rfl, eG8, eR2, by rw [sizeLine_eq]; omega, fun GN hGN => ?_⟩
            have w9 := same_upd (o := .lst (gus ++ rus)) hGN
            refine ⟨GN, _, _, rfl, s7.trans (q2.trans w9), _, upd_same, ?_⟩
            rw [hT7, List.flatMap_append, List.map_append]
            refine dps_app (dps_same (tp_same w9) _ _ dG8) ?_
            simpa using dps_same (tp_same w9) _ _ dR2
        · rintro σ H7 ⟨GL, y6, y10, rfl, s7, LG⟩
          rw [hful, List.take_length] at LG
          exact ⟨_, rfl, GL, _, _, _, _, _, _, _, rfl, s6.trans s7, LG⟩
    · rintro σ H3 ⟨FL, y4, y5, y6, y7, y8, y9, y10, rfl, s3, LF⟩
      exact ⟨_, rfl, k H3 FL s3 LF⟩
end
end Pf

set_option Elab.async false
set_option linter.all false
set_option maxRecDepth 100000
set_option maxHeartbeats 4000000
namespace Pf
open PySem PySem.Spec PyProof.Rows L2
/-! ### the law's own lists beside the disk -/
def settleW (S : List Vl) (Ls : Lv) : List Vl := Ls.foldl (fun s q => s.set q.1.toNat q.2) S
theorem settle_w : ∀ (Ls : Lv) (S : List Vl), settleD (S.map vD) (lwD Ls) = (settleW S Ls).map vD
  | [], S => rfl
  | q :: Ls, S => by
    show settleD ((S.map vD).set q.1.toNat (vD q.2)) (lwD Ls) = (settleW (S.set q.1.toNat q.2) Ls).map vD
    rw [← List.map_set, settle_w Ls]
theorem settleW_len : ∀ (Ls : Lv) (S : List Vl), (settleW S Ls).length = S.length
  | [], S => rfl
  | q :: Ls, S => by
    show (settleW (S.set q.1.toNat q.2) Ls).length = _
    rw [settleW_len Ls, List.length_set]
theorem settleW_more {S : List Vl} {Ls : Lv} {i : Nat} {q : Int × Vl} (h : Ls[i]? = some q) : settleW S (Ls.take (i + 1)) = (settleW S (Ls.take i)).set q.1.toNat q.2 := by
  unfold settleW
  rw [List.take_succ, h, Option.toList_some, List.foldl_append]
  rfl
theorem lwD_app (Ls Ms : Lv) : lwD (Ls ++ Ms) = lwD Ls ++ lwD Ms := by unfold lwD; rw [List.map_append]
/-- what stands while the disk is written -/
structure KI (K : PySem.W.Frag) (C : Addr) (HB H : Hp) (a sc : Addr) (ns : List Int) (P dk SL LL TL : Addr) (N : Nat) (S : List Vl) (Ls : Lv) (es : List Ev) : Prop where
  b : But [a] HB H
  hb : DrawAt K HB a sc ns
  da : ∃ i : Int, H a = some (.lst [.ref sc, .int i])
  hP : HB P = some (.tbl #[])
  fd : HB dk = none
  fS : HB SL = none
  fL : HB LL = none
  fT : HB TL = none
  nSL : SL ≠ LL
  nST : SL ≠ TL
  nLT : LL ≠ TL
  k : DkV K C H dk S Ls
  s : LsT K H SL (S.map vD)
  l : LsT K H LL (Ls.map pD)
  t : LsT K H TL (es.map evD)
  r : rep (List.replicate N (vD (some []))) [] es = (S.map vD, lwD Ls)
  i : inR N es
  li : ∀ q ∈ Ls, 0 ≤ q.1 ∧ q.1 < ((N : Nat) : Int)
  sn : S.length = N
  n3 : N ≤ 3
  n1 : 1 ≤ N
  l5 : Ls.length ≤ 5
section
variable {K : PySem.W.Frag} {C : Addr} {HB H H' : Hp} {a sc : Addr} {ns : List Int} {P dk SL LL TL : Addr} {N : Nat} {S : List Vl} {Ls : Lv} {es : List Ev}
theorem KI.na (I : KI K C HB H a sc ns P dk SL LL TL N S Ls es) {x : Addr} (h : HB x = none) : x ≠ a := I.hb.ne h
theorem KI.d (I : KI K C HB H a sc ns P dk SL LL TL N S Ls es) : DrawAt K H a sc ns := I.hb.next I.b I.da
theorem KI.pa (I : KI K C HB H a sc ns P dk SL LL TL N S Ls es) : P ≠ a := fun z => by
  obtain ⟨i, e⟩ := I.hb.1
  have := I.hP
  rw [z, e] at this
  cases this
theorem KI.tab (I : KI K C HB H a sc ns P dk SL LL TL N S Ls es) : H P = some (.tbl #[]) := I.b.at I.hP (by simp [I.pa])
theorem KI.dS (I : KI K C HB H a sc ns P dk SL LL TL N S Ls es) {x : Addr} {us : List V} (e : H x = some (.lst us)) : dk ≠ x := fun z => by
  obtain ⟨sv, lv, ⟨dx, s, l, ts, e1, _⟩, _⟩ := I.k
  rw [z, e] at e1
  cases e1
/-- a draw -/
theorem KI.but (I : KI K C HB H a sc ns P dk SL LL TL N S Ls es) (z : But [a] H H') (D : DrawAt K H' a sc ns) : KI K C HB H' a sc ns P dk SL LL TL N S Ls es := by
  have f := I.d.frb z
  exact ⟨but_trans I.b z, I.hb, D.1, I.hP, I.fd, I.fS, I.fL, I.fT, I.nSL, I.nST, I.nLT, I.k.fr f (by simp [I.na I.fd]), I.s.fr f (by simp [I.na I.fS]), I.l.fr f (by simp [I.na I.fL]), I.t.fr f (by simp [I.na I.fT]), I.r, I.i, I.li, I.sn, I.n3, I.n1, I.l5⟩
theorem KI.same (I : KI K C HB H a sc ns P dk SL LL TL N S Ls es) (z : Same H H') : KI K C HB H' a sc ns P dk SL LL TL N S Ls es := I.but (But.of z) (I.d.same z)
/-- one of the fresh ones is written -/
theorem KI.put (I : KI K C HB H a sc ns P dk SL LL TL N S Ls es) {c : Addr} (hc : HB c = none) (z : Fr [c] H H') : But [a] HB H' ∧ ∃ i : Int, H' a = some (.lst [.ref sc, .int i]) := by
  have hca := I.na hc
  refine ⟨fun x o e => ?_, ?_⟩
  · have hx : x ≠ c := fun y => by
      rw [y, off_out (by simp [hca]), hc] at e
      cases e
    exact z.at (I.b _ _ e) (by simp [hx])
  · obtain ⟨i, e⟩ := I.da
    exact ⟨i, z.at e (by simp [hca.symm])⟩
end
end Pf

set_option Elab.async false
set_option linter.all false
set_option maxRecDepth 100000
set_option maxHeartbeats 4000000
namespace Pf
open PySem PySem.Spec PyProof.Rows L2
/-! ### the law -/
abbrev NLw : List Str := ["script", "draw", "settled", "loose", "trace", "turn", "value", "one", "late", "due", "rows", "choice", "some", "moment", "early", "again", "many_here", "wrong", "told", "disk", "many", "number", "plate"]
theorem scLaw : FnScope NLw ["script"] (defScope sLaw) := ⟨rfl, rfl, rfl, by decide +kernel, rfl, by decide +kernel, by decide +kernel⟩
abbrev stL (j : Nat) : Stmt := (defBody sLaw).getD j (.Pass ⟨0, 0, 0, 0⟩)
abbrev XL (P : Program) (w : World) (K : PySem.W.Frag) (mg : Str → Option Value) (base : Heap) (f : Addr) (cdv : Value) (A : Around) (outer : List Env) (s : Shared) (H0 : Hp) (E : XK) : Cx := (cxOf CX0 P w K mg base NLw "law" (defScope sLaw) f cdv A outer s H0 E).nox
theorem vs_rep (K : PySem.W.Frag) (H : Hp) (e : Addr) (ee : H e = some (.tup [])) : ∀ N : Nat, DpAll K (Tp H) (List.replicate N (.ref e)) ((List.replicate N (some [] : Vl)).map vD)
  | 0 => .nil
  | N + 1 => .cons (.tup (SqT.of (tp_at ee rfl)) .nil) (vs_rep K H e ee N)
theorem flat_rep {α : Type} (x : α) : ∀ N : Nat, (List.replicate N [x]).flatten = List.replicate N x
  | 0 => rfl
  | N + 1 => by rw [List.replicate_succ, List.flatten_cons, flat_rep x N]; rfl
section
variable {P : Program} {w : World} {K : PySem.W.Frag} {mg : Str → Option Value} {base : Heap} {C : Addr} {f : Addr} {cdv : Value} {A : Around} {outer : List Env} {s : Shared} {H0 : Hp} {E : XK} {rest : List Stmt} {u : TS}
theorem law_02 {fK fI : Addr} {dK dI : FuncData} (T : DTxt K C) (DK : Df P w K mg base CX0 3 "_law_pick" ["draw", "items"] (spPick K) fK dK) (MI : Mk K C fI) (GI : FnOk P w K mg base CX0 1 fI dI ["self", "many"] (spInit C)) (mgC : mg "Disk" = some (.ref C)) (bI : Binds K dI ["self", "many"] []) (hr : Room 6 (A.deeper (envOfC "law" (defScope sLaw) s.heap.objs.size f cdv))) (hU : PSs (XL P w K mg base f cdv A outer s H0 E) rest u) :
    ∃ t, PSs (XL P w K mg base f cdv A outer s H0 E) (stL 0 :: stL 1 :: stL 2 :: rest) t ∧ ∀ D σ H PT, (∃ (sc : Addr) (ss : List Int), σ = start NLw [V.ref sc] ∧ SqL K H sc (ss.map V.int) ∧ ss.length ≤ 63) → H PT = some (.tbl #[]) →
      (∀ HB H' a sc ns dk SL LL TL N, KI K C HB H' a sc ns PT dk SL LL TL N (List.replicate N (some [])) [] [] → u D [some (.ref sc), some (.ref a), some (.ref SL), some (.ref LL), some (.ref TL), none, none, none, none, none, none, none, none, none, none, none, none, none, none, some (.ref dk), some (.int ((N : Nat) : Int)), none, none] H') → t D σ H := by
  have nd := scLaw.nd
  have hu := hu_of hr
  have h1 : Room 1 _ := hr.mono (by decide)
  have h2 : Room 2 _ := hr.mono (by decide)
  have h3 : Room 3 _ := hr.mono (by decide)
  have h4 : Room 4 _ := hr.mono (by decide)
  refine ⟨_, (pss_cons (ps_set (i := 1) nd rfl (.inl rfl) (pe_lst (pa_cons (pv 0) (pa_cons pe_int pa_nil)))) (pss_cons (ps_set (i := 20) nd rfl (.inr rfl) (pe_call DK.G h3 rfl DK.g DK.kp DK.b .nil pass0 (pa_cons (pv 1) (pa_cons (pe_lst (pa_cons pe_int (pa_cons pe_int (pa_cons pe_int pa_nil)))) pa_nil)))) (pss_cons (ps_asg (pe_tup (pa_cons (pe_make MI GI h2 rfl mgC bI .nil pass0 (pa_cons (pv 20) pa_nil)) (pa_cons (pe_op op_rep (pe_lst (pa_cons (pe_tup pa_nil) pa_nil)) (pv 20)) (pa_cons (pe_lst pa_nil) (pa_cons (pe_lst pa_nil) pa_nil))))) (pg_tup rfl (pgs_cons (pg_name (i := 19) nd rfl (.inr rfl)) (pgs_cons (pg_name (i := 2) nd rfl (.inl rfl)) (pgs_cons (pg_name (i := 3) nd rfl (.inl rfl)) (pgs_cons (pg_name (i := 4) nd rfl (.inl rfl)) pgs_nil)))))) hU))), fun D σ H PT hI hPT nx => ?_⟩
  obtain ⟨sc, ss, rfl, hS, hlen⟩ := hI
  refine ⟨_, rfl, (by show 2 ≤ sizeLine; decide), fun a ha => ?_⟩
  have s1 := same_upd (o := .lst [.ref sc, .int 0]) ha
  have D1 : DrawAt K (upd H a (.lst [.ref sc, .int 0])) a sc ss := by
    refine ⟨⟨0, upd_same⟩, Same.seq (fun b o e => ?_) hS, hlen⟩
    rw [off_out (by simp [ne_of_none e ha])]
    exact s1 _ _ e
  have hP1 := s1 _ _ hPT
  generalize upd H a (.lst [.ref sc, .int 0]) = G at D1 hP1 ⊢
  refine ⟨_, rfl, (by show 3 ≤ sizeLine; decide), fun l1 hl1 => ?_⟩
  have t1 := same_upd (o := .lst [.int 1, .int 2, .int 3]) hl1
  refine ⟨a, l1, sc, ss, _, rfl, D1.same t1, upd_same, D1.ne hl1, by simp, fun v1 H1 m1 z1 D2 => ?_⟩
  obtain ⟨N, rfl, q1, q2⟩ : ∃ n : Nat, v1 = .int ((n : Nat) : Int) ∧ 1 ≤ n ∧ n ≤ 3 := by
    simp only [List.mem_cons, List.not_mem_nil, or_false] at m1
    rcases m1 with rfl | rfl | rfl
    · exact ⟨1, rfl, by decide, by decide⟩
    · exact ⟨2, rfl, by decide, by decide⟩
    · exact ⟨3, rfl, by decide, by decide⟩
  have nPa : PT ≠ a := fun z => by
    obtain ⟨i, e⟩ := D1.1
    rw [z, e] at hP1
    cases hP1
  have hP2 : H1 PT = some (.tbl #[]) := z1.at (t1 _ _ hP1) (by simp [nPa])
  refine ⟨_, rfl, fun dk dx hdk hdx hne => ?_⟩
  have sd : Same H1 (upd (upd H1 dx (.own dk)) dk (.ins C dx [])) := fun b o z => by
    rw [upd_ne (ne_of_none z hdk), upd_ne (ne_of_none z hdx)]
    exact z
  refine ⟨dk, dx, ((N : Nat) : Int), rfl, upd_same, by omega, by omega, fun H2 e b2 he0 ee Dk => ⟨rfl, ?_⟩⟩
  have s2 : Same H1 H2 := fun b o z => b2.at (sd _ _ z) (by simp only [List.mem_cons, List.not_mem_nil, or_false]; exact ne_of_none z hdk)
  rw [Int.toNat_natCast] at Dk
  have Dk2 : DkV K C H2 dk (List.replicate N (some [])) [] := ⟨_, [], by rw [List.length_map, List.length_replicate]; exact Dk, vs_rep K H2 e ee N, rfl, .nil⟩
  refine ⟨Nat.zero_le _, fun e2 he2 => ⟨by show 1 ≤ sizeLine; decide, fun p2 hp2 => ?_⟩⟩
  have w3 := same_upd (o := .tup []) he2
  have ee3 : upd H2 e2 (.tup []) e2 = some (.tup []) := upd_same
  generalize upd H2 e2 (.tup []) = H3 at w3 ee3 hp2 ⊢
  have w4 := same_upd (o := .lst [.ref e2]) hp2
  have ep4 : upd H3 p2 (.lst [.ref e2]) p2 = some (.lst [.ref e2]) := upd_same
  generalize upd H3 p2 (.lst [.ref e2]) = H4 at w4 ep4 ⊢
  refine ⟨_, rfl, p2, _, [.ref e2], rfl, rfl, ep4, by omega, by omega, by rw [sizeLine_eq]; simp; omega, fun SL hSL => ?_⟩
  rw [Int.toNat_natCast, flat_rep]
  have w5 := same_upd (o := .lst (List.replicate N (.ref e2))) hSL
  have LS5 : LsT K (upd H4 SL (.lst (List.replicate N (.ref e2)))) SL ((List.replicate N (some [] : Vl)).map vD) := ⟨_, upd_same, vs_rep K _ e2 (w5 _ _ (w4 _ _ ee3)) N⟩
  have s25 := (w3.trans w4).trans w5
  have eS5 : upd H4 SL (.lst (List.replicate N (.ref e2))) SL ≠ none := by rw [upd_same]; simp
  generalize upd H4 SL (.lst (List.replicate N (.ref e2))) = H5 at w5 LS5 s25 eS5 ⊢
  refine ⟨Nat.zero_le _, fun LL hLL => ?_⟩
  have w6 := same_upd (o := .lst []) hLL
  have eL6 : upd H5 LL (.lst []) LL = some (.lst []) := upd_same
  have nSL : SL ≠ LL := fun z => by rw [z, hLL] at eS5; exact eS5 rfl
  have nS6 : upd H5 LL (.lst []) SL ≠ none := by
    rw [upd_ne nSL]; exact eS5
  generalize upd H5 LL (.lst []) = H6 at w6 eL6 nS6 ⊢
  refine ⟨Nat.zero_le _, fun TL hTL => ?_⟩
  have w7 := same_upd (o := .lst []) hTL
  have eT7 : upd H6 TL (.lst []) TL = some (.lst []) := upd_same
  have nLT : LL ≠ TL := fun z => by rw [z, hTL] at eL6; cases eL6
  have nST : SL ≠ TL := fun z => by rw [z, hTL] at nS6; exact nS6 rfl
  generalize upd H6 TL (.lst []) = H7 at w7 eT7 ⊢
  refine ⟨by show 4 ≤ sizeLine; decide, fun tp htp => ?_⟩
  have w8 := same_upd (o := .tup [V.ref dk, .ref SL, .ref LL, .ref TL]) htp
  refine ⟨tp, _, rfl, SqT.of upd_same, rfl, _, _, rfl, _, _, rfl, _, _, rfl, _, _, rfl, rfl, ?_⟩
  generalize upd H7 tp (.tup [V.ref dk, .ref SL, .ref LL, .ref TL]) = H8 at w8 ⊢
  have s28 := ((s25.trans w6).trans w7).trans w8
  have s18 := s2.trans s28
  have hb0 : ∀ x, H4 x = none → H1 x = none := fun x hx => (s2.trans (w3.trans w4)).free hx
  obtain ⟨i8, e8⟩ := D2.1
  exact nx H1 H8 a sc ss dk SL LL TL N ⟨But.of s18, D2, ⟨i8, s18 _ _ e8⟩, hP2, hdk, hb0 _ hSL, (s2.trans s25).free hLL, (s2.trans (s25.trans w6)).free hTL, nSL, nST, nLT, Dk2.same s28, LS5.same ((w6.trans w7).trans w8), ⟨[], w8 _ _ (w7 _ _ eL6), .nil⟩, ⟨[], w8 _ _ eT7, .nil⟩, (by rw [List.map_replicate]; rfl), fun p e h => (by cases h), fun q h => (by cases h), List.length_replicate, q2, q1, (by simp)⟩
end
end Pf

set_option Elab.async false
set_option linter.all false
set_option maxRecDepth 100000
set_option maxHeartbeats 4000000
namespace Pf
open PySem PySem.Spec PyProof.Rows L2
def BA (HB H : Hp) (a sc : Addr) : Prop := But [a] HB H ∧ ∃ i : Int, H a = some (.lst [.ref sc, .int i])
theorem BA.put {HB H H' : Hp} {a sc c : Addr} (h : BA HB H a sc) (hc : HB c = none) (hca : c ≠ a) (z : Fr [c] H H') : BA HB H' a sc := by
  refine ⟨fun x o e => ?_, ?_⟩
  · have hx : x ≠ c := fun y => by
      rw [y, off_out (by simp [hca]), hc] at e
      cases e
    exact z.at (h.1 _ _ e) (by simp [hx])
  · obtain ⟨i, e⟩ := h.2
    exact ⟨i, z.at e (by simp [hca.symm])⟩
theorem BA.same {HB H H' : Hp} {a sc : Addr} (h : BA HB H a sc) (z : Same H H') : BA HB H' a sc := ⟨but_same h.1 z, let ⟨i, e⟩ := h.2; ⟨i, z _ _ e⟩⟩
theorem dpsSet {K : PySem.W.Frag} {H : Hp} : ∀ {vs : List V} {ds : List PyData} (i : Nat) {v : V} {d : PyData}, DpAll K H vs ds → Dp K H v d → DpAll K H (vs.set i v) (ds.set i d)
  | [], _, _, _, _, h, _ => by cases h; exact .nil
  | _ :: _, _, 0, _, _, h, hv => by cases h with | cons h1 h2 => exact .cons hv h2
  | _ :: _, _, i + 1, _, _, h, hv => by cases h with | cons h1 h2 => exact .cons h1 (dpsSet i h2 hv)
theorem lwD_len (Ls : Lv) : (lwD Ls).length = Ls.length := by unfold lwD; rw [List.length_map]
section
variable {K : PySem.W.Frag} {C : Addr} {HB H H' : Hp} {a sc : Addr} {ns : List Int} {PT dk SL LL TL : Addr} {N : Nat} {S : List Vl} {Ls : Lv} {es : List Ev}
/-- what is known of the disk's own fields -/
theorem KI.disk (I : KI K C HB H a sc ns PT dk SL LL TL N S Ls es) : ∃ sv lv, DiskAt C H dk ((N : Nat) : Int) sv lv ∧ DpAll K (Tp H) sv (S.map vD) ∧ LvD K (Tp H) lv (lwD Ls) ∧ lv.length = Ls.length ∧ InB ((N : Nat) : Int) lv := by
  obtain ⟨sv, lv, D, D2, D3⟩ := I.k
  rw [List.length_map, I.sn] at D
  have hl : lv.length = Ls.length := by
    have := congrArg List.length D3.1
    rw [List.length_map, List.length_map, lwD_len] at this
    exact this
  refine ⟨sv, lv, D, D2, D3, hl, fun z hz => ?_⟩
  have h1 : z.1 ∈ lv.map (·.1) := List.mem_map.mpr ⟨z, hz, rfl⟩
  rw [D3.1] at h1
  unfold lwD at h1
  rw [List.map_map] at h1
  obtain ⟨z', hz1, hz2⟩ := List.mem_map.mp h1
  rw [← hz2]
  exact I.li z' hz1
end
section
variable {P : Program} {w : World} {K : PySem.W.Frag} {mg : Str → Option Value} {base : Heap} {C : Addr} {f : Addr} {cdv : Value} {A : Around} {outer : List Env} {s : Shared} {H0 : Hp} {E : XK} {rest : List Stmt} {u : TS}
theorem law_3 {fK fT fB fW : Addr} {dK dT dB dW : FuncData} (T : DTxt K C) (DK : Df P w K mg base CX0 3 "_law_pick" ["draw", "items"] (spPick K) fK dK) (DT : Df P w K mg base CX0 2 "_law_take" ["draw", "many"] (spTake K) fT dT) (MB : Me P w K mg base 1 C "barrier" ["self"] (spBar C) fB dB) (MW : Me P w K mg base 3 C "write" ["self", "plate", "value"] (spWrite C) fW dW) (mr : mg "range" = none) (mln : mg "len" = none) (hr : Room 6 (A.deeper (envOfC "law" (defScope sLaw) s.heap.objs.size f cdv))) (hU : PSs (XL P w K mg base f cdv A outer s H0 E) rest u) :
    ∃ t, PSs (XL P w K mg base f cdv A outer s H0 E) (stL 3 :: rest) t ∧ ∀ D HB H a sc ns PT dk SL LL TL N S, KI K C HB H a sc ns PT dk SL LL TL N S [] [] →
      (∀ H' LL S Ls es y5 y6 y22, KI K C HB H' a sc ns PT dk SL LL TL N S Ls es → es.length ≤ 8 → u D [some (.ref sc), some (.ref a), some (.ref SL), some (.ref LL), some (.ref TL), y5, y6, none, none, none, none, none, none, none, none, none, none, none, none, some (.ref dk), some (.int ((N : Nat) : Int)), none, y22] H') → t D [some (.ref sc), some (.ref a), some (.ref SL), some (.ref LL), some (.ref TL), none, none, none, none, none, none, none, none, none, none, none, none, none, none, some (.ref dk), some (.int ((N : Nat) : Int)), none, none] H := by
  have nd := scLaw.nd
  have hu := hu_of hr
  have h1 : Room 1 _ := hr.mono (by decide)
  have h2 : Room 2 _ := hr.mono (by decide)
  have h3 : Room 3 _ := hr.mono (by decide)
  have h4 : Room 4 _ := hr.mono (by decide)
  refine ⟨_, (pss_cons (ps_for PassesOwn.never rfl (pi_range1 (by rfl) mr (pa_cons (pe_call DK.G h3 rfl DK.g DK.kp DK.b .nil pass0 (pa_cons (pv 1) (pa_cons (pe_lst (pa_cons pe_int (pa_cons pe_int (pa_cons pe_int pa_nil)))) pa_nil))) pa_nil)) (pg_name (i := 5) nd rfl (.inl rfl)) (pss_one (ps_if (pt_cmpR op_eq (pe_call DT.G h2 rfl DT.g DT.kp DT.b .nil pass0 (pa_cons (pv 1) (pa_cons pe_int pa_nil))) pe_int (nomark _)) (pss_cons (ps_expr (pe_meth0 (pv 19) T.cl MB.m MB.G h1 MB.b .nil pass0)) (pss_cons (ps_expr (pe_bm PySem.F.plainAttrs_list PySem.F.slot_list_append PySem.F.type_list_append mt_append (pv 4) (pa_cons (pe_tup (pa_cons pe_str pa_nil)) pa_nil))) (pss_cons (ps_for PassesOwn.never rfl (pi_list (pv 3)) (pg_tup rfl (pgs_cons (pg_name (i := 22) nd rfl (.inr rfl)) (pgs_cons (pg_name (i := 6) nd rfl (.inl rfl)) pgs_nil))) (pss_one (ps_asg (pv 6) (pg_sub (pv 2) (pv 22) set_list)))) (pss_one (ps_set (i := 3) nd rfl (.inl rfl) (pe_lst pa_nil)))))) (pss_one (ps_if (pt_cmpR op_lt (pe_callB call_len_seq (by rfl) mln boot_len (pa_cons (pv 3) pa_nil)) pe_int (nomark _)) (pss_cons (ps_asg (pe_tup (pa_cons (pe_call DT.G h2 rfl DT.g DT.kp DT.b .nil pass0 (pa_cons (pv 1) (pa_cons (pv 20) pa_nil))) (pa_cons (pe_tup (pa_cons (pe_call DT.G h2 rfl DT.g DT.kp DT.b .nil pass0 (pa_cons (pv 1) (pa_cons pe_int pa_nil))) pa_nil)) pa_nil))) (pg_tup rfl (pgs_cons (pg_name (i := 22) nd rfl (.inr rfl)) (pgs_cons (pg_name (i := 6) nd rfl (.inl rfl)) pgs_nil)))) (pss_cons (ps_expr (pe_meth (pv 19) T.cl MW.m MW.G h3 MW.b .nil pass0 (pa_cons (pv 22) (pa_cons (pv 6) pa_nil)))) (pss_cons (ps_expr (pe_bm PySem.F.plainAttrs_list PySem.F.slot_list_append PySem.F.type_list_append mt_append (pv 4) (pa_cons (pe_tup (pa_cons pe_str (pa_cons (pv 22) (pa_cons (pv 6) pa_nil)))) pa_nil))) (pss_one (ps_expr (pe_bm PySem.F.plainAttrs_list PySem.F.slot_list_append PySem.F.type_list_append mt_append (pv 3) (pa_cons (pe_tup (pa_cons (pv 22) (pa_cons (pv 6) pa_nil))) pa_nil))))))) pss_nil))))) hU), fun D HB H a sc ns PT dk SL LL TL N S I0 nx => ?_⟩
  refine ⟨_, rfl, (by show 3 ≤ sizeLine; decide), fun l1 hl1 => ?_⟩
  have t1 := same_upd (o := .lst [.int 2, .int 5, .int 8]) hl1
  refine ⟨a, l1, sc, ns, _, rfl, I0.d.same t1, upd_same, I0.d.ne hl1, by simp, fun v1 H1 m1 z1 D1 => ?_⟩
  obtain ⟨n, rfl, q2⟩ : ∃ n : Nat, v1 = .int ((n : Nat) : Int) ∧ n ≤ 8 := by
    simp only [List.mem_cons, List.not_mem_nil, or_false] at m1
    rcases m1 with rfl | rfl | rfl
    · exact ⟨2, rfl, by decide⟩
    · exact ⟨5, rfl, by decide⟩
    · exact ⟨8, rfl, by decide⟩
  have I1 := (I0.same t1).but z1 D1
  refine ⟨_, rfl, by omega, by omega, ?_⟩
  rw [Int.toNat_natCast]
  refine for_range (lo := 0) (n := n) (fun i σ H' => ∃ LL S Ls es y5 y6 y22, σ = [some (.ref sc), some (.ref a), some (.ref SL), some (.ref LL), some (.ref TL), y5, y6, none, none, none, none, none, none, none, none, none, none, none, none, some (.ref dk), some (.int ((N : Nat) : Int)), none, y22] ∧ KI K C HB H' a sc ns PT dk SL LL TL N S Ls es ∧ es.length ≤ i) ⟨LL, S, [], [], none, none, none, rfl, I1, Nat.le_refl _⟩ ?_ ?_
  · rintro i σ H2 hi ⟨LL, S, Ls, es, y5, y6, y22, rfl, I2, hes⟩
    refine ⟨_, rfl, a, sc, ns, 4, rfl, I2.d, by decide, fun r H3 r0 r1 z3 D3 => ⟨rfl, _, rfl, ite2 (fun c => ?_) (fun c => ?_)⟩⟩
    · have I3 := I2.but z3 D3
      obtain ⟨sv, lv, DA, DS, DL, hlv, hib⟩ := I3.disk
      obtain ⟨dx, sA, lA, ts, e1, _⟩ := id DA
      have hl5 := I3.l5
      have hn3 := I3.n3
      refine ⟨_, rfl, dk, dx, _, rfl, e1, fl_no _ _ _ (by decide +kernel) (by decide +kernel) (by decide +kernel), dk, _, sv, lv, rfl, DA, hib, by omega, fun H4 f4 D4 => ?_⟩
      have Dk4 : DkV K C H4 dk (settleW S Ls) [] := ⟨settleV sv lv, [], by rw [List.length_map, settleW_len, I3.sn]; exact D4, by rw [← settle_w]; exact dps_same f4.tp _ _ (settle_dp DL DS), rfl, .nil⟩
      have B4 := BA.put ⟨I3.b, I3.da⟩ I3.fd (I3.na I3.fd) f4
      obtain ⟨sus, eS3, _⟩ := id I3.s
      obtain ⟨lus3, eL3, _⟩ := id I3.l
      obtain ⟨tus3, eT3, _⟩ := id I3.t
      have ndS := I3.dS eS3
      have ndL := I3.dS eL3
      have ndT := I3.dS eT3
      have LS4 := I3.s.fr f4 (by simp [ndS.symm])
      have LL4 := I3.l.fr f4 (by simp [ndL.symm])
      obtain ⟨tus, eT4, dT4⟩ := I3.t.fr f4 (by simp [ndT.symm])
      have htl := dps_len dT4
      rw [List.length_map] at htl
      refine ⟨_, rfl, .inl ⟨rfl, _, SqL.of eT4⟩, by show 1 ≤ sizeLine; decide, fun q hq => ?_⟩
      have w5 := same_upd (o := .tup [V.str "barrier"]) hq
      have eq5 : upd H4 q (.tup [V.str "barrier"]) q = some (.tup [V.str "barrier"]) := upd_same
      have eT5 := w5 _ _ eT4
      have dT5 := dps_same (tp_same w5) _ _ dT4
      have Dk5 := Dk4.same w5
      have LS5 := LS4.same w5
      have LL5 := LL4.same w5
      have B5 := B4.same w5
      generalize upd H4 q (.tup [V.str "barrier"]) = H5 at w5 eq5 eT5 dT5 Dk5 LS5 LL5 B5 ⊢
      refine ⟨TL, tus, .ref q, rfl, rfl, eT5, by rw [sizeLine_eq]; omega, ?_⟩
      have f6 : Fr [TL] H5 (upd H5 TL (.lst (tus ++ [.ref q]))) := .put (by simp) fun o z => by rw [eT5] at z; cases z; rfl
      have LT6 : LsT K (upd H5 TL (.lst (tus ++ [.ref q]))) TL ((es ++ [Ev.b]).map evD) := by
        rw [List.map_append]
        exact LsT.push eT5 dT5 (.tup (SqT.of (tp_at eq5 rfl)) (.cons (.str _) .nil))
      have Dk6 := Dk5.fr f6 (by simp [ndT])
      have LS6 := LS5.fr f6 (by simp [I3.nST])
      have LL6 := LL5.fr f6 (by simp [I3.nLT])
      have B6 := B5.put I3.fT (I3.na I3.fT) f6
      generalize upd H5 TL (.lst (tus ++ [.ref q])) = H6 at f6 LT6 Dk6 LS6 LL6 B6 ⊢
      obtain ⟨lus, eL6, dL6⟩ := id LL6
      have hll := dps_len dL6
      rw [List.length_map] at hll
      refine ⟨_, rfl, LL, rfl, ⟨_, SqL.of eL6⟩, for_list (K := K) (a := LL) (xs := lus) (fun j σ H' => ∃ y5 y6 y22, σ = [some (.ref sc), some (.ref a), some (.ref SL), some (.ref LL), some (.ref TL), y5, y6, none, none, none, none, none, none, none, none, none, none, none, none, some (.ref dk), some (.int ((N : Nat) : Int)), none, y22] ∧ Fr [SL] H6 H' ∧ LsT K H' SL ((settleW S (Ls.take j)).map vD)) ⟨_, _, _, rfl, .of (Same.refl _), LS6⟩ (fun j σ H' _ z => by obtain ⟨_, _, _, _, z, _⟩ := z; exact SqL.of (z.at eL6 (by simp [I3.nSL.symm]))) ?_ ?_⟩
      · rintro j x σ H7 hj ⟨y5, y6, y22, rfl, f7, LS7⟩
        obtain ⟨d, hd, dp⟩ := dps_get (dps_same f7.tp _ _ dL6) hj
        rw [List.getElem?_map] at hd
        obtain ⟨qq, hqq, rfl⟩ := Option.map_eq_some_iff.mp hd
        obtain ⟨t, v1, v2, rfl, hT, d1, d2⟩ := dp_two dp
        have e1' := dp_intv d1
        subst e1'
        obtain ⟨hp0, hp1⟩ := I3.li qq (List.mem_of_getElem? hqq)
        obtain ⟨sus7, eS7, dS7⟩ := LS7
        have hsl := dps_len dS7
        rw [List.length_map, settleW_len, I3.sn] at hsl
        have hix : ixN sus7.length qq.1 = some qq.1.toNat := by
          have := ixN_nn (n := sus7.length) (j := qq.1.toNat) (by omega)
          rw [show ((qq.1.toNat : Nat) : Int) = qq.1 by omega] at this
          exact this
        refine ⟨t, _, rfl, same_seqT tp_le hT, rfl, _, _, rfl, _, _, rfl, rfl, ?_⟩
        refine ⟨_, rfl, _, rfl, _, rfl, SL, sus7, qq.1, qq.1.toNat, rfl, rfl, eS7, hix, ?_⟩
        have f8 : Fr [SL] H7 (upd H7 SL (.lst (sus7.set qq.1.toNat v2))) := .put (by simp) fun o z => by rw [eS7] at z; cases z; rfl
        refine ⟨_, _, _, rfl, f7.trans f8, _, upd_same, ?_⟩
        rw [settleW_more hqq, List.map_set]
        exact dpsSet _ (dps_same f8.tp _ _ dS7) (dp_same f8.tp _ _ d2)
      · rintro σ H7 ⟨y5, y6, y22, rfl, f7, LS7⟩
        rw [hll, List.take_length] at LS7
        have Dk7 := Dk6.fr f7 (by simp [ndS])
        have LT7 := LT6.fr f7 (by simp [I3.nST.symm])
        have B7 := B6.put I3.fS (I3.na I3.fS) f7
        refine ⟨Nat.zero_le _, fun L' hL' => ?_⟩
        have w8 := same_upd (o := .lst []) hL'
        obtain ⟨sus8, eS8, _⟩ := id LS7
        obtain ⟨tus8, eT8, _⟩ := id LT7
        have hna : L' ≠ a := fun z => by
          obtain ⟨i0, e0⟩ := B7.2
          rw [z, e0] at hL'
          cases hL'
        refine ⟨L', settleW S Ls, [], es ++ [Ev.b], _, _, _, rfl, ⟨(B7.same w8).1, I3.hb, (B7.same w8).2, I3.hP, I3.fd, I3.fS, But.free B7.1 hL' (by simp [hna]), I3.fT, fun z => (by rw [z, hL'] at eS8; cases eS8), I3.nST, fun z => (by rw [z, eT8] at hL'; cases hL'), Dk7.same w8, LS7.same w8, ⟨[], upd_same, .nil⟩, LT7.same w8, ?_, ?_, fun q hq => (by cases hq), by rw [settleW_len]; exact I3.sn, I3.n3, I3.n1, by simp⟩, by rw [List.length_append, List.length_singleton]; omega⟩
        · rw [rep_app, I3.r]
          show (settleD (S.map vD) (lwD Ls), []) = _
          rw [settle_w]
          rfl
        · intro p e hp
          rcases List.mem_append.mp hp with h | h
          · exact I3.i p e h
          · cases List.mem_singleton.mp h
    · have I3 := I2.but z3 D3
      obtain ⟨lus3, eL3, dL3⟩ := id I3.l
      have hll3 := dps_len dL3
      rw [List.length_map] at hll3
      refine ⟨_, rfl, LL, lus3, rfl, .inl (SqL.of eL3), _, _, rfl, rfl, _, rfl, ite2 (fun c5 => ?_) (fun c5 => ?_)⟩
      · have hl5 : Ls.length < 5 := by
          have := of_decide_eq_true c5
          omega
        refine ⟨_, rfl, _, rfl, a, sc, ns, ((N : Nat) : Int), rfl, I3.d, by have := I3.n1; omega, fun p H4 p0 p1 z4 D4 => ?_⟩
        have I4 := I3.but z4 D4
        refine ⟨_, rfl, a, sc, ns, 3, rfl, D4, by decide, fun x H5 x0 x1 z5 D5 => ?_⟩
        have I5 := I4.but z5 D5
        refine ⟨by show 1 ≤ sizeLine; decide, fun q hq => ?_⟩
        have w6 := same_upd (o := .tup [V.int x]) hq
        have eq6 : upd H5 q (.tup [V.int x]) q = some (.tup [V.int x]) := upd_same
        have I6 := I5.same w6
        generalize upd H5 q (.tup [V.int x]) = H6 at w6 eq6 I6 ⊢
        refine ⟨by show 2 ≤ sizeLine; decide, fun pr hpr => ?_⟩
        have w7 := same_upd (o := .tup [V.int p, .ref q]) hpr
        have I7 := I6.same w7
        have eq7 := w7 _ _ eq6
        refine ⟨pr, _, rfl, SqT.of upd_same, rfl, _, _, rfl, _, _, rfl, rfl, ?_⟩
        generalize upd H6 pr (.tup [V.int p, .ref q]) = H7 at w7 I7 eq7 ⊢
        have dq7 : Dp K (Tp H7) (.ref q) (vD (some [x])) := .tup (SqT.of (tp_at eq7 rfl)) (.cons (.int x) .nil)
        obtain ⟨sv, lv, DA, DS, DL, hlv, hib⟩ := I7.disk
        obtain ⟨dx, sA, lA, ts, e1, _⟩ := id DA
        refine ⟨_, rfl, dk, dx, _, rfl, e1, fl_no _ _ _ (by decide +kernel) (by decide +kernel) (by decide +kernel), _, rfl, _, rfl, dk, _, p, .ref q, sv, lv, rfl, DA, p0, p1, by omega, fun H8 b8 D8 => ?_⟩
        have f8 : Fr [dk] H7 H8 := .but b8 (fun c hc u z => by rw [List.mem_singleton.mp hc] at z; exact DA.obj u z)
        have B8 := BA.put ⟨I7.b, I7.da⟩ I7.fd (I7.na I7.fd) f8
        obtain ⟨sus, eS7, _⟩ := id I7.s
        obtain ⟨lus7, eL7, _⟩ := id I7.l
        obtain ⟨tus7, eT7, _⟩ := id I7.t
        have ndS := I7.dS eS7
        have ndL := I7.dS eL7
        have ndT := I7.dS eT7
        have LS8 := I7.s.fr f8 (by simp [ndS.symm])
        have LL8 := I7.l.fr f8 (by simp [ndL.symm])
        obtain ⟨tus, eT8, dT8⟩ := I7.t.fr f8 (by simp [ndT.symm])
        have htl := dps_len dT8
        rw [List.length_map] at htl
        have dq8 := dp_same f8.tp _ _ dq7
        have Dk8 : DkV K C H8 dk S (Ls ++ [(p, some [x])]) := by
          refine ⟨sv, lv ++ [(p, .ref q)], by rw [List.length_map, I7.sn]; exact D8, dps_same f8.tp _ _ DS, ?_, ?_⟩
          · rw [lwD_app, List.map_append, List.map_append, DL.1]; rfl
          · rw [lwD_app, List.map_append, List.map_append]
            exact dps_app (dps_same f8.tp _ _ DL.2) (.cons dq8 .nil)
        refine ⟨_, rfl, .inl ⟨rfl, _, SqL.of eT8⟩, _, rfl, _, rfl, by show 3 ≤ sizeLine; decide, fun q2 hq2 => ?_⟩
        have w9 := same_upd (o := .tup [V.str "write", .int p, .ref q]) hq2
        have eq9 : upd H8 q2 (.tup [V.str "write", .int p, .ref q]) q2 = some (.tup [V.str "write", .int p, .ref q]) := upd_same
        have eT9 := w9 _ _ eT8
        have dT9 := dps_same (tp_same w9) _ _ dT8
        have dq9 := dp_same (tp_same w9) _ _ dq8
        have Dk9 := Dk8.same w9
        have LS9 := LS8.same w9
        have LL9 := LL8.same w9
        have B9 := B8.same w9
        generalize upd H8 q2 (.tup [V.str "write", .int p, .ref q]) = H9 at w9 eq9 eT9 dT9 dq9 Dk9 LS9 LL9 B9 ⊢
        refine ⟨TL, tus, .ref q2, rfl, rfl, eT9, by rw [sizeLine_eq]; omega, ?_⟩
        have fA : Fr [TL] H9 (upd H9 TL (.lst (tus ++ [.ref q2]))) := .put (by simp) fun o z => by rw [eT9] at z; cases z; rfl
        have LTA : LsT K (upd H9 TL (.lst (tus ++ [.ref q2]))) TL ((es ++ [Ev.w p (vD (some [x]))]).map evD) := by
          rw [List.map_append]
          exact LsT.push eT9 dT9 (.tup (SqT.of (tp_at eq9 rfl)) (.cons (.str _) (.cons (.int _) (.cons dq9 .nil))))
        have DkA := Dk9.fr fA (by simp [ndT])
        have LSA := LS9.fr fA (by simp [I7.nST])
        have LLA := LL9.fr fA (by simp [I7.nLT])
        have BA' := B9.put I7.fT (I7.na I7.fT) fA
        have dqA := dp_same fA.tp _ _ dq9
        generalize upd H9 TL (.lst (tus ++ [.ref q2])) = HA at fA LTA DkA LSA LLA BA' dqA ⊢
        obtain ⟨lus, eLA, dLA⟩ := LLA
        have hll := dps_len dLA
        rw [List.length_map] at hll
        refine ⟨_, rfl, .inl ⟨rfl, _, SqL.of eLA⟩, _, rfl, _, rfl, by show 2 ≤ sizeLine; decide, fun q3 hq3 => ?_⟩
        have wB := same_upd (o := .tup [V.int p, .ref q]) hq3
        have eqB : upd HA q3 (.tup [V.int p, .ref q]) q3 = some (.tup [V.int p, .ref q]) := upd_same
        have eLB := wB _ _ eLA
        have dLB := dps_same (tp_same wB) _ _ dLA
        have dqB := dp_same (tp_same wB) _ _ dqA
        have DkB := DkA.same wB
        have LSB := LSA.same wB
        have LTB := LTA.same wB
        have BB := BA'.same wB
        generalize upd HA q3 (.tup [V.int p, .ref q]) = HB9 at wB eqB eLB dLB dqB DkB LSB LTB BB ⊢
        refine ⟨LL, lus, .ref q3, rfl, rfl, eLB, by rw [sizeLine_eq]; omega, ?_⟩
        have fC : Fr [LL] HB9 (upd HB9 LL (.lst (lus ++ [.ref q3]))) := .put (by simp) fun o z => by rw [eLB] at z; cases z; rfl
        have LLC : LsT K (upd HB9 LL (.lst (lus ++ [.ref q3]))) LL ((Ls ++ [(p, some [x])]).map pD) := by
          rw [List.map_append]
          exact LsT.push eLB dLB (.tup (SqT.of (tp_at eqB rfl)) (.cons (.int _) (.cons dqB .nil)))
        have BC := BB.put I7.fL (I7.na I7.fL) fC
        refine ⟨LL, S, Ls ++ [(p, some [x])], es ++ [Ev.w p (vD (some [x]))], _, _, _, rfl, ⟨BC.1, I7.hb, BC.2, I7.hP, I7.fd, I7.fS, I7.fL, I7.fT, I7.nSL, I7.nST, I7.nLT, DkB.fr fC (by simp [ndL]), LSB.fr fC (by simp [I7.nSL]), LLC, LTB.fr fC (by simp [I7.nLT.symm]), ?_, ?_, ?_, I7.sn, I7.n3, I7.n1, by rw [List.length_append, List.length_singleton]; omega⟩, by rw [List.length_append, List.length_singleton]; omega⟩
        · rw [rep_app, I7.r, lwD_app]
          rfl
        · intro p' e hp
          rcases List.mem_append.mp hp with h | h
          · exact I7.i p' e h
          · cases List.mem_singleton.mp h
            exact ⟨p0, p1⟩
        · intro z hz
          rcases List.mem_append.mp hz with h | h
          · exact I7.li z h
          · rw [List.mem_singleton.mp h]
            exact ⟨p0, p1⟩
      · exact ⟨LL, S, Ls, es, _, _, _, rfl, I3, by omega⟩
  · rintro σ H2 ⟨LL, S, Ls, es, y5, y6, y22, rfl, I2, hes⟩
    exact nx H2 LL S Ls es y5 y6 y22 I2 (by omega)
end
end Pf

set_option Elab.async false
set_option linter.all false
set_option maxRecDepth 100000
set_option maxHeartbeats 4000000
namespace Pf
open PySem PySem.Spec PyProof.Rows L2
/-! ### what the disk tells of itself -/
theorem ok_p (q : Int × Vl) : OkD (pD q) := by
  have h := ok_v q.2
  refine ⟨?_, ?_⟩
  · show PyData.canLay0 (.tuple [.int q.1, vD q.2]) = true
    simp only [PyData.canLay0, PyData.canLayAll0, h.1]
    rfl
  · have h2 := h.2
    have h3 : (vD q.2).depth ≤ 1 := by
      cases q.2 with
      | none => simp [vD, PyData.depth]
      | some l => simp only [vD, PyData.depth, dep_ints]; omega
    show PyData.depth (.tuple [.int q.1, vD q.2]) ≤ 8
    simp only [PyData.depth, PyData.depthAll]
    omega
theorem LsAt.tail {H : Hp} {t : V} {ts : List V} {q : Int × V} {lv : List (Int × V)} (h : LsAt H (t :: ts) (q :: lv)) : (∃ b, t = .ref b ∧ H b = some (.tup [.int q.1, q.2])) ∧ LsAt H ts lv := by
  refine ⟨?_, ?_, fun i r e => ?_⟩
  · obtain ⟨b, e1, e2⟩ := h.2 0 q rfl
    exact ⟨b, Option.some.inj e1, e2⟩
  · have := h.1
    simpa using this
  · exact h.2 (i + 1) r e
theorem ls_dp {K : PySem.W.Frag} {H : Hp} : ∀ {Ls : Lv} {lv : List (Int × V)} {ts : List V}, LsAt H ts lv → LvD K (Tp H) lv (lwD Ls) → DpAll K (Tp H) ts (Ls.map pD)
  | [], lv, ts, hL, hD => by
    have h1 := congrArg List.length hD.1
    rw [List.length_map] at h1
    have h2 : lv = [] := List.eq_nil_of_length_eq_zero h1
    subst h2
    have h3 : ts = [] := List.eq_nil_of_length_eq_zero hL.1
    subst h3
    exact .nil
  | q :: Ls, [], ts, hL, hD => by
    have h1 := congrArg List.length hD.1
    simp [lwD] at h1
  | q :: Ls, z :: lv, [], hL, hD => by
    have := hL.1
    simp at this
  | q :: Ls, z :: lv, t :: ts, hL, hD => by
    obtain ⟨⟨b, rfl, e⟩, hr⟩ := hL.tail
    have h1 := List.cons.inj (show z.1 :: lv.map (·.1) = q.1 :: (lwD Ls).map (·.1) from hD.1)
    have h2 : DpAll K (Tp H) (z.2 :: lv.map (·.2)) (vD q.2 :: (lwD Ls).map (·.2)) := hD.2
    cases h2 with
    | cons d1 d2 =>
      refine .cons (.tup (SqT.of (tp_at e rfl)) (.cons ?_ (.cons d1 .nil))) (ls_dp hr ⟨h1.2, d2⟩)
      rw [h1.1]
      exact .int _
def nowW (S : List Vl) (Ls : Lv) (p : Int) : Vl := Ls.foldl (fun v q => if q.1 = p then q.2 else v) (S.getD p.toNat none)
theorem now_go {K : PySem.W.Frag} {G : Hp} (p : Int) : ∀ {Ls : Lv} {lv : List (Int × V)} {v : V} {x : Vl}, LvD K G lv (lwD Ls) → Dp K G v (vD x) → Dp K G (lv.foldl (fun v q => if q.1 = p then q.2 else v) v) (vD (Ls.foldl (fun v q => if q.1 = p then q.2 else v) x))
  | [], lv, v, x, hD, d => by
    have h1 := congrArg List.length hD.1
    rw [List.length_map] at h1
    have h2 : lv = [] := List.eq_nil_of_length_eq_zero h1
    subst h2
    exact d
  | q :: Ls, [], v, x, hD, d => by
    have h1 := congrArg List.length hD.1
    simp [lwD] at h1
  | q :: Ls, z :: lv, v, x, hD, d => by
    have h1 := List.cons.inj (show z.1 :: lv.map (·.1) = q.1 :: (lwD Ls).map (·.1) from hD.1)
    have h2 : DpAll K G (z.2 :: lv.map (·.2)) (vD q.2 :: (lwD Ls).map (·.2)) := hD.2
    cases h2 with
    | cons d1 d2 =>
      rw [List.foldl_cons, List.foldl_cons]
      refine now_go p (Ls := Ls) (lv := lv) ⟨h1.2, d2⟩ ?_
      rw [h1.1]
      by_cases c : q.1 = p
      · rw [if_pos c, if_pos c]; exact d1
      · rw [if_neg c, if_neg c]; exact d
theorem dp_getD {K : PySem.W.Frag} {G : Hp} {sv : List V} {S : List Vl} (h : DpAll K G sv (S.map vD)) {i : Nat} (hi : i < S.length) : Dp K G (sv.getD i .non) (vD (S.getD i none)) := by
  have hl := dps_len h
  rw [List.length_map] at hl
  obtain ⟨d, h1, h2⟩ := dps_get h (List.getElem?_eq_getElem (show i < sv.length by omega))
  rw [List.getElem?_map] at h1
  obtain ⟨x, hx, rfl⟩ := Option.map_eq_some_iff.mp h1
  rw [List.getD_eq_getElem?_getD, List.getD_eq_getElem?_getD, hx, List.getElem?_eq_getElem (show i < sv.length by omega)]
  exact h2
theorem now_dp {K : PySem.W.Frag} {G : Hp} {sv : List V} {lv : List (Int × V)} {S : List Vl} {Ls : Lv} {p : Int} (hD : LvD K G lv (lwD Ls)) (h : DpAll K G sv (S.map vD)) (h1 : p.toNat < S.length) : Dp K G (nowV sv lv p) (vD (nowW S Ls p)) := now_go p hD (dp_getD h h1)
theorem now_last (p : Int) : ∀ (Ls : Lv) (x : Vl), (x :: lateW Ls p)[(lateW Ls p).length]? = some (Ls.foldl (fun v q => if q.1 = p then q.2 else v) x)
  | [], x => rfl
  | q :: Ls, x => by
    have e : lateW (q :: Ls) p = if q.1 = p then q.2 :: lateW Ls p else lateW Ls p := by
      unfold lateW
      rw [List.filter_cons]
      by_cases c : q.1 = p
      · rw [if_pos (decide_eq_true c), if_pos c]; rfl
      · rw [if_neg (by simp [c]), if_neg c]
    rw [List.foldl_cons, e]
    by_cases c : q.1 = p
    · rw [if_pos c, if_pos c]
      have := now_last p Ls q.2
      simpa using this
    · rw [if_neg c, if_neg c]
      exact now_last p Ls x
section
variable {P : Program} {w : World} {K : PySem.W.Frag} {mg : Str → Option Value} {base : Heap} {C : Addr} {f : Addr} {cdv : Value} {A : Around} {outer : List Env} {s : Shared} {H0 : Hp} {E : XK} {rest : List Stmt} {u : TS}
theorem law_4 (T : DTxt K C) (mt : mg "tuple" = none) (mO : mg "TORN" = some .none) (hr : Room 6 (A.deeper (envOfC "law" (defScope sLaw) s.heap.objs.size f cdv))) (hU : PSs (XL P w K mg base f cdv A outer s H0 E) rest u) :
    ∃ t, PSs (XL P w K mg base f cdv A outer s H0 E) (stL 4 :: rest) t ∧ ∀ D HB H a sc ns PT dk SL LL TL N S Ls es y5 y6 y7 y8 y9 y10 y11 y12 y13 y14 y15 y16 y17 y18 y21 y22, KI K C HB H a sc ns PT dk SL LL TL N S Ls es →
      (∀ H', Same H H' → u D [some (.ref sc), some (.ref a), some (.ref SL), some (.ref LL), some (.ref TL), y5, y6, y7, y8, y9, y10, y11, y12, y13, y14, y15, y16, y17, y18, some (.ref dk), some (.int ((N : Nat) : Int)), y21, y22] H') → t D [some (.ref sc), some (.ref a), some (.ref SL), some (.ref LL), some (.ref TL), y5, y6, y7, y8, y9, y10, y11, y12, y13, y14, y15, y16, y17, y18, some (.ref dk), some (.int ((N : Nat) : Int)), y21, y22] H := by
  have nd := scLaw.nd
  have hu := hu_of hr
  have h1 : Room 1 _ := hr.mono (by decide)
  have h2 : Room 2 _ := hr.mono (by decide)
  have h3 : Room 3 _ := hr.mono (by decide)
  have h4 : Room 4 _ := hr.mono (by decide)
  refine ⟨_, (pss_cons (ps_if (PW.pt (pw_or (pt_cmpR (op_neD hr.units) (pe_fld (pv 19) rfl) (pe_callTy call_tuple_of (by rfl) mt boot_tuple (pa_cons (pv 2) pa_nil)) (nomark _)) (pw_or (pt_cmpR (op_neD hr.units) (pe_fld (pv 19) rfl) (pe_callTy call_tuple_of (by rfl) mt boot_tuple (pa_cons (pv 3) pa_nil)) (nomark _)) (pw_or1 (pt_cmpR op_notN (pe_glob (v := .non) rfl mO rfl) pe_non (nomark _)))))) (pss_one (ps_ret pe_bl)) pss_nil) hU), fun D HB H a sc ns PT dk SL LL TL N S Ls es y5 y6 y7 y8 y9 y10 y11 y12 y13 y14 y15 y16 y17 y18 y21 y22 I nx => ?_⟩
  obtain ⟨sv, lv, DA, DS, DL, hlv, hib⟩ := I.disk
  obtain ⟨dx, sA, lA, ts, e1, e2, e3, e4, e5, e6⟩ := id DA
  obtain ⟨sus, eS, dS⟩ := id I.s
  obtain ⟨lus, eL, dL⟩ := id I.l
  refine ⟨_, rfl, dk, C, dx, _, _, rfl, e1, T.cl, T.nS, fl_settled _ _ _, _, rfl, SL, sus, rfl, .inl ⟨SqL.of eS, fun t ht => ?_⟩⟩
  have w1 := same_upd (o := .tup sus) ht
  have et1 : upd H t (.tup sus) t = some (.tup sus) := upd_same
  generalize upd H t (.tup sus) = H1 at w1 et1 ⊢
  have okv := ok_map ok_v S
  refine ⟨.tuple (S.map vD), .tuple (S.map vD), .tup (SqT.of (w1 _ _ e2)) (dps_same tp_le _ _ (dps_same (tp_same w1) _ _ DS)), .tup (SqT.of et1) (dps_same tp_le _ _ (dps_same (tp_same w1) _ _ dS)), sht_of okv, sht_of okv, _, rfl, ?_⟩
  rw [eqv_tup okv]
  refine iteF ⟨_, rfl, dk, C, dx, _, _, rfl, w1 _ _ e1, T.cl, T.nL, fl_loose _ _ _, _, rfl, LL, lus, rfl, .inl ⟨SqL.of (w1 _ _ eL), fun t2 ht2 => ?_⟩⟩
  have w2 := same_upd (o := .tup lus) ht2
  have et2 : upd H1 t2 (.tup lus) t2 = some (.tup lus) := upd_same
  have w12 := w1.trans w2
  generalize upd H1 t2 (.tup lus) = H2 at w2 et2 w12 ⊢
  have okp := ok_map ok_p Ls
  refine ⟨.tuple (Ls.map pD), .tuple (Ls.map pD), .tup (SqT.of (w12 _ _ e5)) (dps_same tp_le _ _ (dps_same (tp_same w12) _ _ (ls_dp e6 DL))), .tup (SqT.of et2) (dps_same tp_le _ _ (dps_same (tp_same w12) _ _ dL)), sht_of okp, sht_of okp, _, rfl, ?_⟩
  rw [eqv_tup okp]
  refine iteF ⟨rfl, _, rfl, ?_⟩
  rw [decide_eq_true rfl]
  exact iteF (nx H2 w12)
end
end Pf

set_option Elab.async false
set_option linter.all false
set_option maxRecDepth 100000
set_option maxHeartbeats 4000000
namespace Pf
open PySem PySem.Spec PyProof.Rows L2
theorem atI_last {α : Type} {xs : List α} {n : Nat} {x : α} (hl : xs.length = n + 1) (h : xs[n]? = some x) : atI xs (-1) = some x := by
  unfold atI ixN
  rw [if_neg (by decide), if_pos (by omega)]
  show xs[(-1 + ((xs.length : Nat) : Int)).toNat]? = some x
  rw [show (-1 + ((xs.length : Nat) : Int)).toNat = n by omega]
  exact h
section
variable {P : Program} {w : World} {K : PySem.W.Frag} {mg : Str → Option Value} {base : Heap} {C : Addr} {f : Addr} {cdv : Value} {A : Around} {outer : List Env} {s : Shared} {H0 : Hp} {E : XK} {rest : List Stmt} {u : TS}
theorem law_5 {fV fN : Addr} {dV dN : FuncData} (T : DTxt K C) (MV : Me P w K mg base 3 C "versions" ["self", "plate"] (spVers C) fV dV) (MN : Me P w K mg base 3 C "now" ["self", "plate"] (spNow C) fN dN) (mt : mg "tuple" = none) (mr : mg "range" = none) (hr : Room 6 (A.deeper (envOfC "law" (defScope sLaw) s.heap.objs.size f cdv))) (hU : PSs (XL P w K mg base f cdv A outer s H0 E) rest u) :
    ∃ t, PSs (XL P w K mg base f cdv A outer s H0 E) (stL 5 :: rest) t ∧ ∀ D HB H a sc ns PT dk SL LL TL N S Ls es y5 y6 y7 y8 y9 y10 y11 y12 y13 y14 y15 y16 y17 y18 y21 y22, KI K C HB H a sc ns PT dk SL LL TL N S Ls es →
      (∀ H' z6 z7 z8 z9 z22, Same H H' → u D [some (.ref sc), some (.ref a), some (.ref SL), some (.ref LL), some (.ref TL), y5, z6, z7, z8, z9, y10, y11, y12, y13, y14, y15, y16, y17, y18, some (.ref dk), some (.int ((N : Nat) : Int)), y21, z22] H') → t D [some (.ref sc), some (.ref a), some (.ref SL), some (.ref LL), some (.ref TL), y5, y6, y7, y8, y9, y10, y11, y12, y13, y14, y15, y16, y17, y18, some (.ref dk), some (.int ((N : Nat) : Int)), y21, y22] H := by
  have nd := scLaw.nd
  have hu := hu_of hr
  have h1 : Room 1 _ := hr.mono (by decide)
  have h2 : Room 2 _ := hr.mono (by decide)
  have h3 : Room 3 _ := hr.mono (by decide)
  have h4 : Room 4 _ := hr.mono (by decide)
  refine ⟨_, (pss_cons (ps_for PassesOwn.never rfl (pi_range1 (by rfl) mr (pa_cons (pv 20) pa_nil)) (pg_name (i := 22) nd rfl (.inr rfl)) (pss_cons (ps_setLc (i := 8) (own := [("one", 7), ("value", 6)]) (g := gTup K 2 (gCons (gName 7) (gCons (gName 6) gNil))) (tt := tTest (tOp rEq (tVar 7) (tVar 22))) (te := tVar 6) (by rfl) nd rfl rfl (sw_true rfl rfl rfl (by decide +kernel)) (pi_list (pv 3)) (blkOk_by (N := NLw) (sc := defScope sLaw) (by decide +kernel)) (fun _ _ _ _ _ => (pg_tup rfl (pgs_cons (pg_name (i := 7) nd rfl (.inl rfl)) (pgs_cons (pg_name (i := 6) nd rfl (.inl rfl)) pgs_nil)))) (fun _ _ _ _ _ => pts_one (pt_cmpR op_eq (pv 7) (pv 22) (nomark _))) (fun _ _ _ _ _ => pv 6)) (pss_cons (ps_set (i := 9) nd rfl (.inl rfl) (pe_op op_cat (pe_op op_cat (pe_lst (pa_cons (pe_ix ix_list (pv 2) (pv 22) (fun _ _ => rfl)) pa_nil)) (pv 8)) (pe_imp (t' := tNn K 8) (pe_ifExp (pt_cmpR (op_neD hr.units) (pv 8) (pe_lst pa_nil) (nomark _)) (pe_lst (pa_cons pe_non pa_nil)) (pe_lst pa_nil)) ?nn9))) (pss_one (ps_if (PW.pt (pw_or (pt_cmpR (op_neD hr.units) (pe_meth (pv 19) T.cl MV.m MV.G h3 MV.b .nil pass0 (pa_cons (pv 22) pa_nil)) (pe_callTy call_tuple_of (by rfl) mt boot_tuple (pa_cons (pv 9) pa_nil)) (nomark _)) (pw_or1 (pt_cmpR (op_neD hr.units) (pe_meth (pv 19) T.cl MN.m MN.G h3 MN.b .nil pass0 (pa_cons (pv 22) pa_nil)) (pe_ix ix_list (pe_op op_cat (pe_lst (pa_cons (pe_ix ix_list (pv 2) (pv 22) (fun _ _ => rfl)) pa_nil)) (pv 8)) (pe_un un_neg pe_int) (fun _ _ => rfl)) (nomark _))))) (pss_one (ps_ret pe_bl)) pss_nil))))) hU), fun D HB H a sc ns PT dk SL LL TL N S Ls es y5 y6 y7 y8 y9 y10 y11 y12 y13 y14 y15 y16 y17 y18 y21 y22 I nx => ?_⟩
  case nn9 =>
    rintro σ H Q ⟨L, l, e7, LC, q⟩
    obtain ⟨us, eL, dL⟩ := id LC
    refine ⟨_, e7, Nat.zero_le _, fun z hz => ?_⟩
    have sz := same_upd (o := .lst []) hz
    refine ⟨.list (l.map vD), .list [], .lst (SqL.of (sz _ _ eL)) (dps_same tp_le _ _ (dps_same (tp_same sz) _ _ dL)), .lst (SqL.of upd_same) .nil, shl_of (ok_map ok_v _), shl_of (fun d hd => by cases hd), _, rfl, ?_⟩
    rw [eqv_dnil, List.length_map]
    by_cases c : l.length = 0
    · rw [decide_eq_true c]
      rw [if_pos c] at q
      exact iteF ⟨Nat.zero_le _, fun p hp => q _ p (sz.trans (same_upd hp)) ⟨[], upd_same, .nil⟩⟩
    · rw [decide_eq_false c]
      rw [if_neg c] at q
      exact iteT ⟨by show 1 ≤ sizeLine; decide, fun p hp => q _ p (sz.trans (same_upd hp)) ⟨[.non], upd_same, .cons .non .nil⟩⟩
  obtain ⟨sv, lv, DA, DS, DL, hlv, hib⟩ := I.disk
  obtain ⟨dx, sA, lA, ts, e1, e2, e3, e4, e5, e6⟩ := id DA
  have hn3 := I.n3
  have hl5 := I.l5
  have hsn := I.sn
  refine ⟨_, rfl, _, rfl, by omega, by omega, ?_⟩
  rw [Int.toNat_natCast]
  refine for_range (lo := 0) (n := N) (fun i σ H' => ∃ z6 z7 z8 z9 z22, σ = [some (.ref sc), some (.ref a), some (.ref SL), some (.ref LL), some (.ref TL), y5, z6, z7, z8, z9, y10, y11, y12, y13, y14, y15, y16, y17, y18, some (.ref dk), some (.int ((N : Nat) : Int)), y21, z22] ∧ Same H H') ⟨_, _, _, _, _, rfl, Same.refl _⟩ ?_ ?_
  · rintro i σ H3 hi ⟨z6, z7, z8, z9, z22, rfl, s3⟩
    rw [Int.zero_add]
    obtain ⟨lus, eLL, dLL⟩ := I.l.same s3
    have hlul := dps_len dLL
    rw [List.length_map] at hlul
    refine ⟨_, rfl, LL, rfl, ⟨_, SqL.of eLL⟩, fun R hR => lc_list (K := K) (a := LL) (xs := lus) (fun j HH => Same H3 HH ∧ LsT K HH R ((lateW (Ls.take j) ((i : Nat) : Int)).map vD)) ⟨same_upd hR, [], upd_same, .nil⟩ (fun j HH _ z => SqL.of (z.1 _ _ eLL)) ?_ ?_⟩
    · rintro j x HH hj ⟨q1, LR⟩
      obtain ⟨d, hd, dp⟩ := dps_get (dps_same (tp_same q1) _ _ dLL) hj
      rw [List.getElem?_map] at hd
      obtain ⟨q, hq, rfl⟩ := Option.map_eq_some_iff.mp hd
      obtain ⟨t, v1, v2, rfl, hT, d1, d2⟩ := dp_two dp
      have e1' := dp_intv d1
      subst e1'
      have em := lateW_more (p := ((i : Nat) : Int)) hq
      obtain ⟨us, eR, dR⟩ := id LR
      have hul := dps_len dR
      rw [List.length_map] at hul
      have hll := lateW_len (Ls.take j) ((i : Nat) : Int)
      rw [List.length_take] at hll
      refine ⟨t, _, rfl, same_seqT tp_le hT, rfl, _, _, rfl, _, _, rfl, rfl, rfl, _, rfl, _, rfl, rfl, _, rfl, ite2 (fun hc => ?_) (fun hc => ?_)⟩
      · have he : q.1 = ((i : Nat) : Int) := V.int.inj (of_decide_eq_true hc)
        rw [if_pos he] at em
        refine ⟨_, rfl, us, eR, by rw [sizeLine_eq]; omega, fun c o e => by rw [upd_ne (ne_of_none e hR)]; exact q1 _ _ e, ?_⟩
        rw [em, List.map_append]
        exact LsT.push eR dR d2
      · have he : ¬ q.1 = ((i : Nat) : Int) := fun z => hc (decide_eq_true (congrArg V.int z))
        rw [if_neg he, List.append_nil] at em
        exact ⟨q1, by rw [em]; exact LR⟩
    · rintro H4 ⟨q1, LR⟩
      rw [hlul, List.take_length] at LR
      have s4 := s3.trans q1
      obtain ⟨sus, eSL, dSL⟩ := I.s.same s4
      have hsul := dps_len dSL
      rw [List.length_map] at hsul
      obtain ⟨sv0, hsv⟩ : ∃ sv0, sus[i]? = some sv0 := ⟨_, List.getElem?_eq_getElem (by omega)⟩
      obtain ⟨d, hd, dp⟩ := dps_get dSL hsv
      rw [List.getElem?_map] at hd
      obtain ⟨sx, hsx, rfl⟩ := Option.map_eq_some_iff.mp hd
      have hgd : S.getD i none = sx := by rw [List.getD_eq_getElem?_getD, hsx]; rfl
      have hlw := lateW_len Ls ((i : Nat) : Int)
      refine ⟨_, rfl, _, rfl, SL, sus, _, sv0, rfl, rfl, SqL.of eSL, atI_nat hsv, by show 1 ≤ sizeLine; decide, fun A1 hA1 => ?_⟩
      have w1 := same_upd (o := .lst [sv0]) hA1
      have eA1 : upd H4 A1 (.lst [sv0]) A1 = some (.lst [sv0]) := upd_same
      have dp1 := dp_same (tp_same w1) _ _ dp
      have LR1 := LR.same w1
      generalize upd H4 A1 (.lst [sv0]) = J1 at w1 eA1 dp1 LR1 ⊢
      obtain ⟨lt, eLt, dLt⟩ := id LR1
      have hltl := dps_len dLt
      rw [List.length_map] at hltl
      refine ⟨_, rfl, _, _, [sv0], lt, rfl, rfl, eA1, eLt, by rw [sizeLine_eq]; simp; omega, fun B1 hB1 => ?_⟩
      have w2 := same_upd (o := .lst ([sv0] ++ lt)) hB1
      have eB1 : upd J1 B1 (.lst ([sv0] ++ lt)) B1 = some (.lst ([sv0] ++ lt)) := upd_same
      have dB : DpAll K (Tp (upd J1 B1 (.lst ([sv0] ++ lt)))) ([sv0] ++ lt) ((sx :: lateW Ls ((i : Nat) : Int)).map vD) := .cons (dp_same (tp_same w2) _ _ dp1) (dps_same (tp_same w2) _ _ dLt)
      have LR2 := LR1.same w2
      generalize upd J1 B1 (.lst ([sv0] ++ lt)) = J2 at w2 eB1 dB LR2 ⊢
      refine ⟨_, _, rfl, LR2, fun J3 p3 w3 LP => ?_⟩
      obtain ⟨pu, eP, dP⟩ := LP
      have hpul := dps_len dP
      have hpu2 : pu.length ≤ 1 := by
        rw [hpul, List.length_map]
        split <;> simp
      refine ⟨_, _, _, pu, rfl, rfl, w3 _ _ eB1, eP, by rw [sizeLine_eq]; simp; omega, fun SM hSM => ?_⟩
      have w4 := same_upd (o := .lst ([sv0] ++ lt ++ pu)) hSM
      have LM : LsT K (upd J3 SM (.lst ([sv0] ++ lt ++ pu))) SM ((verW S Ls ((i : Nat) : Int)).map vD) := by
        refine ⟨_, upd_same, ?_⟩
        have hv : verW S Ls ((i : Nat) : Int) = (sx :: lateW Ls ((i : Nat) : Int)) ++ (if (lateW Ls ((i : Nat) : Int)).length = 0 then [] else [none]) := by
          unfold verW
          rw [Int.toNat_natCast, hgd]
          by_cases c : (lateW Ls ((i : Nat) : Int)).length = 0
          · rw [if_pos c, if_pos c, List.eq_nil_of_length_eq_zero c]; rfl
          · rw [if_neg c, if_neg c]; rfl
        rw [hv, List.map_append]
        exact dps_app (dps_same (tp_same (w3.trans w4)) _ _ dB) (dps_same (tp_same w4) _ _ dP)
      have s5 := (((s4.trans w1).trans w2).trans w3).trans w4
      have LR5 := LR2.same (w3.trans w4)
      generalize upd J3 SM (.lst ([sv0] ++ lt ++ pu)) = H5 at w4 LM s5 LR5 ⊢
      refine ⟨_, rfl, dk, dx, _, rfl, s5 _ _ e1, fl_no _ _ _ (by decide +kernel) (by decide +kernel) (by decide +kernel), _, rfl, dk, _, ((i : Nat) : Int), sv, lv, rfl, DA.same s5, by omega, by omega, by omega, fun t H6 s6 ht et => ?_⟩
      have s56 := s5.trans s6
      have hv := vers_dp (p := ((i : Nat) : Int)) (DL.same (tp_same s56)) (dps_same (tp_same s56) _ _ DS) (by omega) (by rw [List.length_map]; omega)
      rw [ver_w] at hv
      obtain ⟨mus, eM, dM⟩ := LM.same s6
      refine ⟨_, rfl, SM, mus, rfl, .inl ⟨SqL.of eM, fun t2 ht2 => ?_⟩⟩
      have w7 := same_upd (o := .tup mus) ht2
      have et2 : upd H6 t2 (.tup mus) t2 = some (.tup mus) := upd_same
      have s57 := s56.trans w7
      have LR7 := (LR5.same s6).same w7
      generalize upd H6 t2 (.tup mus) = H7 at w7 et2 s57 LR7 ⊢
      have okv := ok_map ok_v (verW S Ls ((i : Nat) : Int))
      refine ⟨.tuple _, .tuple _, .tup (SqT.of (w7 _ _ et)) (dps_same tp_le _ _ (dps_same (tp_same w7) _ _ hv)), .tup (SqT.of et2) (dps_same tp_le _ _ (dps_same (tp_same w7) _ _ dM)), sht_of okv, sht_of okv, _, rfl, ?_⟩
      rw [eqv_tup okv]
      refine iteF ⟨_, rfl, dk, dx, _, rfl, s57 _ _ e1, fl_no _ _ _ (by decide +kernel) (by decide +kernel) (by decide +kernel), _, rfl, dk, _, ((i : Nat) : Int), sv, lv, rfl, DA.same s57, by omega, by omega, ?_⟩
      have dnow := now_dp (p := ((i : Nat) : Int)) (S := S) (Ls := Ls) (DL.same (tp_same s57)) (dps_same (tp_same s57) _ _ DS) (by rw [Int.toNat_natCast]; omega)
      obtain ⟨sus8, eS8, dS8⟩ := I.s.same s57
      have hsul8 := dps_len dS8
      rw [List.length_map] at hsul8
      obtain ⟨sv8, hsv8⟩ : ∃ sv8, sus8[i]? = some sv8 := ⟨_, List.getElem?_eq_getElem (by omega)⟩
      obtain ⟨d8, hd8, dp8⟩ := dps_get dS8 hsv8
      rw [List.getElem?_map, hsx] at hd8
      have hd9 : vD sx = d8 := Option.some.inj hd8
      subst hd9
      refine ⟨_, rfl, _, rfl, SL, sus8, _, sv8, rfl, rfl, SqL.of eS8, atI_nat hsv8, by show 1 ≤ sizeLine; decide, fun A8 hA8 => ?_⟩
      have w8 := same_upd (o := .lst [sv8]) hA8
      have eA8 : upd H7 A8 (.lst [sv8]) A8 = some (.lst [sv8]) := upd_same
      have dq8 := dp_same (tp_same w8) _ _ dp8
      have LR8 := LR7.same w8
      have dn8 := dp_same (tp_same w8) _ _ dnow
      have s58 := s57.trans w8
      generalize upd H7 A8 (.lst [sv8]) = H8 at w8 eA8 dq8 LR8 dn8 s58 ⊢
      obtain ⟨lt8, eLt8, dLt8⟩ := id LR8
      have hlt8 := dps_len dLt8
      rw [List.length_map] at hlt8
      refine ⟨_, rfl, _, _, [sv8], lt8, rfl, rfl, eA8, eLt8, by rw [sizeLine_eq]; simp; omega, fun B8 hB8 => ?_⟩
      have w9 := same_upd (o := .lst ([sv8] ++ lt8)) hB8
      have eB9 : upd H8 B8 (.lst ([sv8] ++ lt8)) B8 = some (.lst ([sv8] ++ lt8)) := upd_same
      have dB9 : DpAll K (Tp (upd H8 B8 (.lst ([sv8] ++ lt8)))) ([sv8] ++ lt8) ((sx :: lateW Ls ((i : Nat) : Int)).map vD) := .cons (dp_same (tp_same w9) _ _ dq8) (dps_same (tp_same w9) _ _ dLt8)
      have dn9 := dp_same (tp_same w9) _ _ dn8
      have s59 := s58.trans w9
      generalize upd H8 B8 (.lst ([sv8] ++ lt8)) = H9 at w9 eB9 dB9 dn9 s59 ⊢
      have hl9 : ([sv8] ++ lt8).length = (lateW Ls ((i : Nat) : Int)).length + 1 := by simp; omega
      obtain ⟨xl, hxl⟩ : ∃ xl, ([sv8] ++ lt8)[(lateW Ls ((i : Nat) : Int)).length]? = some xl := ⟨_, List.getElem?_eq_getElem (by omega)⟩
      obtain ⟨dl, hdl, dpl⟩ := dps_get dB9 hxl
      rw [List.getElem?_map, now_last ((i : Nat) : Int) Ls sx] at hdl
      have hnw : vD (nowW S Ls ((i : Nat) : Int)) = dl := by
        rw [← Option.some.inj hdl]
        unfold nowW
        rw [Int.toNat_natCast, hgd]
      subst hnw
      have oke := ok_v (nowW S Ls ((i : Nat) : Int))
      have shv : SeqAt.shaped (vD (nowW S Ls ((i : Nat) : Int))) = true := by
        show (PyData.canLay0 (vD _) && decide (PyData.depth (vD _) ≤ 64)) = true
        rw [oke.1, decide_eq_true (by have := oke.2; omega)]
        rfl
      refine ⟨1, rfl, B8, _, -1, xl, rfl, rfl, SqL.of eB9, atI_last hl9 hxl, vD (nowW S Ls ((i : Nat) : Int)), vD (nowW S Ls ((i : Nat) : Int)), dp_same tp_le _ _ dn9, dp_same tp_le _ _ dpl, shv, shv, _, rfl, ?_⟩
      rw [eqv_v, decide_eq_true rfl]
      exact iteF ⟨_, _, _, _, _, rfl, s59⟩
  · rintro σ H3 ⟨z6, z7, z8, z9, z22, rfl, s3⟩
    exact nx H3 z6 z7 z8 z9 z22 s3
end
end Pf

set_option Elab.async false
set_option linter.all false
set_option maxRecDepth 100000
set_option maxHeartbeats 4000000
namespace Pf
open PySem PySem.Spec PyProof.Rows L2
section
variable {P : Program} {w : World} {K : PySem.W.Frag} {mg : Str → Option Value} {base : Heap} {C : Addr} {f : Addr} {cdv : Value} {A : Around} {outer : List Env} {s : Shared} {H0 : Hp} {E : XK} {rest : List Stmt} {u : TS}
theorem law_67 {fF fC : Addr} {dF dC : FuncData} (T : DTxt K C) (DF : Df P w K mg base CX0 1 "_law_falls" ["settled", "loose", "many"] (spLfl K) fF dF) (MC : Me P w K mg base 4 C "count_falls" ["self"] (spCf K C) fC dC) (mln : mg "len" = none) (mse : mg "set" = none) (hr : Room 6 (A.deeper (envOfC "law" (defScope sLaw) s.heap.objs.size f cdv))) (hU : PSs (XL P w K mg base f cdv A outer s H0 E) rest u) :
    ∃ t, PSs (XL P w K mg base f cdv A outer s H0 E) (stL 6 :: stL 7 :: rest) t ∧ ∀ D HB H a sc ns PT dk SL LL TL N S Ls es y5 y6 y7 y8 y9 y10 y11 y12 y13 y14 y15 y16 y17 y18 y21 y22, KI K C HB H a sc ns PT dk SL LL TL N S Ls es →
      (∀ H' z10, Same H H' → u D [some (.ref sc), some (.ref a), some (.ref SL), some (.ref LL), some (.ref TL), y5, y6, y7, y8, y9, z10, y11, y12, y13, y14, y15, y16, y17, y18, some (.ref dk), some (.int ((N : Nat) : Int)), y21, y22] H') → t D [some (.ref sc), some (.ref a), some (.ref SL), some (.ref LL), some (.ref TL), y5, y6, y7, y8, y9, y10, y11, y12, y13, y14, y15, y16, y17, y18, some (.ref dk), some (.int ((N : Nat) : Int)), y21, y22] H := by
  have nd := scLaw.nd
  have hu := hu_of hr
  have h1 : Room 1 _ := hr.mono (by decide)
  have h2 : Room 2 _ := hr.mono (by decide)
  have h3 : Room 3 _ := hr.mono (by decide)
  have h4 : Room 4 _ := hr.mono (by decide)
  refine ⟨_, (pss_cons (ps_set (i := 10) nd rfl (.inl rfl) (pe_call DF.G h1 rfl DF.g DF.kp DF.b .nil pass0 (pa_cons (pv 2) (pa_cons (pv 3) (pa_cons (pv 20) pa_nil))))) (pss_cons (ps_if (pt_cmpR op_ne (pe_meth0 (pv 19) T.cl MC.m MC.G h4 MC.b .nil pass0) (pe_lenSetN hr.units (by rfl) mln (by rfl) mse (pv 10)) (nomark _)) (pss_one (ps_ret pe_bl)) pss_nil) hU)), fun D HB H a sc ns PT dk SL LL TL N S Ls es y5 y6 y7 y8 y9 y10 y11 y12 y13 y14 y15 y16 y17 y18 y21 y22 I nx => ?_⟩
  have hn3 := I.n3
  have hsn := I.sn
  refine ⟨_, rfl, _, rfl, _, rfl, SL, LL, S, Ls, (by rw [hsn]; rfl), I.s, I.l, by omega, I.l5, fun H1 RW s1 LR => ?_⟩
  have I1 := I.same s1
  obtain ⟨sv, lv, DA, DS, DL, hlv, hib⟩ := I1.disk
  obtain ⟨dx, sA, lA, ts, e1, _⟩ := id DA
  refine ⟨_, rfl, dk, dx, _, rfl, e1, fl_no _ _ _ (by decide +kernel) (by decide +kernel) (by decide +kernel), dk, S, Ls, rfl, I1.k, by omega, I.l5, fun H2 s2 => ?_⟩
  obtain ⟨rus, eR, dR⟩ := LR.same s2
  have h48 := rowsN_48 S I.l5 (show S.length ≤ 3 by omega)
  refine ⟨_, rfl, RW, rus, rowsN S Ls S.length, rfl, SqL.of eR, dps_same tp_le _ _ dR, by omega, rfl, _, rfl, ?_⟩
  rw [unl_rows, decide_eq_true rfl]
  exact iteF (nx H2 _ (s1.trans s2))
end
end Pf

set_option Elab.async false
set_option linter.all false
set_option maxRecDepth 100000
set_option maxHeartbeats 4000000
namespace Pf
open PySem PySem.Spec PyProof.Rows L2
/-! ### falls by drawn choices -/
def pickW (xs : List Vl) (m : Int) : Vl := if 0 ≤ m then xs.getD m.toNat none else none
theorem pick_w (xs : List Vl) (m : Int) : pickD (xs.map vD) m = vD (pickW xs m) := by
  unfold pickD pickW
  split
  · exact getD_v xs _
  · rfl
theorem choose_w {Ls : Lv} {p m : Int} (h : if (lateW Ls p).length = 0 then m = 0 else -1 ≤ m ∧ m ≤ (((lateW Ls p).length : Nat) : Int)) : chooseD (lwD Ls) p m = true := by
  unfold chooseD
  rw [late_w, List.length_map]
  unfold loI
  by_cases c : (lateW Ls p).length = 0
  · rw [if_pos c] at h
    rw [if_neg (by omega), c, h]
    decide
  · rw [if_neg c] at h
    rw [if_pos (by omega), decide_eq_true h.1, decide_eq_true h.2]
    rfl
theorem putK_new {κ : Type} [DecidableEq κ] {kvs : List (κ × V)} {k : κ} {v : V} (h : k ∉ kvs.map (·.1)) : putK kvs k v = kvs ++ [(k, v)] := by
  unfold putK
  rw [if_neg]
  intro z
  obtain ⟨p, hp, e⟩ := List.any_eq_true.mp z
  exact h (List.mem_map.mpr ⟨p, hp, of_decide_eq_true e⟩)
/-- what is told of a choice up to plate i -/
structure ChI (S : List Vl) (Ls : Lv) (i : Nat) (cs : List (Int × Int)) (due : List Vl) : Prop where
  rg : ∀ c ∈ cs, 0 ≤ c.1 ∧ c.1 < ((i : Nat) : Int)
  nd : (cs.map (·.1)).Nodup
  ok : ∀ c ∈ cs, chooseD (lwD Ls) c.1 c.2 = true
  fl : fallC (S.map vD) (lwD Ls) cs = due.map vD
  ln : due.length = S.length
  hi : ∀ p : Nat, i ≤ p → due[p]? = S[p]?
theorem ChI.zero (S : List Vl) (Ls : Lv) : ChI S Ls 0 [] S := ⟨fun c h => (by cases h), .nil, fun c h => (by cases h), rfl, rfl, fun p _ => rfl⟩
theorem ChI.put {S : List Vl} {Ls : Lv} {i : Nat} {cs : List (Int × Int)} {due : List Vl} (I : ChI S Ls i cs due) {m : Int} (hm : chooseD (lwD Ls) ((i : Nat) : Int) m = true) : ChI S Ls (i + 1) (cs ++ [(((i : Nat) : Int), m)]) (due.set i (pickW (verW S Ls ((i : Nat) : Int)) m)) := by
  refine ⟨fun c h => ?_, ?_, fun c h => ?_, ?_, by rw [List.length_set]; exact I.ln, fun p hp => ?_⟩
  · rcases List.mem_append.mp h with h | h
    · have := I.rg c h
      omega
    · rw [List.mem_singleton.mp h]
      exact ⟨by show 0 ≤ ((i : Nat) : Int); omega, by show ((i : Nat) : Int) < _; omega⟩
  · rw [List.map_append]
    refine List.nodup_append.mpr ⟨I.nd, List.pairwise_singleton _ _, fun x hx y hy e => ?_⟩
    obtain ⟨c, hc, rfl⟩ := List.mem_map.mp hx
    have h1 := (I.rg c hc).2
    have h2 : y = ((i : Nat) : Int) := List.mem_singleton.mp hy
    omega
  · rcases List.mem_append.mp h with h | h
    · exact I.ok c h
    · rw [List.mem_singleton.mp h]; exact hm
  · unfold fallC
    rw [List.foldl_append]
    show (fallC (S.map vD) (lwD Ls) cs).set (((i : Nat) : Int)).toNat (pickD (versD (S.map vD) (lwD Ls) ((i : Nat) : Int)) m) = _
    rw [I.fl, Int.toNat_natCast, ver_w, pick_w, List.map_set]
  · rw [List.getElem?_set_ne (by omega)]
    exact I.hi p (by omega)
theorem ChI.stay {S : List Vl} {Ls : Lv} {i : Nat} {cs : List (Int × Int)} {due : List Vl} (I : ChI S Ls i cs due) : ChI S Ls (i + 1) cs (due.set i (pickW (verW S Ls ((i : Nat) : Int)) 0)) := by
  have e : due.set i (pickW (verW S Ls ((i : Nat) : Int)) 0) = due := by
    have h := I.hi i (Nat.le_refl _)
    have hp : pickW (verW S Ls ((i : Nat) : Int)) 0 = S.getD i none := by
      unfold pickW verW
      rw [if_pos (Int.le_refl 0), Int.toNat_natCast]
      split <;> rfl
    rw [hp]
    refine List.ext_getElem? fun p => ?_
    by_cases c : p = i
    · subst c
      by_cases c2 : p < due.length
      · rw [List.getElem?_set_self c2, h, List.getD_eq_getElem?_getD, List.getElem?_eq_getElem (show p < S.length by rw [← I.ln]; exact c2)]
        rfl
      · rw [List.getElem?_eq_none (by rw [List.length_set]; omega), List.getElem?_eq_none (by omega)]
    · rw [List.getElem?_set_ne (fun z => c z.symm)]
  rw [e]
  exact ⟨fun c h => by have := I.rg c h; omega, I.nd, I.ok, I.fl, I.ln, fun p hp => I.hi p (by omega)⟩
/-- what a number may be -/
def NumOk (n : Nat) (m : Int) : Prop := if n = 1 then m = 0 else -1 ≤ m ∧ m < ((n : Nat) : Int) - 1
def tNo (K : PySem.W.Frag) : TE := fun σ H Q => ∃ (a sc t : Addr) (ns : List Int) (us : List V), σ[1]? = some (some (.ref a)) ∧ σ[12]? = some (some (.ref t)) ∧ DrawAt K H a sc ns ∧ H t = some (.tup us) ∧ 0 < us.length ∧ ∀ m H', But [a] H H' → DrawAt K H' a sc ns → NumOk us.length m → Q (.int m) H'
def tDu (K : PySem.W.Frag) : TE := fun σ H Q => ∃ (t : Addr) (us : List V) (xs : List Vl) (m : Int), σ[21]? = some (some (.int m)) ∧ σ[12]? = some (some (.ref t)) ∧ SqT K H t us ∧ DpAll K (Tp H) us (xs.map vD) ∧ -1 ≤ m ∧ m < ((us.length : Nat) : Int) ∧ ∀ v, Dp K (Tp H) v (vD (pickW xs m)) → Q v H
section
variable {K : PySem.W.Frag} {C : Addr} {HB H H' : Hp} {a sc : Addr} {ns : List Int} {PT dk SL LL TL : Addr} {N : Nat} {S : List Vl} {Ls : Lv} {es : List Ev}
/-- another one that is new is written -/
theorem KI.oth (I : KI K C HB H a sc ns PT dk SL LL TL N S Ls es) {c : Addr} (hc : HB c = none) (n1 : c ≠ dk) (n2 : c ≠ SL) (n3 : c ≠ LL) (n4 : c ≠ TL) (z : Fr [c] H H') : KI K C HB H' a sc ns PT dk SL LL TL N S Ls es := by
  have b := BA.put ⟨I.b, I.da⟩ hc (I.na hc) z
  exact ⟨b.1, I.hb, b.2, I.hP, I.fd, I.fS, I.fL, I.fT, I.nSL, I.nST, I.nLT, I.k.fr z (by simp [n1.symm]), I.s.fr z (by simp [n2.symm]), I.l.fr z (by simp [n3.symm]), I.t.fr z (by simp [n4.symm]), I.r, I.i, I.li, I.sn, I.n3, I.n1, I.l5⟩
theorem KI.new (I : KI K C HB H a sc ns PT dk SL LL TL N S Ls es) {x : Addr} (h : H x = none) : HB x = none ∧ x ≠ dk ∧ x ≠ SL ∧ x ≠ LL ∧ x ≠ TL ∧ x ≠ a := by
  have na := I.d.ne h
  refine ⟨But.free I.b h (by simp [na]), ?_, ?_, ?_, ?_, na⟩
  · intro z
    obtain ⟨sv, lv, ⟨dx, s, l, ts, e1, _⟩, _⟩ := I.k
    rw [z, e1] at h; cases h
  · intro z
    obtain ⟨us, e, _⟩ := I.s
    rw [z, e] at h; cases h
  · intro z
    obtain ⟨us, e, _⟩ := I.l
    rw [z, e] at h; cases h
  · intro z
    obtain ⟨us, e, _⟩ := I.t
    rw [z, e] at h; cases h
end
section
variable {P : Program} {w : World} {K : PySem.W.Frag} {mg : Str → Option Value} {base : Heap} {C : Addr} {f : Addr} {cdv : Value} {A : Around} {outer : List Env} {s : Shared} {H0 : Hp} {E : XK} {rest : List Stmt} {u : TS}
theorem law_8 {fV fF fT : Addr} {dV dF dT : FuncData} (T : DTxt K C) (DT : Df P w K mg base CX0 2 "_law_take" ["draw", "many"] (spTake K) fT dT) (MV : Me P w K mg base 3 C "versions" ["self", "plate"] (spVers C) fV dV) (MF : Me P w K mg base 4 C "fallen" ["self", "choice"] (spFallen C) fF dF) (mt : mg "tuple" = none) (mr : mg "range" = none) (mL : mg "list" = none) (mln : mg "len" = none) (hr : Room 6 (A.deeper (envOfC "law" (defScope sLaw) s.heap.objs.size f cdv))) (hU : PSs (XL P w K mg base f cdv A outer s H0 E) rest u) :
    ∃ t, PSs (XL P w K mg base f cdv A outer s H0 E) (stL 8 :: rest) t ∧ ∀ D HB H a sc ns PT dk SL LL TL N S Ls es y5 y6 y7 y8 y9 y10 y11 y12 y13 y14 y15 y16 y17 y18 y21 y22, KI K C HB H a sc ns PT dk SL LL TL N S Ls es →
      (∀ H' z5 z8 z9 z11 z12 z21 z22, KI K C HB H' a sc ns PT dk SL LL TL N S Ls es → u D [some (.ref sc), some (.ref a), some (.ref SL), some (.ref LL), some (.ref TL), z5, y6, y7, z8, z9, y10, z11, z12, y13, y14, y15, y16, y17, y18, some (.ref dk), some (.int ((N : Nat) : Int)), z21, z22] H') → t D [some (.ref sc), some (.ref a), some (.ref SL), some (.ref LL), some (.ref TL), y5, y6, y7, y8, y9, y10, y11, y12, y13, y14, y15, y16, y17, y18, some (.ref dk), some (.int ((N : Nat) : Int)), y21, y22] H := by
  have nd := scLaw.nd
  have hu := hu_of hr
  have h1 : Room 1 _ := hr.mono (by decide)
  have h2 : Room 2 _ := hr.mono (by decide)
  have h3 : Room 3 _ := hr.mono (by decide)
  have h4 : Room 4 _ := hr.mono (by decide)
  refine ⟨_, (pss_cons (ps_for PassesOwn.never rfl (pi_range1 (by rfl) mr (pa_cons pe_int pa_nil)) (pg_name (i := 5) nd rfl (.inl rfl)) (pss_cons (ps_par rfl nd (i := 11) (j := 9) rfl rfl (by decide) rfl rfl (pa_cons pe_dnewK (pa_cons (pe_callTy call_list_of (by rfl) mL (by decide +kernel) (pa_cons (pv 2) pa_nil)) pa_nil)) (by rfl)) (pss_cons (ps_for PassesOwn.never rfl (pi_range1 (by rfl) mr (pa_cons (pv 20) pa_nil)) (pg_name (i := 22) nd rfl (.inr rfl)) (pss_cons (ps_set (i := 12) nd rfl (.inl rfl) (pe_meth (pv 19) T.cl MV.m MV.G h3 MV.b .nil pass0 (pa_cons (pv 22) pa_nil))) (pss_cons (ps_set (i := 21) nd rfl (.inr rfl) (pe_imp (t' := tNo K) (pe_ifExp (pt_cmpR op_eq (pe_callB call_len_seq (by rfl) mln boot_len (pa_cons (pv 12) pa_nil)) pe_int (nomark _)) (pe_call DT.G h2 rfl DT.g DT.kp DT.b .nil pass0 (pa_cons (pv 1) (pa_cons (pe_callB call_len_seq (by rfl) mln boot_len (pa_cons (pv 12) pa_nil)) pa_nil))) (pe_op op_sub (pe_call DT.G h2 rfl DT.g DT.kp DT.b .nil pass0 (pa_cons (pv 1) (pa_cons (pe_callB call_len_seq (by rfl) mln boot_len (pa_cons (pv 12) pa_nil)) pa_nil))) pe_int)) ?no9)) (pss_cons (ps_if (PW.pt (pw_or (pt_cmpR op_ne (pv 21) pe_int (nomark _)) (pw_or1 (pt_cmpR op_eq (pe_call DT.G h2 rfl DT.g DT.kp DT.b .nil pass0 (pa_cons (pv 1) (pa_cons pe_int pa_nil))) pe_int (nomark _))))) (pss_one (ps_dput hu (pv 11) (pv 22) (pv 21) rfl)) pss_nil) (pss_one (ps_asg (pe_imp (t' := tDu K) (pe_ifExp (pt_cmpR op_eq (pv 21) (pe_un un_neg pe_int) (nomark _)) pe_non (pe_ix ix_tup (pv 12) (pv 21) (fun _ _ => rfl))) ?du9) (pg_sub (pv 9) (pv 22) set_list))))))) (pss_cons (ps_set (i := 8) nd rfl (.inl rfl) (pe_meth (pv 19) T.cl MF.m MF.G h4 MF.b .nil pass0 (pa_cons (pv 11) pa_nil))) (pss_one (ps_if (PW.pt (pw_or (pt_cmpR (op_neD hr.units) (pe_fld (pv 8) rfl) (pe_callTy call_tuple_of (by rfl) mt boot_tuple (pa_cons (pv 9) pa_nil)) (nomark _)) (pw_or (pt_cmpR (op_neD hr.units) (pe_fld (pv 8) rfl) (pe_tup pa_nil) (nomark _)) (pw_or (pt_cmpR (op_neD hr.units) (pe_fld (pv 19) rfl) (pe_callTy call_tuple_of (by rfl) mt boot_tuple (pa_cons (pv 2) pa_nil)) (nomark _)) (pw_or1 (pt_cmpR (op_neD hr.units) (pe_fld (pv 19) rfl) (pe_callTy call_tuple_of (by rfl) mt boot_tuple (pa_cons (pv 3) pa_nil)) (nomark _))))))) (pss_one (ps_ret pe_bl)) pss_nil)))))) hU), fun D HB H a sc ns PT dk SL LL TL N S Ls es y5 y6 y7 y8 y9 y10 y11 y12 y13 y14 y15 y16 y17 y18 y21 y22 I nx => ?_⟩
  case no9 =>
    rintro σ H Q ⟨a, sc, t, ns, us, e1, e12, D, et, hl, q⟩
    refine ⟨_, e12, t, us, rfl, .inr (SqT.of et), rfl, _, rfl, ite2 (fun c => ?_) (fun c => ?_)⟩
    · have c1 : us.length = 1 := by have := V.int.inj (of_decide_eq_true c); omega
      refine ⟨_, e1, _, e12, t, us, rfl, .inr (SqT.of et), a, sc, ns, _, rfl, D, by omega, fun r H' r0 r1 z D' => q r H' z D' ?_⟩
      unfold NumOk
      rw [if_pos c1]
      omega
    · have c1 : ¬ us.length = 1 := fun z => c (decide_eq_true (by rw [z]; rfl))
      refine ⟨_, e1, _, e12, t, us, rfl, .inr (SqT.of et), a, sc, ns, _, rfl, D, by omega, fun r H' r0 r1 z D' => ⟨_, _, rfl, rfl, q (r - 1) H' z D' ?_⟩⟩
      unfold NumOk
      rw [if_neg c1]
      omega
  case du9 =>
    rintro σ H Q ⟨t, us, xs, m, e21, e12, hT, dx, m0, m1, q⟩
    refine ⟨_, e21, 1, rfl, rfl, _, rfl, ite2 (fun c => ?_) (fun c => ?_)⟩
    · have c1 : m = -1 := V.int.inj (of_decide_eq_true c)
      refine q .non ?_
      unfold pickW
      rw [if_neg (by omega)]
      exact .non
    · have c1 : ¬ m = -1 := fun z => c (decide_eq_true (congrArg V.int z))
      have hul := dps_len dx
      rw [List.length_map] at hul
      obtain ⟨vv, hvv⟩ : ∃ vv, us[m.toNat]? = some vv := ⟨_, List.getElem?_eq_getElem (by omega)⟩
      obtain ⟨d, hd, dp⟩ := dps_get dx hvv
      rw [List.getElem?_map] at hd
      obtain ⟨y, hy, rfl⟩ := Option.map_eq_some_iff.mp hd
      have hat : atI us m = some vv := by
        have := atI_nat hvv
        rw [show ((m.toNat : Nat) : Int) = m by omega] at this
        exact this
      refine ⟨_, e12, _, e21, t, us, m, vv, rfl, rfl, hT, hat, q vv ?_⟩
      unfold pickW
      rw [if_pos (by omega), List.getD_eq_getElem?_getD, hy]
      exact dp
  refine ⟨4, rfl, by omega, by omega, ?_⟩
  refine for_range (lo := 0) (n := (4 : Int).toNat) (fun i σ H' => ∃ z5 z8 z9 z11 z12 z21 z22, σ = [some (.ref sc), some (.ref a), some (.ref SL), some (.ref LL), some (.ref TL), z5, y6, y7, z8, z9, y10, z11, z12, y13, y14, y15, y16, y17, y18, some (.ref dk), some (.int ((N : Nat) : Int)), z21, z22] ∧ KI K C HB H' a sc ns PT dk SL LL TL N S Ls es) ⟨_, _, _, _, _, _, _, rfl, I⟩ ?_ ?_
  · rintro i0 σ H2 hi0 ⟨z5, z8, z9, z11, z12, z21, z22, rfl, I2⟩
    have hn3 := I2.n3
    have hn1 := I2.n1
    have hl5 := I2.l5
    have hsn := I2.sn
    intro ch hch
    obtain ⟨c1, c2, c3, c4, c5, c6⟩ := I2.new hch
    have w3 := same_upd (o := .dK []) hch
    have ec3 : upd H2 ch (.dK []) ch = some (.dK []) := upd_same
    have I3 := I2.same w3
    generalize upd H2 ch (.dK []) = H3 at w3 ec3 I3 ⊢
    obtain ⟨sus, eS, dS⟩ := id I3.s
    refine ⟨_, rfl, SL, sus, rfl, .inl (SqL.of eS), fun DU hDU => ⟨_, _, rfl, ?_⟩⟩
    obtain ⟨u1, u2, u3, u4, u5, u6⟩ := I3.new hDU
    have ncD : ch ≠ DU := fun z => by rw [← z, ec3] at hDU; cases hDU
    have w4 := same_upd (o := .lst sus) hDU
    have LU4 : LsT K (upd H3 DU (.lst sus)) DU (S.map vD) := ⟨sus, upd_same, dps_same (tp_same w4) _ _ dS⟩
    have I4 := I3.same w4
    have ec4 := w4 _ _ ec3
    generalize upd H3 DU (.lst sus) = H4 at w4 LU4 I4 ec4 ⊢
    refine ⟨_, rfl, _, rfl, by omega, by omega, ?_⟩
    rw [Int.toNat_natCast]
    refine for_range (lo := 0) (n := N) (fun i σ H' => ∃ z5 z12 z21 z22 cs due, σ = [some (.ref sc), some (.ref a), some (.ref SL), some (.ref LL), some (.ref TL), z5, y6, y7, z8, some (.ref DU), y10, some (.ref ch), z12, y13, y14, y15, y16, y17, y18, some (.ref dk), some (.int ((N : Nat) : Int)), z21, z22] ∧ KI K C HB H' a sc ns PT dk SL LL TL N S Ls es ∧ H' ch = some (.dK (chV cs)) ∧ LsT K H' DU (due.map vD) ∧ ChI S Ls i cs due) ⟨_, _, _, _, [], S, rfl, I4, ec4, LU4, ChI.zero S Ls⟩ ?_ ?_
    · rintro i σ H5 hi ⟨z5, z12, z21, z22, cs, due, rfl, I5, ec5, LU5, G5⟩
      rw [Int.zero_add]
      obtain ⟨sv, lv, DA, DS, DL, hlv, hib⟩ := I5.disk
      obtain ⟨dx, sA, lA, ts, e1, _⟩ := id DA
      refine ⟨_, rfl, dk, dx, _, rfl, e1, fl_no _ _ _ (by decide +kernel) (by decide +kernel) (by decide +kernel), _, rfl, dk, _, ((i : Nat) : Int), sv, lv, rfl, DA, by omega, by omega, by omega, fun t H6 s6 ht et => ?_⟩
      have I6 := I5.same s6
      have hv6 := vers_dp (p := ((i : Nat) : Int)) (DL.same (tp_same s6)) (dps_same (tp_same s6) _ _ DS) (by omega) (by rw [List.length_map]; omega)
      rw [ver_w] at hv6
      have hvl := dps_len hv6
      rw [List.length_map, verW_lenW] at hvl
      generalize versV sv lv ((i : Nat) : Int) = vus at et hv6 hvl
      refine ⟨a, sc, t, ns, vus, rfl, rfl, I6.d, et, by rw [hvl]; unfold lenW; split <;> omega, fun m H7 z7 D7 hm => ?_⟩
      have f7 := I6.d.frb z7
      have I7 := I6.but z7 D7
      have et7 := f7.tup et
      have hv7 := dps_same f7.tp _ _ hv6
      have ec7 := f7.at (s6 _ _ ec5) (by simp [c6])
      have LU7 := (LU5.same s6).fr f7 (by simp [u6])
      have hm0 : -1 ≤ m ∧ m < ((vus.length : Nat) : Int) := by
        unfold NumOk at hm
        split at hm <;> omega
      have hcw : chooseD (lwD Ls) ((i : Nat) : Int) m = true := choose_w (by
        unfold NumOk at hm
        rw [hvl] at hm
        unfold lenW at hm
        by_cases c : (lateW Ls ((i : Nat) : Int)).length = 0
        · rw [if_pos c] at hm ⊢
          simpa using hm
        · rw [if_neg c] at hm ⊢
          rw [if_neg (by omega)] at hm
          omega)
      have go : ∀ (H8 : Hp) (cs' : List (Int × Int)), KI K C HB H8 a sc ns PT dk SL LL TL N S Ls es → H8 ch = some (.dK (chV cs')) → LsT K H8 DU (due.map vD) → H8 t = some (.tup vus) → DpAll K (Tp H8) vus ((verW S Ls ((i : Nat) : Int)).map vD) → ChI S Ls (i + 1) cs' (due.set i (pickW (verW S Ls ((i : Nat) : Int)) m)) →
          tAsg (tDu K) (gSub (tVar 9) (tVar 22) rSetL) { nx := fun σ H' => ∃ z5 z12 z21 z22 cs due, σ = [some (.ref sc), some (.ref a), some (.ref SL), some (.ref LL), some (.ref TL), z5, y6, y7, z8, some (.ref DU), y10, some (.ref ch), z12, y13, y14, y15, y16, y17, y18, some (.ref dk), some (.int ((N : Nat) : Int)), z21, z22] ∧ KI K C HB H' a sc ns PT dk SL LL TL N S Ls es ∧ H' ch = some (.dK (chV cs)) ∧ LsT K H' DU (due.map vD) ∧ ChI S Ls (i + 1) cs due, rt := D.rt, bk := D.nx, ct := D.ct } [some (.ref sc), some (.ref a), some (.ref SL), some (.ref LL), some (.ref TL), z5, y6, y7, z8, some (.ref DU), y10, some (.ref ch), some (.ref t), y13, y14, y15, y16, y17, y18, some (.ref dk), some (.int ((N : Nat) : Int)), some (.int m), some (.int ((i : Nat) : Int))] H8 := fun H8 cs' I8 ec8 LU8 et8 hv8 G8 => by
        obtain ⟨dus, eD8, dD8⟩ := LU8
        have hdl := dps_len dD8
        rw [List.length_map, G5.ln, hsn] at hdl
        refine ⟨t, vus, verW S Ls ((i : Nat) : Int), m, rfl, rfl, SqT.of et8, hv8, hm0.1, hm0.2, fun v dv => ⟨_, rfl, _, rfl, DU, dus, _, i, rfl, rfl, eD8, ixN_nn (by omega), ?_⟩⟩
        have f9 : Fr [DU] H8 (upd H8 DU (.lst (dus.set i v))) := .put (by simp) fun o z => by rw [eD8] at z; cases z; rfl
        refine ⟨_, _, _, _, cs', _, rfl, I8.oth u1 u2 u3 u4 u5 f9, f9.at ec8 (by simp [ncD]), ⟨_, upd_same, ?_⟩, G8⟩
        rw [List.map_set]
        exact dpsSet _ (dps_same f9.tp _ _ dD8) (dp_same f9.tp _ _ dv)
      have put : ∀ (H8 : Hp), KI K C HB H8 a sc ns PT dk SL LL TL N S Ls es → H8 ch = some (.dK (chV cs)) → LsT K H8 DU (due.map vD) → H8 t = some (.tup vus) → DpAll K (Tp H8) vus ((verW S Ls ((i : Nat) : Int)).map vD) → ∃ H9, DPut H8 ch (.int ((i : Nat) : Int)) (.int m) H9 ∧ KI K C HB H9 a sc ns PT dk SL LL TL N S Ls es ∧ H9 ch = some (.dK (chV (cs ++ [(((i : Nat) : Int), m)]))) ∧ LsT K H9 DU (due.map vD) ∧ H9 t = some (.tup vus) ∧ DpAll K (Tp H9) vus ((verW S Ls ((i : Nat) : Int)).map vD) := fun H8 I8 ec8 LU8 et8 hv8 => by
        have hcl : cs.length ≤ N := by
          have h1 := len_le (m := (List.range N).map fun j => ((j : Nat) : Int)) G5.nd fun x hx => (by
            obtain ⟨c, hc, rfl⟩ := List.mem_map.mp hx
            have h2 := G5.rg c hc
            exact List.mem_map.mpr ⟨c.1.toNat, List.mem_range.mpr (by omega), by omega⟩ : x ∈ (List.range N).map fun j => ((j : Nat) : Int))
          simpa using h1
        have f9 : Fr [ch] H8 (upd H8 ch (.dK (putK (chV cs) (Sum.inl ((i : Nat) : Int)) (.int m)))) := .put (by simp) fun o z => by rw [ec8] at z; cases z; rfl
        refine ⟨_, DPut.k (k := Sum.inl ((i : Nat) : Int)) ec8 (by show (cs.map _).length < _; rw [List.length_map, sizeLine_eq]; omega), I8.oth c1 c2 c3 c4 c5 f9, ?_, LU8.fr f9 (by simp [ncD.symm]), f9.tup et8, dps_same f9.tp _ _ hv8⟩
        rw [upd_same, putK_new, ← show chV (cs ++ [(((i : Nat) : Int), m)]) = chV cs ++ [(Sum.inl ((i : Nat) : Int), .int m)] from by unfold chV; rw [List.map_append]; rfl]
        intro hx
        unfold chV at hx
        rw [List.map_map] at hx
        obtain ⟨c, hc, e⟩ := List.mem_map.mp hx
        have h2 := G5.rg c hc
        have h3 : c.1 = ((i : Nat) : Int) := Sum.inl.inj e
        omega
      refine ⟨_, rfl, rfl, _, rfl, ?_⟩
      by_cases cm : m = 0
      · rw [decide_eq_true (by rw [cm])]
        refine iteF ⟨_, rfl, a, sc, ns, 2, rfl, I7.d, by decide, fun r H8 r0 r1 z8 D8 => ⟨rfl, _, rfl, ?_⟩⟩
        have f8 := I7.d.frb z8
        have I8 := I7.but z8 D8
        have et8 := f8.tup et7
        have hv8 := dps_same f8.tp _ _ hv7
        have ec8 := f8.at ec7 (by simp [c6])
        have LU8 := LU7.fr f8 (by simp [u6])
        refine ite2 (fun cc => ?_) (fun cc => ?_)
        · obtain ⟨H9, g1, g2, g3, g4, g5, g6⟩ := put H8 I8 ec8 LU8 et8 hv8
          exact ⟨_, rfl, _, rfl, _, rfl, ch, H9, rfl, g1, go H9 _ g2 g3 g4 g5 g6 (G5.put hcw)⟩
        · refine go H8 cs I8 ec8 LU8 et8 hv8 ?_
          rw [cm]
          exact G5.stay
      · rw [decide_eq_false (fun z => cm (V.int.inj z))]
        obtain ⟨H9, g1, g2, g3, g4, g5, g6⟩ := put H7 I7 ec7 LU7 et7 hv7
        exact iteT (iteT ⟨_, rfl, _, rfl, _, rfl, ch, H9, rfl, g1, go H9 _ g2 g3 g4 g5 g6 (G5.put hcw)⟩)
    · rintro σ H5 ⟨z5, z12, z21, z22, cs, due, rfl, I5, ec5, LU5, G5⟩
      obtain ⟨sv, lv, DA, DS, DL, hlv, hib⟩ := I5.disk
      obtain ⟨dx, sA, lA, ts, e1, e2, e3, e4, e5, e6⟩ := id DA
      refine ⟨_, rfl, dk, dx, _, rfl, e1, fl_no _ _ _ (by decide +kernel) (by decide +kernel) (by decide +kernel), _, rfl, dk, ch, _, sv, lv, cs, rfl, DA, ec5, G5.nd, fun c hc => ?_, by omega, by omega, by omega, fun x H6 s6 hx Dx => ?_⟩
      · have h2 := G5.rg c hc
        exact ⟨h2.1, h2.2, by rw [choose_dp DL]; exact G5.ok c hc⟩
      have I6 := I5.same s6
      have dfl := fall_dp (DL.same (tp_same s6)) (dps_same (tp_same s6) _ _ DS) (cs := cs) (fun c hc => by
        have h2 := G5.rg c hc
        exact ⟨h2.1, by rw [List.length_map, hsn]; exact h2.2, G5.ok c hc⟩)
      rw [G5.fl] at dfl
      obtain ⟨dx6, sB, lB, tsB, x1, x2, x3, x4, x5, x6⟩ := Dx
      have htsB : tsB = [] := List.eq_nil_of_length_eq_zero x6.1
      subst htsB
      obtain ⟨dus, eD6, dD6⟩ := LU5.same s6
      refine ⟨_, rfl, x, C, dx6, _, _, rfl, x1, T.cl, T.nS, fl_settled _ _ _, _, rfl, DU, dus, rfl, .inl ⟨SqL.of eD6, fun t7 ht7 => ?_⟩⟩
      have w7 := same_upd (o := .tup dus) ht7
      have et7 : upd H6 t7 (.tup dus) t7 = some (.tup dus) := upd_same
      have I7 := I6.same w7
      generalize upd H6 t7 (.tup dus) = H7 at w7 et7 I7 ⊢
      have okd := ok_map ok_v due
      refine ⟨.tuple _, .tuple _, .tup (SqT.of (w7 _ _ x2)) (dps_same tp_le _ _ (dps_same (tp_same w7) _ _ dfl)), .tup (SqT.of et7) (dps_same tp_le _ _ (dps_same (tp_same w7) _ _ dD6)), sht_of okd, sht_of okd, _, rfl, ?_⟩
      rw [eqv_tup okd]
      refine iteF ⟨_, rfl, x, C, dx6, _, _, rfl, w7 _ _ x1, T.cl, T.nL, fl_loose _ _ _, Nat.zero_le _, fun t8 ht8 => ?_⟩
      have w8 := same_upd (o := .tup []) ht8
      have okn : ∀ d ∈ ([] : List PyData), OkD d := fun d hd => (by cases hd)
      refine ⟨.tuple [], .tuple [], .tup (SqT.of (w8 _ _ (w7 _ _ x5))) .nil, .tup (SqT.of upd_same) .nil, sht_of okn, sht_of okn, _, rfl, ?_⟩
      rw [eqv_tup okn]
      have I8 := I7.same w8
      generalize upd H7 t8 (.tup []) = H8 at w8 I8 ⊢
      obtain ⟨sv8, lv8, DA8, DS8, DL8, _, _⟩ := I8.disk
      obtain ⟨dx8, sA8, lA8, ts8, f1, f2, f3, f4, f5, f6⟩ := id DA8
      obtain ⟨sus8, eS8, dS8⟩ := id I8.s
      obtain ⟨lus8, eL8, dL8⟩ := id I8.l
      refine iteF ⟨_, rfl, dk, C, dx8, _, _, rfl, f1, T.cl, T.nS, fl_settled _ _ _, _, rfl, SL, sus8, rfl, .inl ⟨SqL.of eS8, fun t9 ht9 => ?_⟩⟩
      have w9 := same_upd (o := .tup sus8) ht9
      have et9 : upd H8 t9 (.tup sus8) t9 = some (.tup sus8) := upd_same
      have I9 := I8.same w9
      generalize upd H8 t9 (.tup sus8) = H9 at w9 et9 I9 ⊢
      have okv := ok_map ok_v S
      refine ⟨.tuple _, .tuple _, .tup (SqT.of (w9 _ _ f2)) (dps_same tp_le _ _ (dps_same (tp_same w9) _ _ DS8)), .tup (SqT.of et9) (dps_same tp_le _ _ (dps_same (tp_same w9) _ _ dS8)), sht_of okv, sht_of okv, _, rfl, ?_⟩
      rw [eqv_tup okv]
      refine iteF ⟨_, rfl, dk, C, dx8, _, _, rfl, w9 _ _ f1, T.cl, T.nL, fl_loose _ _ _, _, rfl, LL, lus8, rfl, .inl ⟨SqL.of (w9 _ _ eL8), fun tA htA => ?_⟩⟩
      have wA := same_upd (o := .tup lus8) htA
      have etA : upd H9 tA (.tup lus8) tA = some (.tup lus8) := upd_same
      have IA := I9.same wA
      have w9A := w9.trans wA
      generalize upd H9 tA (.tup lus8) = HA at wA etA IA w9A ⊢
      have okp := ok_map ok_p Ls
      refine ⟨.tuple _, .tuple _, .tup (SqT.of (w9A _ _ f5)) (dps_same tp_le _ _ (dps_same (tp_same w9A) _ _ (ls_dp f6 DL8))), .tup (SqT.of etA) (dps_same tp_le _ _ (dps_same (tp_same w9A) _ _ dL8)), sht_of okp, sht_of okp, _, rfl, ?_⟩
      rw [eqv_tup okp]
      exact iteF ⟨_, _, _, _, _, _, _, rfl, IA⟩
  · rintro σ H2 ⟨z5, z8, z9, z11, z12, z21, z22, rfl, I2⟩
    exact nx H2 z5 z8 z9 z11 z12 z21 z22 I2
end
end Pf

set_option Elab.async false
set_option linter.all false
set_option maxRecDepth 100000
set_option maxHeartbeats 4000000
namespace Pf
open PySem PySem.Spec PyProof.Rows L2
theorem DkV.fields {K : PySem.W.Frag} {C : Addr} {H : Hp} {d : Addr} {S : List Vl} {Ls : Lv} (k : DkV K C H d S Ls) : ∃ dx s l sv ts, H d = some (.ins C dx (fl ((S.length : Nat) : Int) s l)) ∧ H s = some (.tup sv) ∧ H l = some (.tup ts) ∧ DpAll K (Tp H) sv (S.map vD) ∧ DpAll K (Tp H) ts (Ls.map pD) := by
  obtain ⟨sv, lv, ⟨dx, s, l, ts, e1, e2, e3, e4, e5, e6⟩, D2, D3⟩ := k
  rw [List.length_map] at e1
  exact ⟨dx, s, l, sv, ts, e1, e2, e5, D2, ls_dp e6 D3⟩
section
variable {P : Program} {w : World} {K : PySem.W.Frag} {mg : Str → Option Value} {base : Heap} {C : Addr} {f : Addr} {cdv : Value} {A : Around} {outer : List Env} {s : Shared} {H0 : Hp} {E : XK} {rest : List Stmt} {u : TS}
theorem law_9c {fT fA fI : Addr} {dT dA dI : FuncData} (T : DTxt K C) (DT : Df P w K mg base CX0 2 "_law_take" ["draw", "many"] (spTake K) fT dT) (DA : Df P w K mg base CX0 4 "disk_after" ["disk", "trace", "moment"] (spDaL K C) fA dA) (MI : Mk K C fI) (GI : FnOk P w K mg base CX0 1 fI dI ["self", "many"] (spInit C)) (mgC : mg "Disk" = some (.ref C)) (bI : Binds K dI ["self", "many"] []) (mt : mg "tuple" = none) (mln : mg "len" = none) (hr : Room 6 (A.deeper (envOfC "law" (defScope sLaw) s.heap.objs.size f cdv))) (hU : PSs (XL P w K mg base f cdv A outer s H0 E) rest u) :
    ∃ t, PSs (XL P w K mg base f cdv A outer s H0 E) (stL 9 :: stL 10 :: stL 11 :: stL 12 :: rest) t ∧ ∀ D HB H a sc ns PT dk SL LL TL N S Ls es y5 y6 y7 y8 y9 y10 y11 y12 y13 y14 y15 y16 y17 y18 y21 y22, KI K C HB H a sc ns PT dk SL LL TL N S Ls es → es.length ≤ 8 →
      (∀ H' z13 z14 z15, KI K C HB H' a sc ns PT dk SL LL TL N S Ls es → u D [some (.ref sc), some (.ref a), some (.ref SL), some (.ref LL), some (.ref TL), y5, y6, y7, y8, y9, y10, y11, y12, z13, z14, z15, y16, y17, y18, some (.ref dk), some (.int ((N : Nat) : Int)), y21, y22] H') → t D [some (.ref sc), some (.ref a), some (.ref SL), some (.ref LL), some (.ref TL), y5, y6, y7, y8, y9, y10, y11, y12, y13, y14, y15, y16, y17, y18, some (.ref dk), some (.int ((N : Nat) : Int)), y21, y22] H := by
  have nd := scLaw.nd
  have hu := hu_of hr
  have h1 : Room 1 _ := hr.mono (by decide)
  have h2 : Room 2 _ := hr.mono (by decide)
  have h3 : Room 3 _ := hr.mono (by decide)
  have h4 : Room 4 _ := hr.mono (by decide)
  refine ⟨_, (pss_cons (ps_set (i := 13) nd rfl (.inl rfl) (pe_call DT.G h2 rfl DT.g DT.kp DT.b .nil pass0 (pa_cons (pv 1) (pa_cons (pe_op op_add (pe_callB call_len_seq (by rfl) mln boot_len (pa_cons (pv 4) pa_nil)) pe_int) pa_nil)))) (pss_cons (ps_set (i := 14) nd rfl (.inl rfl) (pe_call DA.G h4 rfl DA.g DA.kp DA.b .nil pass0 (pa_cons (pe_make MI GI h2 rfl mgC bI .nil pass0 (pa_cons (pv 20) pa_nil)) (pa_cons (pe_callTy call_tuple_of (by rfl) mt boot_tuple (pa_cons (pv 4) pa_nil)) (pa_cons (pv 13) pa_nil))))) (pss_cons (ps_set (i := 15) nd rfl (.inl rfl) (pe_call DA.G h4 rfl DA.g DA.kp DA.b .nil pass0 (pa_cons (pv 14) (pa_cons (pe_callTy call_tuple_of (by rfl) mt boot_tuple (pa_cons (pe_slice sl_list (pv 4) (po_some (pv 13)) po_none) pa_nil)) (pa_cons (pe_op op_sub (pe_callB call_len_seq (by rfl) mln boot_len (pa_cons (pv 4) pa_nil)) (pv 13)) pa_nil))))) (pss_cons (ps_if (PW.pt (pw_or (pt_cmpR (op_neD hr.units) (pe_fld (pv 15) rfl) (pe_fld (pv 19) rfl) (nomark _)) (pw_or1 (pt_cmpR (op_neD hr.units) (pe_fld (pv 15) rfl) (pe_fld (pv 19) rfl) (nomark _))))) (pss_one (ps_ret pe_bl)) pss_nil) hU)))), fun D HB H a sc ns PT dk SL LL TL N S Ls es y5 y6 y7 y8 y9 y10 y11 y12 y13 y14 y15 y16 y17 y18 y21 y22 I hes nx => ?_⟩
  have hn3 := I.n3
  have hn1 := I.n1
  have hsn := I.sn
  obtain ⟨tus, eT, dT0⟩ := id I.t
  have htl := dps_len dT0
  rw [List.length_map] at htl
  refine ⟨_, rfl, _, rfl, TL, tus, rfl, .inl (SqL.of eT), _, _, rfl, rfl, a, sc, ns, _, rfl, I.d, by omega, fun q H1 q0 q1 z1 D1 => ?_⟩
  have I1 := I.but z1 D1
  obtain ⟨k, rfl⟩ : ∃ k : Nat, q = ((k : Nat) : Int) := ⟨q.toNat, by omega⟩
  have hk : k ≤ es.length := by omega
  obtain ⟨tus1, eT1, dT1⟩ := id I1.t
  refine ⟨_, rfl, fun x xx hx hxx hne => ?_⟩
  have sd : Same H1 (upd (upd H1 xx (.own x)) x (.ins C xx [])) := fun b o z => by
    rw [upd_ne (ne_of_none z hx), upd_ne (ne_of_none z hxx)]
    exact z
  refine ⟨x, xx, ((N : Nat) : Int), rfl, upd_same, by omega, by omega, fun H2 e b2 he0 ee Dk => ⟨rfl, ?_⟩⟩
  have s2 : Same H1 H2 := fun b o z => b2.at (sd _ _ z) (by simp only [List.mem_cons, List.not_mem_nil, or_false]; exact ne_of_none z hx)
  rw [Int.toNat_natCast] at Dk
  have Dk2 : DkAt K C H2 x (List.replicate N (vD (some []))) [] := ⟨_, [], by rw [List.length_replicate]; exact Dk, by have := vs_rep K H2 e ee N; rwa [List.map_replicate] at this, rfl, .nil⟩
  have I2 := I1.same s2
  obtain ⟨tus2, eT2, dT2⟩ := id I2.t
  refine ⟨_, rfl, TL, tus2, rfl, .inl ⟨SqL.of eT2, fun t ht => ?_⟩⟩
  have w3 := same_upd (o := .tup tus2) ht
  have et3 : upd H2 t (.tup tus2) t = some (.tup tus2) := upd_same
  have I3 := I2.same w3
  have Dk3 := Dk2.fr (xs := []) (.of w3) (by simp)
  have dT3 := dps_same (tp_same w3) _ _ dT2
  generalize upd H2 t (.tup tus2) = H3 at w3 et3 I3 Dk3 dT3 ⊢
  have hi := I.i
  refine ⟨_, rfl, ?_⟩
  refine ⟨x, .ref t, k, _, [], es, rfl, Dk3, (fun z hz => (by cases hz)), by simp, .tup (SqT.of (tp_at et3 rfl)) dT3, hk, by omega, by rw [List.length_replicate]; exact hi, by rw [List.length_replicate]; exact hn1, by rw [List.length_replicate]; omega, fun x1 H4 s4 hx1 Dk4 => ?_⟩
  have I4 := I3.same s4
  have hsev := rep_loose (es.take k) (List.replicate N (vD (some []))) [] 0 0 rfl
  have hrl : (rep (List.replicate N (vD (some []))) [] (es.take k)).1.length = N := by rw [rep_len, List.length_replicate]
  have hlow := rep_inL (N := N) (ds0 := List.replicate N (vD (some []))) (ls0 := []) hi (fun z hz => (by cases hz)) (i := k)
  have hall : rep (rep (List.replicate N (vD (some []))) [] (es.take k)).1 (rep (List.replicate N (vD (some []))) [] (es.take k)).2 (es.drop k) = (S.map vD, lwD Ls) := by
    rw [← rep_app, List.take_append_drop]
    exact I.r
  rw [List.length_take] at hsev
  obtain ⟨tus4, eT4, dT4⟩ := id I4.t
  have htl4 := dps_len dT4
  rw [List.length_map] at htl4
  refine ⟨_, rfl, _, rfl, _, rfl, _, rfl, TL, tus4, rfl, SqL.of eT4, fun p hp => ?_⟩
  have w5 := same_upd (o := .lst (cutV tus4 (some ((k : Nat) : Int)) none)) hp
  have ep5 : upd H4 p (.lst (cutV tus4 (some ((k : Nat) : Int)) none)) p = some (.lst (cutV tus4 (some ((k : Nat) : Int)) none)) := upd_same
  rw [cut_from] at w5 ep5
  rw [cut_from]
  have I5 := I4.same w5
  have Dk5 := Dk4.fr (xs := []) (.of w5) (by simp)
  have dT5 := dps_same (tp_same w5) _ _ dT4
  generalize upd H4 p (.lst (tus4.drop k)) = H5 at w5 ep5 I5 Dk5 dT5 ⊢
  refine ⟨p, _, rfl, .inl ⟨SqL.of ep5, fun t6 ht6 => ?_⟩⟩
  have w6 := same_upd (o := .tup (tus4.drop k)) ht6
  have et6 : upd H5 t6 (.tup (tus4.drop k)) t6 = some (.tup (tus4.drop k)) := upd_same
  have I6 := I5.same w6
  have Dk6 := Dk5.fr (xs := []) (.of w6) (by simp)
  have dT6 := dps_same (tp_same w6) _ _ dT5
  generalize upd H5 t6 (.tup (tus4.drop k)) = H6 at w6 et6 I6 Dk6 dT6 ⊢
  obtain ⟨tus6, eT6, dT6'⟩ := id I6.t
  have htl6 := dps_len dT6'
  rw [List.length_map] at htl6
  refine ⟨_, rfl, TL, tus6, rfl, .inl (SqL.of eT6), _, rfl, _, _, rfl, rfl, ?_⟩
  refine ⟨x1, .ref t6, es.length - k, _, _, es.drop k, ?_, Dk6, by rw [hrl]; exact hlow, by omega, .tup (SqT.of (tp_at et6 rfl)) (by rw [List.map_drop]; exact dps_drop k dT6), by rw [List.length_drop]; exact Nat.le_refl _, by rw [List.length_drop]; omega, ?_, by omega, by omega, fun x2 H7 s7 hx2 Dk7 => ?_⟩
  · show [V.ref x1, V.ref t6, V.int (((tus6.length : Nat) : Int) - ((k : Nat) : Int))] = _
    rw [htl6, show ((es.length : Nat) : Int) - ((k : Nat) : Int) = ((es.length - k : Nat) : Int) by omega]
  · rw [hrl]
    exact fun p e h => hi p e (List.mem_of_mem_drop h)
  rw [List.take_of_length_le (l := es.drop k) (i := es.length - k) (by rw [List.length_drop]; exact Nat.le_refl _), hall] at Dk7
  have I7 := I6.same s7
  have D7 : DkV K C H7 x2 S Ls := Dk7
  obtain ⟨d1, s1, l1, sv1, ts1, e1, f1, g1, p1, r1⟩ := D7.fields
  obtain ⟨d2, s2', l2, sv2, ts2, e2, f2, g2, p2, r2⟩ := I7.k.fields
  have okv := ok_map ok_v S
  have okp := ok_map ok_p Ls
  refine ⟨_, rfl, x2, C, d1, _, _, rfl, e1, T.cl, T.nS, fl_settled _ _ _, _, rfl, dk, C, d2, _, _, rfl, e2, T.cl, T.nS, fl_settled _ _ _, ?_⟩
  refine ⟨.tuple _, .tuple _, .tup (SqT.of f1) (dps_same tp_le _ _ p1), .tup (SqT.of f2) (dps_same tp_le _ _ p2), sht_of okv, sht_of okv, _, rfl, ?_⟩
  rw [eqv_tup okv]
  refine iteF ⟨_, rfl, x2, C, d1, _, _, rfl, e1, T.cl, T.nL, fl_loose _ _ _, _, rfl, dk, C, d2, _, _, rfl, e2, T.cl, T.nL, fl_loose _ _ _, ?_⟩
  refine ⟨.tuple _, .tuple _, .tup (SqT.of g1) (dps_same tp_le _ _ r1), .tup (SqT.of g2) (dps_same tp_le _ _ r2), sht_of okp, sht_of okp, _, rfl, ?_⟩
  rw [eqv_tup okp]
  exact iteF (nx H7 _ _ _ I7)
end
end Pf

set_option Elab.async false
set_option linter.all false
set_option maxRecDepth 100000
set_option maxHeartbeats 4000000
namespace Pf
open PySem PySem.Spec PyProof.Rows L2
/-! ### what stands while wrong things are tried -/
theorem tp_ext {H H' : Hp} (z : LamX.ExtN H H') : Same (Tp H) (Tp H') := fun b o e => by
  obtain ⟨e1, e2⟩ := tp_some e
  exact tp_at (z b o e1 (fun ps h => by rw [h] at e2; cases e2)) e2
theorem DkV.ext {K : PySem.W.Frag} {C : Addr} {H H' : Hp} {d : Addr} {S : List Vl} {Ls : Lv} (A : DkV K C H d S Ls) (z : LamX.ExtN H H') : DkV K C H' d S Ls := by
  obtain ⟨sv, lv, ⟨dx, a, b, ts, h1, h2, h3, h4, h5, h6⟩, g1, g2⟩ := A
  exact ⟨sv, lv, ⟨dx, a, b, ts, z _ _ h1 (fun ps h => by cases h), z _ _ h2 (fun ps h => by cases h), h3, h4, z _ _ h5 (fun ps h => by cases h), h6.1, fun i q e => let ⟨c, e1, e2⟩ := h6.2 i q e; ⟨c, e1, z _ _ e2 (fun ps h => by cases h)⟩⟩, dps_same (tp_ext z) _ _ g1, g2.same (tp_ext z)⟩
theorem LsT.ext {K : PySem.W.Frag} {H H' : Hp} {L : Addr} {ds : List PyData} (A : LsT K H L ds) (z : LamX.ExtN H H') : LsT K H' L ds := let ⟨us, e, d⟩ := A; ⟨us, z _ _ e (fun ps h => by cases h), dps_same (tp_ext z) _ _ d⟩
abbrev lamQ : Str := (envOfC "law" (defScope sLaw) 0 0 .none).qual ++ "<lambda>"
abbrev lamT (PT : Addr) : List (Addr × Str) := [(PT, lamQ)]
structure MI (K : PySem.W.Frag) (C : Addr) (H : Hp) (PT dk LL : Addr) (N : Nat) (S : List Vl) (Ls : Lv) : Prop where
  k : DkV K C H dk S Ls
  l : LsT K H LL (Ls.map pD)
  t : LamX.Tabs (lamT PT) H
  li : ∀ q ∈ Ls, 0 ≤ q.1 ∧ q.1 < ((N : Nat) : Int)
  sn : S.length = N
  n3 : N ≤ 3
  n1 : 1 ≤ N
  l5 : Ls.length ≤ 5
theorem MI.ext {K : PySem.W.Frag} {C : Addr} {H H' : Hp} {PT dk LL : Addr} {N : Nat} {S : List Vl} {Ls : Lv} (I : MI K C H PT dk LL N S Ls) (z : LamX.ExtN H H') (t : LamX.Tabs (lamT PT) H') : MI K C H' PT dk LL N S Ls := ⟨I.k.ext z, I.l.ext z, t, I.li, I.sn, I.n3, I.n1, I.l5⟩
theorem MI.same {K : PySem.W.Frag} {C : Addr} {H H' : Hp} {PT dk LL : Addr} {N : Nat} {S : List Vl} {Ls : Lv} (I : MI K C H PT dk LL N S Ls) (z : Same H H') : MI K C H' PT dk LL N S Ls := I.ext (LamX.ExtN.of z) (I.t.ext z)
theorem KI.mi {K : PySem.W.Frag} {C : Addr} {HB H : Hp} {a sc : Addr} {ns : List Int} {PT dk SL LL TL : Addr} {N : Nat} {S : List Vl} {Ls : Lv} {es : List Ev} (I : KI K C HB H a sc ns PT dk SL LL TL N S Ls es) : MI K C H PT dk LL N S Ls :=
  ⟨I.k, I.l, fun p hp => by rw [List.mem_singleton.mp hp]; exact LamX.TabS.nil I.tab, I.li, I.sn, I.n3, I.n1, I.l5⟩
theorem MI.disk {K : PySem.W.Frag} {C : Addr} {H : Hp} {PT dk LL : Addr} {N : Nat} {S : List Vl} {Ls : Lv} (I : MI K C H PT dk LL N S Ls) : ∃ sv lv, DiskAt C H dk ((N : Nat) : Int) sv lv ∧ DpAll K (Tp H) sv (S.map vD) ∧ LvD K (Tp H) lv (lwD Ls) ∧ lv.length = Ls.length := by
  obtain ⟨sv, lv, D, D2, D3⟩ := I.k
  rw [List.length_map, I.sn] at D
  have hl : lv.length = Ls.length := by
    have := congrArg List.length D3.1
    rw [List.length_map, List.length_map, lwD_len] at this
    exact this
  exact ⟨sv, lv, D, D2, D3, hl⟩
def wrongZ (n : Int) : Int := if n = 1 then -1 else n - 1
def wrongs (n : Nat) : List V := [.int (-2), .int n, .int ((n : Int) + 1), .str "1", .bl true, .int (wrongZ n)]
def tWr : TE := fun σ H Q => ∃ n : Int, σ[16]? = some (some (.int n)) ∧ Q (.int (wrongZ n)) H
section
variable {P : Program} {w : World} {K : PySem.W.Frag} {mg : Str → Option Value} {base : Heap} {C : Addr} {f : Addr} {cdv : Value} {A : Around} {outer : List Env} {s : Shared} {H0 : Hp} {E : XK} {rest : List Stmt} {u : TS}
theorem law_13_15 {fV fT : Addr} {dV dT : FuncData} (T : DTxt K C) (DT : Df P w K mg base CX0 2 "_law_take" ["draw", "many"] (spTake K) fT dT) (MV : Me P w K mg base 3 C "versions" ["self", "plate"] (spVers C) fV dV) (mln : mg "len" = none) (hr : Room 6 (A.deeper (envOfC "law" (defScope sLaw) s.heap.objs.size f cdv))) (hU : PSs (XL P w K mg base f cdv A outer s H0 E) rest u) :
    ∃ t, PSs (XL P w K mg base f cdv A outer s H0 E) (stL 13 :: stL 14 :: stL 15 :: rest) t ∧ ∀ D HB H a sc ns PT dk SL LL TL N S Ls es y5 y6 y7 y8 y9 y10 y11 y12 y13 y14 y15 y16 y17 y18 y21 y22, KI K C HB H a sc ns PT dk SL LL TL N S Ls es →
      (∀ H' p n WR, n = (verW S Ls p).length → 0 ≤ p → p < ((N : Nat) : Int) → MI K C H' PT dk LL N S Ls → H' WR = some (.lst (wrongs n)) → u D [some (.ref sc), some (.ref a), some (.ref SL), some (.ref LL), some (.ref TL), y5, y6, y7, y8, y9, y10, y11, y12, y13, y14, y15, some (.int ((n : Nat) : Int)), some (.ref WR), y18, some (.ref dk), some (.int ((N : Nat) : Int)), y21, some (.int p)] H') → t D [some (.ref sc), some (.ref a), some (.ref SL), some (.ref LL), some (.ref TL), y5, y6, y7, y8, y9, y10, y11, y12, y13, y14, y15, y16, y17, y18, some (.ref dk), some (.int ((N : Nat) : Int)), y21, y22] H := by
  have nd := scLaw.nd
  have hu := hu_of hr
  have h1 : Room 1 _ := hr.mono (by decide)
  have h2 : Room 2 _ := hr.mono (by decide)
  have h3 : Room 3 _ := hr.mono (by decide)
  have h4 : Room 4 _ := hr.mono (by decide)
  refine ⟨_, (pss_cons (ps_set (i := 22) nd rfl (.inr rfl) (pe_call DT.G h2 rfl DT.g DT.kp DT.b .nil pass0 (pa_cons (pv 1) (pa_cons (pv 20) pa_nil)))) (pss_cons (ps_set (i := 16) nd rfl (.inl rfl) (pe_callB call_len_seq (by rfl) mln boot_len (pa_cons (pe_meth (pv 19) T.cl MV.m MV.G h3 MV.b .nil pass0 (pa_cons (pv 22) pa_nil)) pa_nil))) (pss_cons (ps_set (i := 17) nd rfl (.inl rfl) (pe_lst (pa_cons (pe_un un_neg pe_int) (pa_cons (pv 16) (pa_cons (pe_op op_add (pv 16) pe_int) (pa_cons pe_str (pa_cons pe_bl (pa_cons (pe_imp (t' := tWr) (pe_ifExp (pt_cmpR op_eq (pv 16) pe_int (nomark _)) (pe_un un_neg pe_int) (pe_op op_sub (pv 16) pe_int)) ?wr) pa_nil)))))))) hU))), fun D HB H a sc ns PT dk SL LL TL N S Ls es y5 y6 y7 y8 y9 y10 y11 y12 y13 y14 y15 y16 y17 y18 y21 y22 I nx => ?_⟩
  case wr =>
    rintro σ H Q ⟨n, e, q⟩
    refine ⟨_, e, rfl, _, rfl, ite2 (fun c => ?_) (fun c => ?_)⟩
    · have c1 : n = 1 := V.int.inj (of_decide_eq_true c)
      refine ⟨1, rfl, ?_⟩
      unfold wrongZ at q
      rw [if_pos c1] at q
      exact q
    · have c1 : ¬ n = 1 := fun z => c (decide_eq_true (by rw [z]))
      unfold wrongZ at q
      rw [if_neg c1] at q
      exact ⟨_, e, _, _, rfl, rfl, q⟩
  have hn3 := I.n3
  have hn1 := I.n1
  have hsn := I.sn
  have hl5 := I.l5
  refine ⟨_, rfl, _, rfl, a, sc, ns, _, rfl, I.d, by omega, fun p H1 p0 p1 z1 D1 => ?_⟩
  have I1 := I.but z1 D1
  obtain ⟨sv, lv, DA, DS, DL, hlv, hib⟩ := I1.disk
  obtain ⟨dx, sA, lA, ts, e1, _⟩ := id DA
  refine ⟨_, rfl, dk, dx, _, rfl, e1, fl_no _ _ _ (by decide +kernel) (by decide +kernel) (by decide +kernel), _, rfl, dk, _, p, sv, lv, rfl, DA, p0, p1, by omega, fun t H2 s2 ht et => ?_⟩
  have I2 := I1.same s2
  have hv2 := vers_dp (p := p) (DL.same (tp_same s2)) (dps_same (tp_same s2) _ _ DS) p0 (by rw [List.length_map]; omega)
  rw [ver_w] at hv2
  have hvl := dps_len hv2
  rw [List.length_map] at hvl
  refine ⟨t, _, rfl, .inr (SqT.of et), ?_⟩
  rw [hvl]
  refine ⟨2, rfl, _, rfl, _, rfl, _, _, rfl, rfl, _, rfl, (by show 6 ≤ sizeLine; decide), fun WR hWR => ?_⟩
  have w3 := same_upd (o := .lst (wrongs (verW S Ls p).length)) hWR
  exact nx _ p _ WR rfl p0 p1 (I2.same w3).mi upd_same
end
end Pf

set_option Elab.async false
set_option linter.all false
set_option maxRecDepth 100000
set_option maxHeartbeats 4000000
namespace Pf
open PySem PySem.Spec PyProof.Rows L2
/-! ### a lambda in the hands of _law_fault -/
structure FX (K : PySem.W.Frag) (mg : Str → Option Value) (CP SP fIP CH SH fIH CM SM fIM : Addr) : Prop where
  RP : BpTx K mg CP SP fIP
  RH : BhTx K mg CH SH fIH
  RM : BmTx K mg CM SM fIM
  XP : XfC K CP
  XH : XfC K CH
  XM : XfC K CM
  mHH : PySem.W.exmOne K (.ref CH) (.ref CH) = some true
  mPH : PySem.W.exmOne K (.ref CP) (.ref CH) = some false
  mPP : PySem.W.exmOne K (.ref CP) (.ref CP) = some true
  mMH : PySem.W.exmOne K (.ref CM) (.ref CH) = some false
  mMP : PySem.W.exmOne K (.ref CM) (.ref CP) = some false
  mMM : PySem.W.exmOne K (.ref CM) (.ref CM) = some true
section
variable {X : Cx} {CP SP fIP CH SH fIH CM SM fIM g : Addr} {fd : FuncData} {c PT : Addr} {body : Expr} {scope : Scope} {p lpos pos : Pos} {t : XK → TE}
theorem pe_fault (R : FX X.K X.mg CP SP fIP CH SH fIH CM SM fIM) (F : Fun X.K "_law_fault" "_law_fault" sFault g fd) (hm : X.mg "_law_fault" = some (.ref g)) (hg : Gl X "_law_fault") (TB : LamX.TabB X.base X.mg c PT) (hcode : X.env.code = .ref c)
    (hq : X.env.qual ++ "<lambda>" = lamQ) (hr : Room 6 X.A) (L : LamX.LamS X.env.scope scope) (hdef : defaultsOf ⟨[], [], none, [], [], none, []⟩ X.env = ([], []))
    (hbody : ∀ (A : Around) (outer : List Env) (s : Shared) (H : Hp) (E : XK) (f c' : Addr), Room 4 (A.deeper (LamX.lamEnv X scope s.heap.objs.size f c')) → PE (LamX.lamCx X A outer s H E scope f c') body (t E)) :
    PE X (.Call (.Name "_law_fault" p) [.Lambda ⟨[], [], none, [], [], none, []⟩ body scope lpos] [] pos) (LamX.tLam (lamT PT) (TFl CH CP CM) t) := by
  have hb := F.binds (ps := ["work"]) (fun _ _ _ _ _ _ us hl => match us, hl with | [_], _ => rfl)
  have hk := F.kp
  obtain ⟨oc, od, kV, doc, pm, an, cdv, ct, osl, rfl, lk, hcd⟩ := F.ex
  exact LamX.pe_lamcall (k := 4) hg hm hk lk hcd hb scFa rfl (.inl rfl) (fault_gives R.RP R.RH R.RM R.XP R.XH R.XM R.mHH R.mPH R.mPP R.mMH R.mMP R.mMM) TB hcode (List.mem_singleton.mpr (by rw [hq])) (fun q hq2 _ => by rw [List.mem_singleton.mp hq2, hq]) hr L hdef (fun _ _ _ _ _ => rfl) hbody
end
end Pf

set_option Elab.async false
set_option linter.all false
set_option maxRecDepth 100000
set_option maxHeartbeats 4000000
namespace Pf
open PySem PySem.Spec PyProof.Rows L2
theorem wrong_bad {n L : Nat} (hn : n = lenW L) {i : Nat} {v : V} (h : (wrongs n)[i]? = some v) : ∃ dt, (∀ (K : PySem.W.Frag) (G : Hp), Dp K G v dt) ∧ wholeB dt (some (loI L)) (some ((L : Nat) : Int)) = false := by
  have e : ∀ z : Int, (¬ loI L ≤ z ∨ ¬ z ≤ ((L : Nat) : Int)) → wholeB (.int z) (some (loI L)) (some ((L : Nat) : Int)) = false := fun z hz => by
    show (decide (loI L ≤ z) && decide (z ≤ ((L : Nat) : Int))) = false
    rcases hz with c | c
    · rw [decide_eq_false c]; rfl
    · rw [decide_eq_false c, Bool.and_false]
  have hlo : loI L = if L = 0 then 0 else -1 := by
    unfold loI
    by_cases c : L = 0
    · rw [if_neg (by omega), if_pos c]
    · rw [if_pos (by omega), if_neg c]
  have hz : ¬ loI L ≤ wrongZ n ∨ ¬ wrongZ n ≤ ((L : Nat) : Int) := by
    unfold wrongZ
    rw [hlo, hn]
    unfold lenW
    by_cases c : L = 0
    · left
      rw [if_pos c, if_pos c]
      decide
    · right
      rw [if_neg c, if_neg (by omega)]
      omega
  have hn1 : L < n := by
    rw [hn]
    unfold lenW
    split <;> omega
  match i, h with
  | 0, h =>
    cases h
    exact ⟨_, fun K G => .int _, e _ (.inl (by rw [hlo]; split <;> decide))⟩
  | 1, h =>
    cases h
    exact ⟨_, fun K G => .int _, e _ (.inr (by omega))⟩
  | 2, h =>
    cases h
    exact ⟨_, fun K G => .int _, e _ (.inr (by omega))⟩
  | 3, h =>
    cases h
    exact ⟨_, fun K G => .str _, rfl⟩
  | 4, h =>
    cases h
    exact ⟨_, fun K G => .bl _, rfl⟩
  | 5, h =>
    cases h
    exact ⟨_, fun K G => .int _, e _ hz⟩
  | i + 6, h => cases h
structure MeX (P : Program) (w : World) (K : PySem.W.Frag) (mg : Str → Option Value) (base : Heap) (k : Nat) (C : Addr) (x : Str) (ps : List Str) (sp : Sp) (f : Addr) (fd : FuncData) : Prop where
  G : FnOk P w K mg base (L2.CX P w) k f fd ps sp
  m : Meth K C x f
  b : Binds K fd ps []
theorem ok_str {x : Str} (h : PyData.strOk x = true) : OkD (.str x) := ⟨by simp [PyData.canLay0, h], by simp [PyData.depth]⟩
theorem ok_int (x : Int) : OkD (.int x) := ⟨by simp [PyData.canLay0], by simp [PyData.depth]⟩
section
variable {P : Program} {w : World} {K : PySem.W.Frag} {mg : Str → Option Value} {base : Heap} {C : Addr} {f : Addr} {cdv : Value} {A : Around} {outer : List Env} {s : Shared} {H0 : Hp} {E : XK} {rest : List Stmt} {u : TS}
theorem law_16 {CP SP fIP CH SH fIH CM SM fIM g fF c PT : Addr} {fd dF : FuncData} (T : DTxt K C) (R : FX K mg CP SP fIP CH SH fIH CM SM fIM) (FF : Fun K "_law_fault" "_law_fault" sFault g fd) (mF : mg "_law_fault" = some (.ref g)) (TB : LamX.TabB base mg c PT)
    (MF : MeX P w K mg base 4 C "fallen" ["self", "choice"] (spFallenX K C CH) fF dF) (hr : Room 6 (A.deeper (envOfC "law" (defScope sLaw) s.heap.objs.size f (.ref c)))) (hU : PSs (XL P w K mg base f (.ref c) A outer s H0 E) rest u) :
    ∃ t, PSs (XL P w K mg base f (.ref c) A outer s H0 E) (stL 16 :: rest) t ∧ ∀ D H a sc dk SL LL TL N S Ls y5 y6 y7 y8 y9 y10 y11 y12 y13 y14 y15 y18 y21 n WR p, n = (verW S Ls p).length → 0 ≤ p → p < ((N : Nat) : Int) → MI K C H PT dk LL N S Ls → H WR = some (.lst (wrongs n)) →
      (∀ H' z21, MI K C H' PT dk LL N S Ls → u D [some (.ref sc), some (.ref a), some (.ref SL), some (.ref LL), some (.ref TL), y5, y6, y7, y8, y9, y10, y11, y12, y13, y14, y15, some (.int ((n : Nat) : Int)), some (.ref WR), y18, some (.ref dk), some (.int ((N : Nat) : Int)), z21, some (.int p)] H') → t D [some (.ref sc), some (.ref a), some (.ref SL), some (.ref LL), some (.ref TL), y5, y6, y7, y8, y9, y10, y11, y12, y13, y14, y15, some (.int ((n : Nat) : Int)), some (.ref WR), y18, some (.ref dk), some (.int ((N : Nat) : Int)), y21, some (.int p)] H := by
  have nd := scLaw.nd
  have h1 : Room 1 _ := hr.mono (by decide)
  have h2 : Room 2 _ := hr.mono (by decide)
  have h3 : Room 3 _ := hr.mono (by decide)
  have h4 : Room 4 _ := hr.mono (by decide)
  refine ⟨_, (pss_cons (ps_for PassesOwn.never rfl (pi_list (pv 17)) (pg_name (i := 21) nd rfl (.inr rfl)) (pss_one (ps_if (pt_cmpR (op_neD hr.units) (pe_fault R FF mF rfl TB rfl rfl hr (by exact LamX.lamS_by (sc := defScope sLaw) (by decide +kernel)) rfl (fun A outer s H E f c' hr2 => (pe_methX (pv 19) T.cl MF.m MF.G hr2 MF.b (fun σ => L2.passAt (L2.takes_of rfl rfl rfl rfl) σ) (pa_cons (pe_disp (pps_cons (pv 22) (pv 21) pps_nil) (by rfl) (by rfl) (by simp) (by decide)) pa_nil)))) (pe_tup (pa_cons pe_str (pa_cons (pv 22) pa_nil))) (nomark _)) (pss_one (ps_ret pe_bl)) pss_nil))) hU), fun D H a sc dk SL LL TL N S Ls y5 y6 y7 y8 y9 y10 y11 y12 y13 y14 y15 y18 y21 n WR p hn p0 p1 I eW nx => ?_⟩
  have hll : ∀ {H : Hp} {lv : List (Int × V)}, LvD K (Tp H) lv (lwD Ls) → (lateV lv p).length = (lateW Ls p).length := fun h => by
    have := dps_len (late_dp (p := p) h)
    rw [late_w, List.length_map] at this
    exact this
  have hn' := hn
  rw [verW_lenW] at hn'
  have okt : ∀ d ∈ [PyData.str "choice", PyData.int p], OkD d := fun d hd => by
    simp only [List.mem_cons, List.not_mem_nil, or_false] at hd
    rcases hd with rfl | rfl
    · exact ok_str (by decide +kernel)
    · exact ok_int _
  refine ⟨_, rfl, WR, rfl, ⟨_, SqL.of eW⟩, for_list (K := K) (a := WR) (xs := wrongs n) (fun i σ H' => ∃ z21, σ = [some (.ref sc), some (.ref a), some (.ref SL), some (.ref LL), some (.ref TL), y5, y6, y7, y8, y9, y10, y11, y12, y13, y14, y15, some (.int ((n : Nat) : Int)), some (.ref WR), y18, some (.ref dk), some (.int ((N : Nat) : Int)), z21, some (.int p)] ∧ MI K C H' PT dk LL N S Ls ∧ H' WR = some (.lst (wrongs n))) ⟨_, rfl, I, eW⟩ (fun i σ H' _ z => by obtain ⟨_, _, _, z⟩ := z; exact SqL.of z) ?_ ?_⟩
  · rintro i v σ H1 hi ⟨z21, rfl, I1, eW1⟩
    obtain ⟨dt, dv, hw⟩ := wrong_bad hn' hi
    refine ⟨I1.t, fun H2 x2 T2 => ?_⟩
    have I2 := I1.ext x2 T2
    have eW2 := x2 _ _ eW1 (fun ps h => by cases h)
    obtain ⟨sv, lv, DA, DS, DL, hlv⟩ := I2.disk
    obtain ⟨dx, sA, lA, ts, e1, _⟩ := id DA
    refine ⟨_, rfl, dk, dx, _, rfl, e1, fl_no _ _ _ (by decide +kernel) (by decide +kernel) (by decide +kernel), fun ch hch => ⟨_, rfl, _, rfl, upd_same, [(Sum.inl p, v)], rfl, (by simp), ?_⟩⟩
    rw [upd_upd]
    have w3 := same_upd (o := .dK (mergeK [] [((Sum.inl p : Key), v)])) hch
    have ec3 : upd H2 ch (.dK (mergeK [] [((Sum.inl p : Key), v)])) ch = some (.dK [(Sum.inl p, v)]) := upd_same
    have I3 := I2.same w3
    have eW3 := w3 _ _ eW2
    have D3 := DA.same w3
    generalize upd H2 ch (.dK (mergeK [] [((Sum.inl p : Key), v)])) = H3 at w3 ec3 I3 eW3 D3 ⊢
    have hl5 := I.l5
    refine ⟨dk, ch, ((N : Nat) : Int), p, v, dt, sv, lv, rfl, D3, ec3, dv _ _, by omega, .inr ⟨p0, p1, by rw [hll DL]; exact hw⟩, fun H4 dd f4 ed4 => ⟨dd, .int p, rfl, .inl ⟨rfl, ed4, fun q hq => ?_⟩⟩⟩
    have s4 : Same H2 H4 := fun b o z => f4.at (w3 _ _ z) (by simp only [List.mem_cons, List.not_mem_nil, or_false]; exact ne_of_none z hch)
    have w5 := same_upd (o := .tup [V.str "choice", .int p]) hq
    have eq5 : upd H4 q (.tup [V.str "choice", .int p]) q = some (.tup [V.str "choice", .int p]) := upd_same
    have I5 := I2.same (s4.trans w5)
    have eW5 := (s4.trans w5) _ _ eW2
    generalize upd H4 q (.tup [V.str "choice", .int p]) = H5 at w5 eq5 I5 eW5 ⊢
    refine ⟨_, rfl, (by show 2 ≤ sizeLine; decide), fun q2 hq2 => ?_⟩
    have w6 := same_upd (o := .tup [V.str "choice", .int p]) hq2
    have eq6 : upd H5 q2 (.tup [V.str "choice", .int p]) q2 = some (.tup [V.str "choice", .int p]) := upd_same
    have I6 := I5.same w6
    have eW6 := w6 _ _ eW5
    have eq56 := w6 _ _ eq5
    generalize upd H5 q2 (.tup [V.str "choice", .int p]) = H6 at w6 eq6 I6 eW6 eq56 ⊢
    refine ⟨.tuple [.str "choice", .int p], .tuple [.str "choice", .int p], .tup (SqT.of eq56) (.cons (.str _) (.cons (.int _) .nil)), .tup (SqT.of eq6) (.cons (.str _) (.cons (.int _) .nil)), sht_of okt, sht_of okt, _, rfl, ?_⟩
    rw [eqv_tup okt]
    exact iteF ⟨_, rfl, I6, eW6⟩
  · rintro σ H1 ⟨z21, rfl, I1, _⟩
    exact nx H1 z21 I1
end
end Pf

set_option Elab.async false
set_option linter.all false
set_option maxRecDepth 100000
set_option maxHeartbeats 4000000
namespace Pf
open PySem PySem.Spec PyProof.Rows L2
theorem bad_hi (N : Nat) : wholeB (.int ((N : Nat) : Int)) (some 0) (some (((N : Nat) : Int) - 1)) = false := by
  show (decide ((0 : Int) ≤ ((N : Nat) : Int)) && decide (((N : Nat) : Int) ≤ ((N : Nat) : Int) - 1)) = false
  rw [decide_eq_false (show ¬ ((N : Nat) : Int) ≤ ((N : Nat) : Int) - 1 by omega), Bool.and_false]
structure TOS (K : PySem.W.Frag) (C : Addr) (H : Hp) (PT dk LL : Addr) (N : Nat) (S : List Vl) (Ls : Lv) (TD : Addr) (ds : List PyData) : Prop where
  m : MI K C H PT dk LL N S Ls
  t : LsT K H TD ds
  n : TD ≠ LL
  n10 : ds.length ≤ 10
section
variable {K : PySem.W.Frag} {C : Addr} {H H' : Hp} {PT dk LL : Addr} {N : Nat} {S : List Vl} {Ls : Lv} {TD : Addr} {ds : List PyData}
theorem TOS.ext (I : TOS K C H PT dk LL N S Ls TD ds) (z : LamX.ExtN H H') (t : LamX.Tabs (lamT PT) H') : TOS K C H' PT dk LL N S Ls TD ds := ⟨I.m.ext z t, I.t.ext z, I.n, I.n10⟩
theorem TOS.same (I : TOS K C H PT dk LL N S Ls TD ds) (z : Same H H') : TOS K C H' PT dk LL N S Ls TD ds := ⟨I.m.same z, I.t.same z, I.n, I.n10⟩
theorem TOS.push (I : TOS K C H PT dk LL N S Ls TD ds) {us : List V} {v : V} {d : PyData} (e : H TD = some (.lst us)) (dT : DpAll K (Tp H) us ds) (hv : Dp K (Tp H) v d) (h9 : ds.length < 10) : TOS K C (upd H TD (.lst (us ++ [v]))) PT dk LL N S Ls TD (ds ++ [d]) := by
  have f : Fr [TD] H (upd H TD (.lst (us ++ [v]))) := .put (by simp) fun o z => by rw [e] at z; cases z; rfl
  have ndk : dk ≠ TD := fun z => by
    obtain ⟨sv, lv, ⟨dx, a, b, ts, e1, _⟩, _⟩ := I.m.k
    rw [z, e] at e1
    cases e1
  refine ⟨⟨I.m.k.fr f (by simp [ndk]), I.m.l.fr f (by simp [I.n.symm]), fun p hp => ?_, I.m.li, I.m.sn, I.m.n3, I.m.n1, I.m.l5⟩, LsT.push e dT hv, I.n, by rw [List.length_append, List.length_singleton]; omega⟩
  obtain ⟨ps, h1, h2, h3⟩ := I.m.t p hp
  have n1 : p.1 ≠ TD := fun z => by rw [z, e] at h1; cases h1
  refine ⟨ps, f.at h1 (by simp [n1]), h2, fun pos cv hc => ?_⟩
  obtain ⟨c, e1, e2⟩ := h3 pos cv hc
  have n2 : c ≠ TD := fun z => by
    rw [z, e] at e2
    unfold LamX.CodeO at e2
    cases e2
  exact ⟨c, e1, f.at e2 (by simp [n2])⟩
end
section
variable {P : Program} {w : World} {K : PySem.W.Frag} {mg : Str → Option Value} {base : Heap} {C : Addr} {f : Addr} {cdv : Value} {A : Around} {outer : List Env} {s : Shared} {H0 : Hp} {E : XK} {rest : List Stmt} {u : TS}
theorem law_17 {CP SP fIP CH SH fIH CM SM fIM g fF c PT : Addr} {fd dF : FuncData} (T : DTxt K C) (R : FX K mg CP SP fIP CH SH fIH CM SM fIM) (FF : Fun K "_law_fault" "_law_fault" sFault g fd) (mF : mg "_law_fault" = some (.ref g)) (TB : LamX.TabB base mg c PT)
    (MW : MeX P w K mg base 4 C "write" ["self", "plate", "value"] (spWriteX K C CP) fF dF) (hr : Room 6 (A.deeper (envOfC "law" (defScope sLaw) s.heap.objs.size f (.ref c)))) (hU : PSs (XL P w K mg base f (.ref c) A outer s H0 E) rest u) :
    ∃ t, PSs (XL P w K mg base f (.ref c) A outer s H0 E) (stL 17 :: rest) t ∧ ∀ D H a sc dk SL LL TL N S Ls y5 y6 y7 y8 y9 y10 y11 y12 y13 y14 y15 y16 y17 y18 y21 y22, MI K C H PT dk LL N S Ls → (∀ H' TD, TOS K C H' PT dk LL N S Ls TD [.tuple [.str "plate", .int ((N : Nat) : Int)]] → u D [some (.ref sc), some (.ref a), some (.ref SL), some (.ref LL), some (.ref TL), y5, y6, y7, y8, y9, y10, y11, y12, y13, y14, y15, y16, y17, some (.ref TD), some (.ref dk), some (.int ((N : Nat) : Int)), y21, y22] H') → t D [some (.ref sc), some (.ref a), some (.ref SL), some (.ref LL), some (.ref TL), y5, y6, y7, y8, y9, y10, y11, y12, y13, y14, y15, y16, y17, y18, some (.ref dk), some (.int ((N : Nat) : Int)), y21, y22] H := by
  have nd := scLaw.nd
  have h1 : Room 1 _ := hr.mono (by decide)
  have h2 : Room 2 _ := hr.mono (by decide)
  have h3 : Room 3 _ := hr.mono (by decide)
  have h4 : Room 4 _ := hr.mono (by decide)
  refine ⟨_, (pss_cons (ps_set (i := 18) nd rfl (.inl rfl) (pe_lst (pa_cons (pe_fault R FF mF rfl TB rfl rfl hr (by exact LamX.lamS_by (sc := defScope sLaw) (by decide +kernel)) rfl (fun A outer s H E f c' hr2 => (pe_methX (pv 19) T.cl MW.m MW.G hr2 MW.b (fun σ => L2.passAt (L2.takes_of rfl rfl rfl rfl) σ) (pa_cons (pv 20) (pa_cons (pe_tup pa_nil) pa_nil))))) pa_nil))) hU), fun D H a sc dk SL LL TL N S Ls y5 y6 y7 y8 y9 y10 y11 y12 y13 y14 y15 y16 y17 y18 y21 y22 I nx => ?_⟩
  refine ⟨I.t, fun H2 x2 T2 => ?_⟩
  have I2 := I.ext x2 T2
  obtain ⟨sv, lv, DA', DS, DL, hlv⟩ := I2.disk
  obtain ⟨dx, sA, lA, ts, e1, _⟩ := id DA'
  have hl5 := I2.l5
  refine ⟨_, rfl, dk, dx, _, rfl, e1, fl_no _ _ _ (by decide +kernel) (by decide +kernel) (by decide +kernel), _, rfl, Nat.zero_le _, fun e he => ?_⟩
  have w3 := same_upd (o := .tup []) he
  have ee3 : upd H2 e (.tup []) e = some (.tup []) := upd_same
  have D3 := DA'.same w3
  generalize upd H2 e (.tup []) = H3 at w3 ee3 D3 ⊢
  refine ⟨dk, ((N : Nat) : Int), .int ((N : Nat) : Int), .ref e, .int ((N : Nat) : Int), sv, lv, rfl, D3, .int _, bad_hi N, fun H4 dd s4' ed4 => ⟨dd, _, rfl, .inr (.inl ⟨rfl, ed4, fun q hq => ?_⟩)⟩⟩
  have s4 : Same H2 H4 := w3.trans s4'
  have w5 := same_upd (o := .tup [V.str "plate", .int ((N : Nat) : Int)]) hq
  have eq5 : upd H4 q (.tup [V.str "plate", .int ((N : Nat) : Int)]) q = some (.tup [V.str "plate", .int ((N : Nat) : Int)]) := upd_same
  have I5 := I2.same (s4.trans w5)
  generalize upd H4 q (.tup [V.str "plate", .int ((N : Nat) : Int)]) = H5 at w5 eq5 I5 ⊢
  refine ⟨by show 1 ≤ sizeLine; decide, fun TD hTD => ?_⟩
  have w6 := same_upd (o := .lst [.ref q]) hTD
  have n6 : TD ≠ LL := fun z => by
    obtain ⟨us, e, _⟩ := I5.l
    rw [z, e] at hTD; cases hTD
  exact nx _ TD ⟨I5.same w6, ⟨[.ref q], upd_same, .cons (.tup (SqT.of (tp_at (w6 _ _ eq5) rfl)) (.cons (.str _) (.cons (.int _) .nil))) .nil⟩, n6, by simp⟩
theorem law_18 {CP SP fIP CH SH fIH CM SM fIM g fF c PT : Addr} {fd dF : FuncData} (T : DTxt K C) (R : FX K mg CP SP fIP CH SH fIH CM SM fIM) (FF : Fun K "_law_fault" "_law_fault" sFault g fd) (mF : mg "_law_fault" = some (.ref g)) (TB : LamX.TabB base mg c PT)
    (MN : MeX P w K mg base 4 C "now" ["self", "plate"] (spNowX K C CP) fF dF) (hr : Room 6 (A.deeper (envOfC "law" (defScope sLaw) s.heap.objs.size f (.ref c)))) (hU : PSs (XL P w K mg base f (.ref c) A outer s H0 E) rest u) :
    ∃ t, PSs (XL P w K mg base f (.ref c) A outer s H0 E) (stL 18 :: rest) t ∧ ∀ D H a sc dk SL LL TL N S Ls y5 y6 y7 y8 y9 y10 y11 y12 y13 y14 y15 y16 y17 y21 y22 TD ds, TOS K C H PT dk LL N S Ls TD ds → ds.length < 10 → (∀ H', TOS K C H' PT dk LL N S Ls TD (ds ++ [.tuple [.str "plate", .int (-1)]]) → u D [some (.ref sc), some (.ref a), some (.ref SL), some (.ref LL), some (.ref TL), y5, y6, y7, y8, y9, y10, y11, y12, y13, y14, y15, y16, y17, some (.ref TD), some (.ref dk), some (.int ((N : Nat) : Int)), y21, y22] H') → t D [some (.ref sc), some (.ref a), some (.ref SL), some (.ref LL), some (.ref TL), y5, y6, y7, y8, y9, y10, y11, y12, y13, y14, y15, y16, y17, some (.ref TD), some (.ref dk), some (.int ((N : Nat) : Int)), y21, y22] H := by
  have nd := scLaw.nd
  have h1 : Room 1 _ := hr.mono (by decide)
  have h2 : Room 2 _ := hr.mono (by decide)
  have h3 : Room 3 _ := hr.mono (by decide)
  have h4 : Room 4 _ := hr.mono (by decide)
  refine ⟨_, (pss_cons (ps_expr (pe_bm PySem.F.plainAttrs_list PySem.F.slot_list_append PySem.F.type_list_append mt_append (pv 18) (pa_cons (pe_fault R FF mF rfl TB rfl rfl hr (by exact LamX.lamS_by (sc := defScope sLaw) (by decide +kernel)) rfl (fun A outer s H E f c' hr2 => (pe_methX (pv 19) T.cl MN.m MN.G hr2 MN.b (fun σ => L2.passAt (L2.takes_of rfl rfl rfl rfl) σ) (pa_cons (pe_un un_neg pe_int) pa_nil)))) pa_nil))) hU), fun D H a sc dk SL LL TL N S Ls y5 y6 y7 y8 y9 y10 y11 y12 y13 y14 y15 y16 y17 y21 y22 TD ds I hd9 nx => ?_⟩
  obtain ⟨us0, eT0, dT0⟩ := id I.t
  refine ⟨_, rfl, .inl ⟨rfl, _, SqL.of eT0⟩, I.m.t, fun H2 x2 T2 => ?_⟩
  have I2 := I.ext x2 T2
  obtain ⟨sv, lv, DA', DS, DL, hlv⟩ := I2.m.disk
  obtain ⟨dx, sA, lA, ts, e1, _⟩ := id DA'
  have hl5 := I2.m.l5
  refine ⟨_, rfl, dk, dx, _, rfl, e1, fl_no _ _ _ (by decide +kernel) (by decide +kernel) (by decide +kernel), 1, rfl, dk, ((N : Nat) : Int), .int (-1), .int (-1), sv, lv, rfl, DA', .int _, rfl, fun H4 dd s4 ed4 => ⟨dd, _, rfl, .inr (.inl ⟨rfl, ed4, fun q hq => ?_⟩)⟩⟩
  have w5 := same_upd (o := .tup [V.str "plate", .int (-1)]) hq
  have eq5 : upd H4 q (.tup [V.str "plate", .int (-1)]) q = some (.tup [V.str "plate", .int (-1)]) := upd_same
  have I5 := I2.same (s4.trans w5)
  generalize upd H4 q (.tup [V.str "plate", .int (-1)]) = H5 at w5 eq5 I5 ⊢
  obtain ⟨us, eT, dT⟩ := id I5.t
  have hll := dps_len dT
  have h10 := I5.n10
  refine ⟨TD, us, .ref q, rfl, rfl, eT, by rw [sizeLine_eq]; omega, ?_⟩
  exact nx _ (I5.push eT dT (.tup (SqT.of (tp_at eq5 rfl)) (.cons (.str _) (.cons (.int _) .nil))) hd9)
theorem law_19 {CP SP fIP CH SH fIH CM SM fIM g fF c PT : Addr} {fd dF : FuncData} (T : DTxt K C) (R : FX K mg CP SP fIP CH SH fIH CM SM fIM) (FF : Fun K "_law_fault" "_law_fault" sFault g fd) (mF : mg "_law_fault" = some (.ref g)) (TB : LamX.TabB base mg c PT)
    (MV : MeX P w K mg base 4 C "versions" ["self", "plate"] (spVersX K C CP) fF dF) (hr : Room 6 (A.deeper (envOfC "law" (defScope sLaw) s.heap.objs.size f (.ref c)))) (hU : PSs (XL P w K mg base f (.ref c) A outer s H0 E) rest u) :
    ∃ t, PSs (XL P w K mg base f (.ref c) A outer s H0 E) (stL 19 :: rest) t ∧ ∀ D H a sc dk SL LL TL N S Ls y5 y6 y7 y8 y9 y10 y11 y12 y13 y14 y15 y16 y17 y21 y22 TD ds, TOS K C H PT dk LL N S Ls TD ds → ds.length < 10 → (∀ H', TOS K C H' PT dk LL N S Ls TD (ds ++ [.tuple [.str "plate", .str "0"]]) → u D [some (.ref sc), some (.ref a), some (.ref SL), some (.ref LL), some (.ref TL), y5, y6, y7, y8, y9, y10, y11, y12, y13, y14, y15, y16, y17, some (.ref TD), some (.ref dk), some (.int ((N : Nat) : Int)), y21, y22] H') → t D [some (.ref sc), some (.ref a), some (.ref SL), some (.ref LL), some (.ref TL), y5, y6, y7, y8, y9, y10, y11, y12, y13, y14, y15, y16, y17, some (.ref TD), some (.ref dk), some (.int ((N : Nat) : Int)), y21, y22] H := by
  have nd := scLaw.nd
  have h1 : Room 1 _ := hr.mono (by decide)
  have h2 : Room 2 _ := hr.mono (by decide)
  have h3 : Room 3 _ := hr.mono (by decide)
  have h4 : Room 4 _ := hr.mono (by decide)
  refine ⟨_, (pss_cons (ps_expr (pe_bm PySem.F.plainAttrs_list PySem.F.slot_list_append PySem.F.type_list_append mt_append (pv 18) (pa_cons (pe_fault R FF mF rfl TB rfl rfl hr (by exact LamX.lamS_by (sc := defScope sLaw) (by decide +kernel)) rfl (fun A outer s H E f c' hr2 => (pe_methX (pv 19) T.cl MV.m MV.G hr2 MV.b (fun σ => L2.passAt (L2.takes_of rfl rfl rfl rfl) σ) (pa_cons pe_str pa_nil)))) pa_nil))) hU), fun D H a sc dk SL LL TL N S Ls y5 y6 y7 y8 y9 y10 y11 y12 y13 y14 y15 y16 y17 y21 y22 TD ds I hd9 nx => ?_⟩
  obtain ⟨us0, eT0, dT0⟩ := id I.t
  refine ⟨_, rfl, .inl ⟨rfl, _, SqL.of eT0⟩, I.m.t, fun H2 x2 T2 => ?_⟩
  have I2 := I.ext x2 T2
  obtain ⟨sv, lv, DA', DS, DL, hlv⟩ := I2.m.disk
  obtain ⟨dx, sA, lA, ts, e1, _⟩ := id DA'
  have hl5 := I2.m.l5
  refine ⟨_, rfl, dk, dx, _, rfl, e1, fl_no _ _ _ (by decide +kernel) (by decide +kernel) (by decide +kernel), dk, ((N : Nat) : Int), .str "0", .str "0", sv, lv, rfl, DA', .str _, rfl, fun H4 dd s4 ed4 => ⟨dd, _, rfl, .inr (.inl ⟨rfl, ed4, fun q hq => ?_⟩)⟩⟩
  have w5 := same_upd (o := .tup [V.str "plate", .str "0"]) hq
  have eq5 : upd H4 q (.tup [V.str "plate", .str "0"]) q = some (.tup [V.str "plate", .str "0"]) := upd_same
  have I5 := I2.same (s4.trans w5)
  generalize upd H4 q (.tup [V.str "plate", .str "0"]) = H5 at w5 eq5 I5 ⊢
  obtain ⟨us, eT, dT⟩ := id I5.t
  have hll := dps_len dT
  have h10 := I5.n10
  refine ⟨TD, us, .ref q, rfl, rfl, eT, by rw [sizeLine_eq]; omega, ?_⟩
  exact nx _ (I5.push eT dT (.tup (SqT.of (tp_at eq5 rfl)) (.cons (.str _) (.cons (.str _) .nil))) hd9)
theorem law_20 {CP SP fIP CH SH fIH CM SM fIM g fF c PT : Addr} {fd dF : FuncData} (T : DTxt K C) (R : FX K mg CP SP fIP CH SH fIH CM SM fIM) (FF : Fun K "_law_fault" "_law_fault" sFault g fd) (mF : mg "_law_fault" = some (.ref g)) (TB : LamX.TabB base mg c PT)
    (DA : Df P w K mg base (L2.CX P w) 4 "disk_after" ["disk", "trace", "moment"] (spDaX K CM) fF dF) (hr : Room 6 (A.deeper (envOfC "law" (defScope sLaw) s.heap.objs.size f (.ref c)))) (hU : PSs (XL P w K mg base f (.ref c) A outer s H0 E) rest u) :
    ∃ t, PSs (XL P w K mg base f (.ref c) A outer s H0 E) (stL 20 :: rest) t ∧ ∀ D H a sc dk SL LL TL N S Ls y5 y6 y7 y8 y9 y10 y11 y12 y13 y14 y15 y16 y17 y21 y22 TD ds, TOS K C H PT dk LL N S Ls TD ds → ds.length < 10 → (∀ H', TOS K C H' PT dk LL N S Ls TD (ds ++ [.tuple [.str "moment", .int 1]]) → u D [some (.ref sc), some (.ref a), some (.ref SL), some (.ref LL), some (.ref TL), y5, y6, y7, y8, y9, y10, y11, y12, y13, y14, y15, y16, y17, some (.ref TD), some (.ref dk), some (.int ((N : Nat) : Int)), y21, y22] H') → t D [some (.ref sc), some (.ref a), some (.ref SL), some (.ref LL), some (.ref TL), y5, y6, y7, y8, y9, y10, y11, y12, y13, y14, y15, y16, y17, some (.ref TD), some (.ref dk), some (.int ((N : Nat) : Int)), y21, y22] H := by
  have nd := scLaw.nd
  have h1 : Room 1 _ := hr.mono (by decide)
  have h2 : Room 2 _ := hr.mono (by decide)
  have h3 : Room 3 _ := hr.mono (by decide)
  have h4 : Room 4 _ := hr.mono (by decide)
  refine ⟨_, (pss_cons (ps_expr (pe_bm PySem.F.plainAttrs_list PySem.F.slot_list_append PySem.F.type_list_append mt_append (pv 18) (pa_cons (pe_fault R FF mF rfl TB rfl rfl hr (by exact LamX.lamS_by (sc := defScope sLaw) (by decide +kernel)) rfl (fun A outer s H E f c' hr2 => (pe_callS DA.G hr2 rfl DA.g DA.kp DA.b (fun σ => L2.passAt (L2.takes_of rfl rfl rfl rfl) σ) (pa_cons (pv 19) (pa_cons (pe_tup pa_nil) (pa_cons pe_int pa_nil)))))) pa_nil))) hU), fun D H a sc dk SL LL TL N S Ls y5 y6 y7 y8 y9 y10 y11 y12 y13 y14 y15 y16 y17 y21 y22 TD ds I hd9 nx => ?_⟩
  obtain ⟨us0, eT0, dT0⟩ := id I.t
  refine ⟨_, rfl, .inl ⟨rfl, _, SqL.of eT0⟩, I.m.t, fun H2 x2 T2 => ?_⟩
  have I2 := I.ext x2 T2
  obtain ⟨sv, lv, DA', DS, DL, hlv⟩ := I2.m.disk
  obtain ⟨dx, sA, lA, ts, e1, _⟩ := id DA'
  have hl5 := I2.m.l5
  refine ⟨_, rfl, Nat.zero_le _, fun e he => ?_⟩
  have w3 := same_upd (o := .tup []) he
  have ee3 : upd H2 e (.tup []) e = some (.tup []) := upd_same
  have D3 := DA'.same w3
  generalize upd H2 e (.tup []) = H3 at w3 ee3 D3 ⊢
  refine ⟨dk, e, .int 1, .int 1, [], rfl, SqT.of ee3, .int _, rfl, fun H4 dd s4' ed4 => ⟨dd, _, rfl, .inr (.inr ⟨rfl, ed4, fun q hq => ?_⟩)⟩⟩
  have s4 : Same H2 H4 := w3.trans s4'
  have w5 := same_upd (o := .tup [V.str "moment", .int 1]) hq
  have eq5 : upd H4 q (.tup [V.str "moment", .int 1]) q = some (.tup [V.str "moment", .int 1]) := upd_same
  have I5 := I2.same (s4.trans w5)
  generalize upd H4 q (.tup [V.str "moment", .int 1]) = H5 at w5 eq5 I5 ⊢
  obtain ⟨us, eT, dT⟩ := id I5.t
  have hll := dps_len dT
  have h10 := I5.n10
  refine ⟨TD, us, .ref q, rfl, rfl, eT, by rw [sizeLine_eq]; omega, ?_⟩
  exact nx _ (I5.push eT dT (.tup (SqT.of (tp_at eq5 rfl)) (.cons (.str _) (.cons (.int _) .nil))) hd9)
theorem law_21 {CP SP fIP CH SH fIH CM SM fIM g fF c PT : Addr} {fd dF : FuncData} (T : DTxt K C) (R : FX K mg CP SP fIP CH SH fIH CM SM fIM) (FF : Fun K "_law_fault" "_law_fault" sFault g fd) (mF : mg "_law_fault" = some (.ref g)) (TB : LamX.TabB base mg c PT)
    (MF : MeX P w K mg base 4 C "fallen" ["self", "choice"] (spFallenX K C CH) fF dF) (hr : Room 6 (A.deeper (envOfC "law" (defScope sLaw) s.heap.objs.size f (.ref c)))) (hU : PSs (XL P w K mg base f (.ref c) A outer s H0 E) rest u) :
    ∃ t, PSs (XL P w K mg base f (.ref c) A outer s H0 E) (stL 21 :: rest) t ∧ ∀ D H a sc dk SL LL TL N S Ls y5 y6 y7 y8 y9 y10 y11 y12 y13 y14 y15 y16 y17 y21 y22 TD ds, TOS K C H PT dk LL N S Ls TD ds → ds.length < 10 → (∀ H', TOS K C H' PT dk LL N S Ls TD (ds ++ [.tuple [.str "choice", .int ((N : Nat) : Int)]]) → u D [some (.ref sc), some (.ref a), some (.ref SL), some (.ref LL), some (.ref TL), y5, y6, y7, y8, y9, y10, y11, y12, y13, y14, y15, y16, y17, some (.ref TD), some (.ref dk), some (.int ((N : Nat) : Int)), y21, y22] H') → t D [some (.ref sc), some (.ref a), some (.ref SL), some (.ref LL), some (.ref TL), y5, y6, y7, y8, y9, y10, y11, y12, y13, y14, y15, y16, y17, some (.ref TD), some (.ref dk), some (.int ((N : Nat) : Int)), y21, y22] H := by
  have nd := scLaw.nd
  have h1 : Room 1 _ := hr.mono (by decide)
  have h2 : Room 2 _ := hr.mono (by decide)
  have h3 : Room 3 _ := hr.mono (by decide)
  have h4 : Room 4 _ := hr.mono (by decide)
  refine ⟨_, (pss_cons (ps_expr (pe_bm PySem.F.plainAttrs_list PySem.F.slot_list_append PySem.F.type_list_append mt_append (pv 18) (pa_cons (pe_fault R FF mF rfl TB rfl rfl hr (by exact LamX.lamS_by (sc := defScope sLaw) (by decide +kernel)) rfl (fun A outer s H E f c' hr2 => (pe_methX (pv 19) T.cl MF.m MF.G hr2 MF.b (fun σ => L2.passAt (L2.takes_of rfl rfl rfl rfl) σ) (pa_cons (pe_disp (pps_cons (pv 20) pe_int pps_nil) (by rfl) (by rfl) (by simp) (by decide)) pa_nil)))) pa_nil))) hU), fun D H a sc dk SL LL TL N S Ls y5 y6 y7 y8 y9 y10 y11 y12 y13 y14 y15 y16 y17 y21 y22 TD ds I hd9 nx => ?_⟩
  obtain ⟨us0, eT0, dT0⟩ := id I.t
  refine ⟨_, rfl, .inl ⟨rfl, _, SqL.of eT0⟩, I.m.t, fun H2 x2 T2 => ?_⟩
  have I2 := I.ext x2 T2
  obtain ⟨sv, lv, DA', DS, DL, hlv⟩ := I2.m.disk
  obtain ⟨dx, sA, lA, ts, e1, _⟩ := id DA'
  have hl5 := I2.m.l5
  refine ⟨_, rfl, dk, dx, _, rfl, e1, fl_no _ _ _ (by decide +kernel) (by decide +kernel) (by decide +kernel), fun ch hch => ⟨_, rfl, upd_same, [(Sum.inl ((N : Nat) : Int), .int 0)], rfl, (by simp), ?_⟩⟩
  rw [upd_upd]
  have w3 := same_upd (o := .dK (mergeK [] [((Sum.inl ((N : Nat) : Int) : Key), V.int 0)])) hch
  have ec3 : upd H2 ch (.dK (mergeK [] [((Sum.inl ((N : Nat) : Int) : Key), V.int 0)])) ch = some (.dK [(Sum.inl ((N : Nat) : Int), .int 0)]) := upd_same
  have D3 := DA'.same w3
  generalize upd H2 ch (.dK (mergeK [] [((Sum.inl ((N : Nat) : Int) : Key), V.int 0)])) = H3 at w3 ec3 D3 ⊢
  refine ⟨dk, ch, ((N : Nat) : Int), ((N : Nat) : Int), .int 0, .int 0, sv, lv, rfl, D3, ec3, .int _, by omega, .inl (bad_hi N), fun H4 dd f4 ed4 => ⟨dd, _, rfl, .inl ⟨rfl, ed4, fun q hq => ?_⟩⟩⟩
  have s4 : Same H2 H4 := fun b o z => f4.at (w3 _ _ z) (by simp only [List.mem_cons, List.not_mem_nil, or_false]; exact ne_of_none z hch)
  have w5 := same_upd (o := .tup [V.str "choice", .int ((N : Nat) : Int)]) hq
  have eq5 : upd H4 q (.tup [V.str "choice", .int ((N : Nat) : Int)]) q = some (.tup [V.str "choice", .int ((N : Nat) : Int)]) := upd_same
  have I5 := I2.same (s4.trans w5)
  generalize upd H4 q (.tup [V.str "choice", .int ((N : Nat) : Int)]) = H5 at w5 eq5 I5 ⊢
  obtain ⟨us, eT, dT⟩ := id I5.t
  have hll := dps_len dT
  have h10 := I5.n10
  refine ⟨TD, us, .ref q, rfl, rfl, eT, by rw [sizeLine_eq]; omega, ?_⟩
  exact nx _ (I5.push eT dT (.tup (SqT.of (tp_at eq5 rfl)) (.cons (.str _) (.cons (.int _) .nil))) hd9)
end
end Pf

set_option Elab.async false
set_option linter.all false
set_option maxRecDepth 100000
set_option maxHeartbeats 4000000
namespace Pf
open PySem PySem.Spec PyProof.Rows L2
def told5 (N : Nat) : List PyData := [.tuple [.str "plate", .int ((N : Nat) : Int)], .tuple [.str "plate", .int (-1)], .tuple [.str "plate", .str "0"], .tuple [.str "moment", .int 1], .tuple [.str "choice", .int ((N : Nat) : Int)]]
theorem ok_two {a b : PyData} (ha : OkD a) (hb : OkD b) (h2 : a.depth ≤ 2) (h3 : b.depth ≤ 2) : OkD (.tuple [a, b]) := by
  refine ⟨?_, ?_⟩
  · show PyData.canLay0 (.tuple [a, b]) = true
    simp only [PyData.canLay0, PyData.canLayAll0, ha.1, hb.1]
    rfl
  · show PyData.depth (.tuple [a, b]) ≤ 8
    simp only [PyData.depth, PyData.depthAll]
    omega
theorem ok_told (N : Nat) : ∀ d ∈ told5 N, OkD d := fun d hd => by
  have st : ∀ {x : Str}, PyData.strOk x = true → OkD (.str x) := fun h => ok_str h
  have dS : ∀ x : Str, (PyData.str x).depth ≤ 2 := fun x => by simp [PyData.depth]
  have dI : ∀ x : Int, (PyData.int x).depth ≤ 2 := fun x => by simp [PyData.depth]
  unfold told5 at hd
  simp only [List.mem_cons, List.not_mem_nil, or_false] at hd
  rcases hd with rfl | rfl | rfl | rfl | rfl
  · exact ok_two (st (by decide +kernel)) (ok_int _) (dS _) (dI _)
  · exact ok_two (st (by decide +kernel)) (ok_int _) (dS _) (dI _)
  · exact ok_two (st (by decide +kernel)) (st (by decide +kernel)) (dS _) (dS _)
  · exact ok_two (st (by decide +kernel)) (ok_int _) (dS _) (dI _)
  · exact ok_two (st (by decide +kernel)) (ok_int _) (dS _) (dI _)
section
variable {P : Program} {w : World} {K : PySem.W.Frag} {mg : Str → Option Value} {base : Heap} {C : Addr} {f c : Addr} {A : Around} {outer : List Env} {s : Shared} {H0 : Hp} {E : XK}
theorem law_22_23 (T : DTxt K C) (mt : mg "tuple" = none) (hr : Room 6 (A.deeper (envOfC "law" (defScope sLaw) s.heap.objs.size f (.ref c)))) :
    ∃ t, PSs (XL P w K mg base f (.ref c) A outer s H0 E) [stL 22, stL 23] t ∧ ∀ D H PT a sc dk SL LL TL N S Ls y5 y6 y7 y8 y9 y10 y11 y12 y13 y14 y15 y16 y17 y21 y22 TD, TOS K C H PT dk LL N S Ls TD (told5 N) → (∀ H', D.rt (.bl true) H') → t D [some (.ref sc), some (.ref a), some (.ref SL), some (.ref LL), some (.ref TL), y5, y6, y7, y8, y9, y10, y11, y12, y13, y14, y15, y16, y17, some (.ref TD), some (.ref dk), some (.int ((N : Nat) : Int)), y21, y22] H := by
  have nd := scLaw.nd
  have h1 : Room 1 _ := hr.mono (by decide)
  have h2 : Room 2 _ := hr.mono (by decide)
  have h3 : Room 3 _ := hr.mono (by decide)
  have h4 : Room 4 _ := hr.mono (by decide)
  refine ⟨_, (pss_cons (ps_set (i := 9) nd rfl (.inl rfl) (pe_lst (pa_cons (pe_tup (pa_cons pe_str (pa_cons (pv 20) pa_nil))) (pa_cons (pe_tup (pa_cons pe_str (pa_cons (pe_un un_neg pe_int) pa_nil))) (pa_cons (pe_tup (pa_cons pe_str (pa_cons pe_str pa_nil))) (pa_cons (pe_tup (pa_cons pe_str (pa_cons pe_int pa_nil))) (pa_cons (pe_tup (pa_cons pe_str (pa_cons (pv 20) pa_nil))) pa_nil))))))) (pss_one (ps_ret (pe_and (pe_cmpR (op_eqD hr.units) (pv 18) (pv 9) (nomark _)) (pe_one (pe_cmpR (op_eqD hr.units) (pe_fld (pv 19) rfl) (pe_callTy call_tuple_of (by rfl) mt boot_tuple (pa_cons (pv 3) pa_nil)) (nomark _))))))), fun D H PT a sc dk SL LL TL N S Ls y5 y6 y7 y8 y9 y10 y11 y12 y13 y14 y15 y16 y17 y21 y22 TD I q => ?_⟩
  refine ⟨_, rfl, (by show 2 ≤ sizeLine; decide), fun t17 ht17 => ?_⟩
  have w17 := same_upd (o := .tup [V.str "plate", .int ((N : Nat) : Int)]) ht17
  have et17 : upd H t17 (.tup [V.str "plate", .int ((N : Nat) : Int)]) t17 = some (.tup [V.str "plate", .int ((N : Nat) : Int)]) := upd_same
  have I17 := I.same w17
  generalize upd H t17 (.tup [V.str "plate", .int ((N : Nat) : Int)]) = H17 at w17 et17 I17 ⊢
  refine ⟨1, rfl, (by show 2 ≤ sizeLine; decide), fun t18 ht18 => ?_⟩
  have w18 := same_upd (o := .tup [V.str "plate", .int (-1)]) ht18
  have et18 : upd H17 t18 (.tup [V.str "plate", .int (-1)]) t18 = some (.tup [V.str "plate", .int (-1)]) := upd_same
  have I18 := I17.same w18
  have et17 := w18 _ _ et17
  generalize upd H17 t18 (.tup [V.str "plate", .int (-1)]) = H18 at w18 et18 I18 et17 ⊢
  refine ⟨(by show 2 ≤ sizeLine; decide), fun t19 ht19 => ?_⟩
  have w19 := same_upd (o := .tup [V.str "plate", .str "0"]) ht19
  have et19 : upd H18 t19 (.tup [V.str "plate", .str "0"]) t19 = some (.tup [V.str "plate", .str "0"]) := upd_same
  have I19 := I18.same w19
  have et17 := w19 _ _ et17
  have et18 := w19 _ _ et18
  generalize upd H18 t19 (.tup [V.str "plate", .str "0"]) = H19 at w19 et19 I19 et17 et18 ⊢
  refine ⟨(by show 2 ≤ sizeLine; decide), fun t20 ht20 => ?_⟩
  have w20 := same_upd (o := .tup [V.str "moment", .int 1]) ht20
  have et20 : upd H19 t20 (.tup [V.str "moment", .int 1]) t20 = some (.tup [V.str "moment", .int 1]) := upd_same
  have I20 := I19.same w20
  have et17 := w20 _ _ et17
  have et18 := w20 _ _ et18
  have et19 := w20 _ _ et19
  generalize upd H19 t20 (.tup [V.str "moment", .int 1]) = H20 at w20 et20 I20 et17 et18 et19 ⊢
  refine ⟨_, rfl, (by show 2 ≤ sizeLine; decide), fun t21 ht21 => ?_⟩
  have w21 := same_upd (o := .tup [V.str "choice", .int ((N : Nat) : Int)]) ht21
  have et21 : upd H20 t21 (.tup [V.str "choice", .int ((N : Nat) : Int)]) t21 = some (.tup [V.str "choice", .int ((N : Nat) : Int)]) := upd_same
  have I21 := I20.same w21
  have et17 := w21 _ _ et17
  have et18 := w21 _ _ et18
  have et19 := w21 _ _ et19
  have et20 := w21 _ _ et20
  generalize upd H20 t21 (.tup [V.str "choice", .int ((N : Nat) : Int)]) = H21 at w21 et21 I21 et17 et18 et19 et20 ⊢
  refine ⟨by show 5 ≤ sizeLine; decide, fun DU hDU => ?_⟩
  have wD := same_upd (o := .lst [V.ref t17, V.ref t18, V.ref t19, V.ref t20, V.ref t21]) hDU
  have LD : LsT K (upd H21 DU (.lst [V.ref t17, V.ref t18, V.ref t19, V.ref t20, V.ref t21])) DU (told5 N) := ⟨_, upd_same, dps_same (tp_same wD) _ _ (.cons (.tup (SqT.of (tp_at et17 rfl)) (.cons (.str _) (.cons (.int _) .nil))) (.cons (.tup (SqT.of (tp_at et18 rfl)) (.cons (.str _) (.cons (.int _) .nil))) (.cons (.tup (SqT.of (tp_at et19 rfl)) (.cons (.str _) (.cons (.str _) .nil))) (.cons (.tup (SqT.of (tp_at et20 rfl)) (.cons (.str _) (.cons (.int _) .nil))) (.cons (.tup (SqT.of (tp_at et21 rfl)) (.cons (.str _) (.cons (.int _) .nil))) .nil)))))⟩
  have ID := I21.same wD
  generalize upd H21 DU (.lst [V.ref t17, V.ref t18, V.ref t19, V.ref t20, V.ref t21]) = HD at wD LD ID ⊢
  obtain ⟨us1, eA, dA⟩ := id ID.t
  obtain ⟨us2, eB, dB⟩ := id LD
  refine ⟨_, rfl, _, rfl, .list (told5 N), .list (told5 N), .lst (SqL.of eA) (dps_same tp_le _ _ dA), .lst (SqL.of eB) (dps_same tp_le _ _ dB), shl_of (ok_told N), shl_of (ok_told N), _, rfl, ?_⟩
  rw [eqv_list (ok_told N)]
  obtain ⟨dx, s1, l1, sv1, ts1, e1, f1, g1, p1, r1⟩ := ID.m.k.fields
  obtain ⟨lus, eL, dL⟩ := id ID.m.l
  refine iteT ⟨_, rfl, dk, C, dx, _, _, rfl, e1, T.cl, T.nL, fl_loose _ _ _, _, rfl, LL, lus, rfl, .inl ⟨SqL.of eL, fun tA htA => ?_⟩⟩
  have wA := same_upd (o := .tup lus) htA
  have etA : upd HD tA (.tup lus) tA = some (.tup lus) := upd_same
  generalize upd HD tA (.tup lus) = HA at wA etA ⊢
  have okp := ok_map ok_p Ls
  refine ⟨.tuple _, .tuple _, .tup (SqT.of (wA _ _ g1)) (dps_same tp_le _ _ (dps_same (tp_same wA) _ _ r1)), .tup (SqT.of etA) (dps_same tp_le _ _ (dps_same (tp_same wA) _ _ dL)), sht_of okp, sht_of okp, ?_⟩
  rw [eqv_tup okp]
  exact q HA
end
end Pf

set_option Elab.async false
set_option linter.all false
set_option maxRecDepth 100000
set_option maxHeartbeats 4000000
namespace Pf
open PySem PySem.Spec PyProof.Rows L2
/-! ### the law joined -/
def spLaw (K : PySem.W.Frag) (PT : Addr) : Sp := fun vs H Q _ => ∃ (sc : Addr) (ss : List Int), vs = [.ref sc] ∧ SqL K H sc (ss.map V.int) ∧ ss.length ≤ 63 ∧ H PT = some (.tbl #[]) ∧ ∀ H', Q (.bl true) H'
section
variable {P : Program} {w : World} {K : PySem.W.Frag} {mg : Str → Option Value} {base : Heap} {C : Addr}
theorem ok_law {f c PT : Addr} {oc : Value} {od : Option Addr} {kV doc pm ct : Value} {an : Option Addr} {osl : Array (Option Value)} (lk : K.lookup f = some ⟨oc, od, .func (PySem.W.fnOf "law" "law" (defArgs sLaw) (defBody sLaw) (defScope sLaw) .none kV doc pm an (.ref c) ct), osl⟩) (hcd : PySem.W.codeIn K (.ref c) "law" = true)
    {CP SP fIP CH SH fIH CM SM fIM g fW fN fV fA fF fT fK fI fB fX fY fG fC fD fE fL : Addr} {fd dW dN dV dA dF dT dK dI dB dX dY dG dC dD dE dL : FuncData} (T : DTxt K C) (R : FX K mg CP SP fIP CH SH fIH CM SM fIM) (FF : Fun K "_law_fault" "_law_fault" sFault g fd) (mF : mg "_law_fault" = some (.ref g)) (TB : LamX.TabB base mg c PT)
    (XW : MeX P w K mg base 4 C "write" ["self", "plate", "value"] (spWriteX K C CP) fW dW) (XN : MeX P w K mg base 4 C "now" ["self", "plate"] (spNowX K C CP) fN dN) (XV : MeX P w K mg base 4 C "versions" ["self", "plate"] (spVersX K C CP) fV dV) (XA : Df P w K mg base (L2.CX P w) 4 "disk_after" ["disk", "trace", "moment"] (spDaX K CM) fA dA) (XF : MeX P w K mg base 4 C "fallen" ["self", "choice"] (spFallenX K C CH) fF dF)
    (DT : Df P w K mg base CX0 2 "_law_take" ["draw", "many"] (spTake K) fT dT) (DK : Df P w K mg base CX0 3 "_law_pick" ["draw", "items"] (spPick K) fK dK) (MI : Mk K C fI) (GI : FnOk P w K mg base CX0 1 fI dI ["self", "many"] (spInit C)) (mgC : mg "Disk" = some (.ref C)) (bI : Binds K dI ["self", "many"] [])
    (MB : Me P w K mg base 1 C "barrier" ["self"] (spBar C) fB dB) (MW : Me P w K mg base 3 C "write" ["self", "plate", "value"] (spWrite C) fX dX) (MV : Me P w K mg base 3 C "versions" ["self", "plate"] (spVers C) fY dY) (MN : Me P w K mg base 3 C "now" ["self", "plate"] (spNow C) fG dG) (MC : Me P w K mg base 4 C "count_falls" ["self"] (spCf K C) fC dC)
    (MF : Me P w K mg base 4 C "fallen" ["self", "choice"] (spFallen C) fD dD) (DA : Df P w K mg base CX0 4 "disk_after" ["disk", "trace", "moment"] (spDaL K C) fE dE) (DL : Df P w K mg base CX0 1 "_law_falls" ["settled", "loose", "many"] (spLfl K) fL dL)
    (mt : mg "tuple" = none) (mr : mg "range" = none) (mln : mg "len" = none) (mL : mg "list" = none) (mse : mg "set" = none) (mO : mg "TORN" = some .none) : FnOk P w K mg base CX0 7 f (PySem.W.fnOf "law" "law" (defArgs sLaw) (defBody sLaw) (defScope sLaw) .none kV doc pm an (.ref c) ct) ["script"] (spLaw K PT) := by
  refine fn_of lk hcd scLaw (fun vs H Q E h => ?_) (fun A outer s H vs Q E hr h => ?_)
  · obtain ⟨a, ns, rfl, _⟩ := h
    rfl
  · obtain ⟨a0, ss, rfl, hS, hlen, hP, q⟩ := h
    obtain ⟨t22, h22, q22⟩ := law_22_23 (P := P) (w := w) (K := K) (mg := mg) (base := base) (f := f) (c := c) (A := A) (outer := outer) (s := s) (H0 := H) (E := E) T mt hr
    obtain ⟨t21, h21, q21⟩ := law_21 T R FF mF TB XF hr h22
    obtain ⟨t20, h20, q20⟩ := law_20 T R FF mF TB XA hr h21
    obtain ⟨t19, h19, q19⟩ := law_19 T R FF mF TB XV hr h20
    obtain ⟨t18, h18, q18⟩ := law_18 T R FF mF TB XN hr h19
    obtain ⟨t17, h17, q17⟩ := law_17 T R FF mF TB XW hr h18
    obtain ⟨t16, h16, q16⟩ := law_16 T R FF mF TB XF hr h17
    obtain ⟨t13, h13, q13⟩ := law_13_15 T DT MV mln hr h16
    obtain ⟨t9, h9, q9⟩ := law_9c T DT DA MI GI mgC bI mt mln hr h13
    obtain ⟨t8, h8, q8⟩ := law_8 T DT MV MF mt mr mL mln hr h9
    obtain ⟨t6, h6, q6⟩ := law_67 T DL MC mln mse hr h8
    obtain ⟨t5, h5, q5⟩ := law_5 T MV MN mt mr hr h6
    obtain ⟨t4, h4, q4⟩ := law_4 T mt mO hr h5
    obtain ⟨t3, h3, q3⟩ := law_3 T DK DT MB MW mr mln hr h4
    obtain ⟨t0, h0, q0⟩ := law_02 T DK MI GI mgC bI hr h3
    refine ⟨t0, h0.nox, q0 _ _ _ PT ⟨a0, ss, rfl, hS, hlen⟩ hP fun HB H1 a sc ns dk SL LL TL N I1 => ?_⟩
    refine q3 _ _ _ _ _ _ _ _ _ _ _ _ _ I1 fun H2 LL S Ls es y5 y6 y22 I2 hes => ?_
    refine q4 _ _ _ _ _ _ _ _ _ _ _ _ _ _ _ _ _ _ _ _ _ _ _ _ _ _ _ _ _ _ _ I2 fun H3 s3 => ?_
    have I3 := I2.same s3
    refine q5 _ _ _ _ _ _ _ _ _ _ _ _ _ _ _ _ _ _ _ _ _ _ _ _ _ _ _ _ _ _ _ I3 fun H4 z6 z7 z8 z9 z22 s4 => ?_
    have I4 := I3.same s4
    refine q6 _ _ _ _ _ _ _ _ _ _ _ _ _ _ _ _ _ _ _ _ _ _ _ _ _ _ _ _ _ _ _ I4 fun H5 z10 s5 => ?_
    have I5 := I4.same s5
    refine q8 _ _ _ _ _ _ _ _ _ _ _ _ _ _ _ _ _ _ _ _ _ _ _ _ _ _ _ _ _ _ _ I5 fun H6 x5 x8 x9 x11 x12 x21 x22 I6 => ?_
    refine q9 _ _ _ _ _ _ _ _ _ _ _ _ _ _ _ _ _ _ _ _ _ _ _ _ _ _ _ _ _ _ _ I6 hes fun H7 x13 x14 x15 I7 => ?_
    refine q13 _ _ _ _ _ _ _ _ _ _ _ _ _ _ _ _ _ _ _ _ _ _ _ _ _ _ _ _ _ _ _ I7 fun H8 p n WR hn p0 p1 I8 eW => ?_
    refine q16 _ _ _ _ _ _ _ _ _ _ _ _ _ _ _ _ _ _ _ _ _ _ _ _ _ _ _ hn p0 p1 I8 eW fun H9 x21 I9 => ?_
    refine q17 _ _ _ _ _ _ _ _ _ _ _ _ _ _ _ _ _ _ _ _ _ _ _ _ _ _ _ I9 fun H10 TD I10 => ?_
    refine q18 _ _ _ _ _ _ _ _ _ _ _ _ _ _ _ _ _ _ _ _ _ _ _ _ _ _ _ _ I10 (by simp) fun H11 I11 => ?_
    refine q19 _ _ _ _ _ _ _ _ _ _ _ _ _ _ _ _ _ _ _ _ _ _ _ _ _ _ _ _ I11 (by simp) fun H12 I12 => ?_
    refine q20 _ _ _ _ _ _ _ _ _ _ _ _ _ _ _ _ _ _ _ _ _ _ _ _ _ _ _ _ I12 (by simp) fun H13 I13 => ?_
    refine q21 _ _ _ _ _ _ _ _ _ _ _ _ _ _ _ _ _ _ _ _ _ _ _ _ _ _ _ _ I13 (by simp) fun H14 I14 => ?_
    exact q22 _ _ _ _ _ _ _ _ _ _ _ _ _ _ _ _ _ _ _ _ _ _ _ _ _ _ _ _ I14 fun H' => q H'
end
end Pf

set_option Elab.async false
set_option linter.all false
set_option maxRecDepth 100000
set_option maxHeartbeats 8000000
namespace Pf
open PySem PySem.Spec PyProof.Rows L2
/-! ### what the top has written -/
theorem exm_own {K : PySem.W.Frag} {S : Addr} (h1 : PySem.W.subIn K (.ref S) (.type "BaseException") = some true) (h2 : PySem.W.isClsIn K S = true) (h3 : PySem.W.typeIn K (.ref S) = some (.type "type")) (h4 : PySem.W.subIn K (.ref S) (.ref S) = some true) : PySem.W.exmOne K (.ref S) (.ref S) = some true := by
  have g1 : (PySem.W.subIn K (.ref S) (.type "BaseException") == some true) = true := by rw [h1] <;> rfl
  have g2 : ((PySem.W.clsIn K S).isSome && PySem.W.typeIn K (.ref S) == some (.type "type")) = true := by
    have g3 : (PySem.W.clsIn K S).isSome = true := h2
    rw [g3, h3] <;> rfl
  show (if (PySem.W.subIn K (.ref S) (.type "BaseException") == some true) = true then (if ((PySem.W.clsIn K S).isSome && PySem.W.typeIn K (.ref S) == some (.type "type")) = true then PySem.W.subIn K (.ref S) (.ref S) else none) else none) = some true
  rw [if_pos g1, if_pos g2]
  exact h4
theorem exm_two {K : PySem.W.Frag} {S C : Addr} {b : Bool} (h1 : PySem.W.subIn K (.ref C) (.type "BaseException") = some true) (h2 : PySem.W.isClsIn K C = true) (h3 : PySem.W.typeIn K (.ref C) = some (.type "type")) (h4 : PySem.W.subIn K (.ref S) (.ref C) = some b) : PySem.W.exmOne K (.ref S) (.ref C) = some b := by
  have g1 : (PySem.W.subIn K (.ref C) (.type "BaseException") == some true) = true := by rw [h1] <;> rfl
  have g2 : ((PySem.W.clsIn K C).isSome && PySem.W.typeIn K (.ref C) == some (.type "type")) = true := by
    have g3 : (PySem.W.clsIn K C).isSome = true := h2
    rw [g3, h3] <;> rfl
  show (if (PySem.W.subIn K (.ref C) (.type "BaseException") == some true) = true then (if ((PySem.W.clsIn K C).isSome && PySem.W.typeIn K (.ref C) == some (.type "type")) = true then PySem.W.subIn K (.ref S) (.ref C) else none) else none) = some b
  rw [if_pos g1, if_pos g2]
  exact h4
theorem all_mk {l : PySem.W.OpenLaw} {w : World} {K : PySem.W.Frag} {h : Heap} {mg : Str → Option Value} {fa : Addr} (X : K.In h) (G : h.Ns mainGlobals mg) (hfa : mg "law" = some (.ref fa)) (own : LamX.OwnTab K fa h)
    {CD T0 f0 f1 f2 f3 f4 f5 f6 f7 f8 f9 f10 f11 f12 f13 f14 f15 f16 f17 f18 f19 : Addr}
    {od0 an0 od1 an1 od2 an2 od3 an3 od4 an4 od5 an5 od6 an6 od7 an7 od8 an8 od9 an9 od10 an10 od11 an11 od12 an12 od13 an13 od14 an14 od15 an15 od16 an16 od17 an17 od18 an18 od19 an19 : Option Addr}
    {sl0 sl1 sl2 sl3 sl4 sl5 sl6 sl7 sl8 sl9 sl10 sl11 sl12 sl13 sl14 sl15 sl16 sl17 sl18 sl19 : Array (Option Value)}
    {oc0 kV0 dc0 pm0 cd0 ct0 oc1 kV1 dc1 pm1 cd1 ct1 oc2 kV2 dc2 pm2 cd2 ct2 oc3 kV3 dc3 pm3 cd3 ct3 oc4 kV4 dc4 pm4 cd4 ct4 oc5 kV5 dc5 pm5 cd5 ct5 oc6 kV6 dc6 pm6 cd6 ct6 oc7 kV7 dc7 pm7 cd7 ct7 oc8 kV8 dc8 pm8 cd8 ct8 oc9 kV9 dc9 pm9 cd9 ct9 oc10 kV10 dc10 pm10 ct10 oc11 kV11 dc11 pm11 cd11 ct11 oc12 kV12 dc12 pm12 cd12 ct12 oc13 kV13 dc13 pm13 cd13 ct13 oc14 kV14 dc14 pm14 cd14 ct14 oc15 kV15 dc15 pm15 cd15 ct15 oc16 kV16 dc16 pm16 cd16 ct16 oc17 kV17 dc17 pm17 cd17 ct17 oc18 kV18 dc18 pm18 cd18 ct18 oc19 kV19 dc19 pm19 cd19 ct19 : Value}
    {ddT : Option Addr} {nT : Nat} {slT : Array (Option Value)}
    {CR1 SE1 fR1 NR1 : Addr} {nmR1 qR1 : Str} {bsR1 sbR1 : List Value} {snR1 : List Str} {abR1 : Bool} {clR1 : Option Bool} {ddR01 : Option Addr} {k0R1 k1R1 k2R1 k3R1 k5R1 : Option Value} {odR1 anR1 : Option Addr} {slR01 : Array (Option Value)} {ocR1 dcR1 pmR1 cdR1 ctR1 : Value}
    {CR2 SE2 fR2 NR2 : Addr} {nmR2 qR2 : Str} {bsR2 sbR2 : List Value} {snR2 : List Str} {abR2 : Bool} {clR2 : Option Bool} {ddR02 : Option Addr} {k0R2 k1R2 k2R2 k3R2 k5R2 : Option Value} {odR2 anR2 : Option Addr} {slR02 : Array (Option Value)} {ocR2 dcR2 pmR2 cdR2 ctR2 : Value}
    {CR3 SE3 fR3 NR3 : Addr} {nmR3 qR3 : Str} {bsR3 sbR3 : List Value} {snR3 : List Str} {abR3 : Bool} {clR3 : Option Bool} {ddR03 : Option Addr} {k0R3 k1R3 k2R3 k3R3 k5R3 : Option Value} {odR3 anR3 : Option Addr} {slR03 : Array (Option Value)} {ocR3 dcR3 pmR3 cdR3 ctR3 : Value}
    {cL PT : Addr} {ddC : Option Addr} {vsC : Array Value} {slC : Array (Option Value)} {fileC : Str} {flC txC : Int} {tfC tgC ttC : Tok} {inC : Bool}
    (aD : PySem.W.nsIn K mainGlobals "Disk" = some (some (.ref CD)))
    (a0 : PySem.W.nsIn K mainGlobals "is_whole" = some (some (.ref f0)))
    (l0 : K.lookup f0 = some ⟨oc0, od0, .func (PySem.W.fnOf "is_whole" "is_whole" (defArgs sWhole) (defBody sWhole) (defScope sWhole) (.ref T0) kV0 dc0 pm0 an0 cd0 ct0), sl0⟩)
    (lT : K.lookup T0 = some ⟨.type "tuple", ddT, .seq #[.none, .none] nT, slT⟩)
    (c0 : PySem.W.codeIn K cd0 "is_whole" = true)
    (k0 : PySem.W.keepIn K (.ref f0) = true)
    (a1 : PySem.W.nsIn K mainGlobals "count_unlike" = some (some (.ref f1)))
    (l1 : K.lookup f1 = some ⟨oc1, od1, .func (PySem.W.fnOf "count_unlike" "count_unlike" (defArgs sCu) (defBody sCu) (defScope sCu) .none kV1 dc1 pm1 an1 cd1 ct1), sl1⟩)
    (c1 : PySem.W.codeIn K cd1 "count_unlike" = true)
    (k1 : PySem.W.keepIn K (.ref f1) = true)
    (a2 : PySem.W.nsIn K mainGlobals "copy_of" = some (some (.ref f2)))
    (l2 : K.lookup f2 = some ⟨oc2, od2, .func (PySem.W.fnOf "copy_of" "copy_of" (defArgs sCopy) (defBody sCopy) (defScope sCopy) .none kV2 dc2 pm2 an2 cd2 ct2), sl2⟩)
    (c2 : PySem.W.codeIn K cd2 "copy_of" = true)
    (k2 : PySem.W.keepIn K (.ref f2) = true)
    (a3 : PySem.W.nsIn K mainGlobals "check_moment" = some (some (.ref f3)))
    (l3 : K.lookup f3 = some ⟨oc3, od3, .func (PySem.W.fnOf "check_moment" "check_moment" (defArgs sCm) (defBody sCm) (defScope sCm) .none kV3 dc3 pm3 an3 cd3 ct3), sl3⟩)
    (c3 : PySem.W.codeIn K cd3 "check_moment" = true)
    (k3 : PySem.W.keepIn K (.ref f3) = true)
    (a4 : PySem.W.nsIn K mainGlobals "disk_after" = some (some (.ref f4)))
    (l4 : K.lookup f4 = some ⟨oc4, od4, .func (PySem.W.fnOf "disk_after" "disk_after" (defArgs sDa) (defBody sDa) (defScope sDa) .none kV4 dc4 pm4 an4 cd4 ct4), sl4⟩)
    (c4 : PySem.W.codeIn K cd4 "disk_after" = true)
    (k4 : PySem.W.keepIn K (.ref f4) = true)
    (a5 : PySem.W.nsIn K mainGlobals "_law_number" = some (some (.ref f5)))
    (l5 : K.lookup f5 = some ⟨oc5, od5, .func (PySem.W.fnOf "_law_number" "_law_number" (defArgs sNum) (defBody sNum) (defScope sNum) .none kV5 dc5 pm5 an5 cd5 ct5), sl5⟩)
    (c5 : PySem.W.codeIn K cd5 "_law_number" = true)
    (k5 : PySem.W.keepIn K (.ref f5) = true)
    (a6 : PySem.W.nsIn K mainGlobals "_law_take" = some (some (.ref f6)))
    (l6 : K.lookup f6 = some ⟨oc6, od6, .func (PySem.W.fnOf "_law_take" "_law_take" (defArgs sTake) (defBody sTake) (defScope sTake) .none kV6 dc6 pm6 an6 cd6 ct6), sl6⟩)
    (c6 : PySem.W.codeIn K cd6 "_law_take" = true)
    (k6 : PySem.W.keepIn K (.ref f6) = true)
    (a7 : PySem.W.nsIn K mainGlobals "_law_pick" = some (some (.ref f7)))
    (l7 : K.lookup f7 = some ⟨oc7, od7, .func (PySem.W.fnOf "_law_pick" "_law_pick" (defArgs sPick) (defBody sPick) (defScope sPick) .none kV7 dc7 pm7 an7 cd7 ct7), sl7⟩)
    (c7 : PySem.W.codeIn K cd7 "_law_pick" = true)
    (k7 : PySem.W.keepIn K (.ref f7) = true)
    (a8 : PySem.W.nsIn K mainGlobals "_law_falls" = some (some (.ref f8)))
    (l8 : K.lookup f8 = some ⟨oc8, od8, .func (PySem.W.fnOf "_law_falls" "_law_falls" (defArgs sLfl) (defBody sLfl) (defScope sLfl) .none kV8 dc8 pm8 an8 cd8 ct8), sl8⟩)
    (c8 : PySem.W.codeIn K cd8 "_law_falls" = true)
    (k8 : PySem.W.keepIn K (.ref f8) = true)
    (a9 : PySem.W.nsIn K mainGlobals "_law_fault" = some (some (.ref f9)))
    (l9 : K.lookup f9 = some ⟨oc9, od9, .func (PySem.W.fnOf "_law_fault" "_law_fault" (defArgs sFault) (defBody sFault) (defScope sFault) .none kV9 dc9 pm9 an9 cd9 ct9), sl9⟩)
    (c9 : PySem.W.codeIn K cd9 "_law_fault" = true)
    (k9 : PySem.W.keepIn K (.ref f9) = true)
    (a10 : PySem.W.nsIn K mainGlobals "law" = some (some (.ref f10)))
    (l10 : K.lookup f10 = some ⟨oc10, od10, .func (PySem.W.fnOf "law" "law" (defArgs sLaw) (defBody sLaw) (defScope sLaw) .none kV10 dc10 pm10 an10 (.ref cL) ct10), sl10⟩)
    (c10 : PySem.W.codeIn K (.ref cL) "law" = true)
    (k10 : PySem.W.keepIn K (.ref f10) = true)
    (a11 : PySem.W.findIn K (.ref CD) "__init__" = some (some (.ref f11)))
    (i11 : PySem.W.isFn K (.ref f11) = true)
    (l11 : K.lookup f11 = some ⟨oc11, od11, .func (PySem.W.fnOf "__init__" "Disk.__init__" (defArgs sInit) (defBody sInit) (defScope sInit) .none kV11 dc11 pm11 an11 cd11 ct11), sl11⟩)
    (c11 : PySem.W.codeIn K cd11 "Disk.__init__" = true)
    (k11 : PySem.W.keepIn K (.ref f11) = true)
    (a12 : PySem.W.findIn K (.ref CD) "write" = some (some (.ref f12)))
    (i12 : PySem.W.isFn K (.ref f12) = true)
    (l12 : K.lookup f12 = some ⟨oc12, od12, .func (PySem.W.fnOf "write" "Disk.write" (defArgs sWrite) (defBody sWrite) (defScope sWrite) .none kV12 dc12 pm12 an12 cd12 ct12), sl12⟩)
    (c12 : PySem.W.codeIn K cd12 "Disk.write" = true)
    (k12 : PySem.W.keepIn K (.ref f12) = true)
    (a13 : PySem.W.findIn K (.ref CD) "barrier" = some (some (.ref f13)))
    (i13 : PySem.W.isFn K (.ref f13) = true)
    (l13 : K.lookup f13 = some ⟨oc13, od13, .func (PySem.W.fnOf "barrier" "Disk.barrier" (defArgs sBar) (defBody sBar) (defScope sBar) .none kV13 dc13 pm13 an13 cd13 ct13), sl13⟩)
    (c13 : PySem.W.codeIn K cd13 "Disk.barrier" = true)
    (k13 : PySem.W.keepIn K (.ref f13) = true)
    (a14 : PySem.W.findIn K (.ref CD) "now" = some (some (.ref f14)))
    (i14 : PySem.W.isFn K (.ref f14) = true)
    (l14 : K.lookup f14 = some ⟨oc14, od14, .func (PySem.W.fnOf "now" "Disk.now" (defArgs sNow) (defBody sNow) (defScope sNow) .none kV14 dc14 pm14 an14 cd14 ct14), sl14⟩)
    (c14 : PySem.W.codeIn K cd14 "Disk.now" = true)
    (k14 : PySem.W.keepIn K (.ref f14) = true)
    (a15 : PySem.W.findIn K (.ref CD) "versions" = some (some (.ref f15)))
    (i15 : PySem.W.isFn K (.ref f15) = true)
    (l15 : K.lookup f15 = some ⟨oc15, od15, .func (PySem.W.fnOf "versions" "Disk.versions" (defArgs sVers) (defBody sVers) (defScope sVers) .none kV15 dc15 pm15 an15 cd15 ct15), sl15⟩)
    (c15 : PySem.W.codeIn K cd15 "Disk.versions" = true)
    (k15 : PySem.W.keepIn K (.ref f15) = true)
    (a16 : PySem.W.findIn K (.ref CD) "count_falls" = some (some (.ref f16)))
    (i16 : PySem.W.isFn K (.ref f16) = true)
    (l16 : K.lookup f16 = some ⟨oc16, od16, .func (PySem.W.fnOf "count_falls" "Disk.count_falls" (defArgs sCount) (defBody sCount) (defScope sCount) .none kV16 dc16 pm16 an16 cd16 ct16), sl16⟩)
    (c16 : PySem.W.codeIn K cd16 "Disk.count_falls" = true)
    (k16 : PySem.W.keepIn K (.ref f16) = true)
    (a17 : PySem.W.findIn K (.ref CD) "fallen" = some (some (.ref f17)))
    (i17 : PySem.W.isFn K (.ref f17) = true)
    (l17 : K.lookup f17 = some ⟨oc17, od17, .func (PySem.W.fnOf "fallen" "Disk.fallen" (defArgs sFallen) (defBody sFallen) (defScope sFallen) .none kV17 dc17 pm17 an17 cd17 ct17), sl17⟩)
    (c17 : PySem.W.codeIn K cd17 "Disk.fallen" = true)
    (k17 : PySem.W.keepIn K (.ref f17) = true)
    (a18 : PySem.W.findIn K (.ref CD) "can_choose" = some (some (.ref f18)))
    (i18 : PySem.W.isFn K (.ref f18) = true)
    (l18 : K.lookup f18 = some ⟨oc18, od18, .func (PySem.W.fnOf "can_choose" "Disk.can_choose" (defArgs sCan) (defBody sCan) (defScope sCan) .none kV18 dc18 pm18 an18 cd18 ct18), sl18⟩)
    (c18 : PySem.W.codeIn K cd18 "Disk.can_choose" = true)
    (k18 : PySem.W.keepIn K (.ref f18) = true)
    (a19 : PySem.W.findIn K (.ref CD) "check_plate" = some (some (.ref f19)))
    (i19 : PySem.W.isFn K (.ref f19) = true)
    (l19 : K.lookup f19 = some ⟨oc19, od19, .func (PySem.W.fnOf "check_plate" "Disk.check_plate" (defArgs sCheck) (defBody sCheck) (defScope sCheck) .none kV19 dc19 pm19 an19 cd19 ct19), sl19⟩)
    (c19 : PySem.W.codeIn K cd19 "Disk.check_plate" = true)
    (k19 : PySem.W.keepIn K (.ref f19) = true)
    (pgCD : PySem.W.plainGet K CD Str.empty = true)
    (hdCD : PySem.W.hasDictIn K CD = true)
    (poCD : PySem.W.plainOver K CD = true)
    (saCD : PySem.W.findIn K (.ref CD) "__setattr__" = some (some (.builtin "object.__setattr__")))
    (mkCD : PySem.W.makesIn K CD = true)
    (kcCD : PySem.W.keepIn K (.ref CD) = true)
    (n_many : PySem.W.findIn K (.ref CD) "many" = some none)
    (n_settled : PySem.W.findIn K (.ref CD) "settled" = some none)
    (n_loose : PySem.W.findIn K (.ref CD) "loose" = some none)
    (z_isinstance : PySem.W.nsIn K mainGlobals "isinstance" = some none)
    (z_int : PySem.W.nsIn K mainGlobals "int" = some none)
    (z_bool : PySem.W.nsIn K mainGlobals "bool" = some none)
    (z_tuple : PySem.W.nsIn K mainGlobals "tuple" = some none)
    (z_len : PySem.W.nsIn K mainGlobals "len" = some none)
    (z_all : PySem.W.nsIn K mainGlobals "all" = some none)
    (z_enumerate : PySem.W.nsIn K mainGlobals "enumerate" = some none)
    (z_range : PySem.W.nsIn K mainGlobals "range" = some none)
    (z_list : PySem.W.nsIn K mainGlobals "list" = some none)
    (z_abs : PySem.W.nsIn K mainGlobals "abs" = some none)
    (z_set : PySem.W.nsIn K mainGlobals "set" = some none)
    (aR01 : PySem.W.nsIn K mainGlobals "BadPlate" = some (some (.ref CR1)))
    (xR1 : K.lookup CR1 = some (excClassObj nmR1 qR1 CR1 NR1 bsR1 [.ref SE1, .type "Exception", .type "BaseException", .type "object"] true snR1 sbR1 abR1 clR1 ddR01 k0R1 k1R1 k2R1 k3R1 k5R1 "Exception.__new__"))
    (saR1 : PySem.W.findIn K (.ref CR1) "__setattr__" = some (some (.builtin "object.__setattr__")))
    (gaR1 : PySem.W.findIn K (.ref CR1) "__getattribute__" = some (some (.builtin "BaseException.__getattribute__")))
    (ggR1 : PySem.W.findIn K (.ref CR1) "__getattr__" = some none)
    (nwR1 : PySem.W.findIn K (.ref CR1) "plate" = some none)
    (iR1 : PySem.W.findIn K (.ref CR1) "__init__" = some (some (.ref fR1)))
    (tR1 : PySem.W.typeIn K (.ref fR1) = some (.type "function"))
    (lR1 : K.lookup fR1 = some ⟨ocR1, odR1, .func (PySem.W.fnOf "__init__" "BadPlate.__init__" (defArgs sBpI) (defBody sBpI) (defScope sBpI) .none .none dcR1 pmR1 anR1 cdR1 ctR1), slR01⟩)
    (cR1 : PySem.W.codeIn K cdR1 "BadPlate.__init__" = true)
    (kR1 : PySem.W.keepIn K (.ref CR1) = true)
    (eR1 : PySem.W.subIn K (.ref CR1) (.type "BaseException") = some true)
    (tcR1 : PySem.W.typeIn K (.ref CR1) = some (.type "type"))
    (hR1 : PySem.W.hasDictIn K CR1 = true)
    (icR1 : PySem.W.isClsIn K CR1 = true)
    (sR1 : PySem.W.subIn K (.ref CR1) (.ref CR1) = some true)
    (aR02 : PySem.W.nsIn K mainGlobals "BadChoice" = some (some (.ref CR2)))
    (xR2 : K.lookup CR2 = some (excClassObj nmR2 qR2 CR2 NR2 bsR2 [.ref SE2, .type "Exception", .type "BaseException", .type "object"] true snR2 sbR2 abR2 clR2 ddR02 k0R2 k1R2 k2R2 k3R2 k5R2 "Exception.__new__"))
    (saR2 : PySem.W.findIn K (.ref CR2) "__setattr__" = some (some (.builtin "object.__setattr__")))
    (gaR2 : PySem.W.findIn K (.ref CR2) "__getattribute__" = some (some (.builtin "BaseException.__getattribute__")))
    (ggR2 : PySem.W.findIn K (.ref CR2) "__getattr__" = some none)
    (nwR2 : PySem.W.findIn K (.ref CR2) "plate" = some none)
    (iR2 : PySem.W.findIn K (.ref CR2) "__init__" = some (some (.ref fR2)))
    (tR2 : PySem.W.typeIn K (.ref fR2) = some (.type "function"))
    (lR2 : K.lookup fR2 = some ⟨ocR2, odR2, .func (PySem.W.fnOf "__init__" "BadChoice.__init__" (defArgs sBhI) (defBody sBhI) (defScope sBhI) .none .none dcR2 pmR2 anR2 cdR2 ctR2), slR02⟩)
    (cR2 : PySem.W.codeIn K cdR2 "BadChoice.__init__" = true)
    (kR2 : PySem.W.keepIn K (.ref CR2) = true)
    (eR2 : PySem.W.subIn K (.ref CR2) (.type "BaseException") = some true)
    (tcR2 : PySem.W.typeIn K (.ref CR2) = some (.type "type"))
    (hR2 : PySem.W.hasDictIn K CR2 = true)
    (icR2 : PySem.W.isClsIn K CR2 = true)
    (sR2 : PySem.W.subIn K (.ref CR2) (.ref CR2) = some true)
    (aR03 : PySem.W.nsIn K mainGlobals "BadMoment" = some (some (.ref CR3)))
    (xR3 : K.lookup CR3 = some (excClassObj nmR3 qR3 CR3 NR3 bsR3 [.ref SE3, .type "Exception", .type "BaseException", .type "object"] true snR3 sbR3 abR3 clR3 ddR03 k0R3 k1R3 k2R3 k3R3 k5R3 "Exception.__new__"))
    (saR3 : PySem.W.findIn K (.ref CR3) "__setattr__" = some (some (.builtin "object.__setattr__")))
    (gaR3 : PySem.W.findIn K (.ref CR3) "__getattribute__" = some (some (.builtin "BaseException.__getattribute__")))
    (ggR3 : PySem.W.findIn K (.ref CR3) "__getattr__" = some none)
    (nwR3 : PySem.W.findIn K (.ref CR3) "many" = some none)
    (iR3 : PySem.W.findIn K (.ref CR3) "__init__" = some (some (.ref fR3)))
    (tR3 : PySem.W.typeIn K (.ref fR3) = some (.type "function"))
    (lR3 : K.lookup fR3 = some ⟨ocR3, odR3, .func (PySem.W.fnOf "__init__" "BadMoment.__init__" (defArgs sBmI) (defBody sBmI) (defScope sBmI) .none .none dcR3 pmR3 anR3 cdR3 ctR3), slR03⟩)
    (cR3 : PySem.W.codeIn K cdR3 "BadMoment.__init__" = true)
    (kR3 : PySem.W.keepIn K (.ref CR3) = true)
    (eR3 : PySem.W.subIn K (.ref CR3) (.type "BaseException") = some true)
    (tcR3 : PySem.W.typeIn K (.ref CR3) = some (.type "type"))
    (hR3 : PySem.W.hasDictIn K CR3 = true)
    (icR3 : PySem.W.isClsIn K CR3 = true)
    (sR3 : PySem.W.subIn K (.ref CR3) (.ref CR3) = some true)
    (q12 : PySem.W.subIn K (.ref CR1) (.ref CR2) = some false)
    (q32 : PySem.W.subIn K (.ref CR3) (.ref CR2) = some false)
    (q31 : PySem.W.subIn K (.ref CR3) (.ref CR1) = some false)
    (vTor : PySem.W.nsIn K mainGlobals "TORN" = some (some .none))
    (lcL : K.lookup cL = some ⟨.type "code", ddC, .fields vsC, slC⟩)
    (v11 : vsC[11]? = some (.ref PT))
    (v11b : vsC.getD 11 .none = .ref PT)
    (v18 : vsC.getD 18 .none = .str fileC tfC)
    (v7 : vsC.getD 7 .none = .int flC tgC)
    (v9 : vsC.getD 9 .none = .bool inC)
    (v10 : vsC.getD 10 .none = .int txC ttC)
    (nPT : K.lookup PT = none)
    : LamX.LawAtS l w K CX0 7 63 "script" mg fa h := by
  have e := hfa.symm.trans (PySem.W.mg_of X G a10)
  cases e
  have b_isinstance : mg "isinstance" = none := PySem.W.mg_none_of X G z_isinstance
  have b_int : mg "int" = none := PySem.W.mg_none_of X G z_int
  have b_bool : mg "bool" = none := PySem.W.mg_none_of X G z_bool
  have b_tuple : mg "tuple" = none := PySem.W.mg_none_of X G z_tuple
  have b_len : mg "len" = none := PySem.W.mg_none_of X G z_len
  have b_all : mg "all" = none := PySem.W.mg_none_of X G z_all
  have b_enumerate : mg "enumerate" = none := PySem.W.mg_none_of X G z_enumerate
  have b_range : mg "range" = none := PySem.W.mg_none_of X G z_range
  have b_list : mg "list" = none := PySem.W.mg_none_of X G z_list
  have b_abs : mg "abs" = none := PySem.W.mg_none_of X G z_abs
  have b_set : mg "set" = none := PySem.W.mg_none_of X G z_set
  have T : DTxt K CD := ⟨⟨pgCD, hdCD, poCD, saCD⟩, n_many, n_settled, n_loose⟩
  have F1 := fun_mk (st := sCu) l1 c1 k1
  have b1 := F1.binds (ps := ["values"]) fun _ _ _ _ _ _ us hl => match us, hl with | [_], _ => rfl
  have F2 := fun_mk (st := sCopy) l2 c2 k2
  have b2 := F2.binds (ps := ["disk"]) fun _ _ _ _ _ _ us hl => match us, hl with | [_], _ => rfl
  have F3 := fun_mk (st := sCm) l3 c3 k3
  have b3 := F3.binds (ps := ["moment", "most"]) fun _ _ _ _ _ _ us hl => match us, hl with | [_, _], _ => rfl
  have F4 := fun_mk (st := sDa) l4 c4 k4
  have b4 := F4.binds (ps := ["disk", "trace", "moment"]) fun _ _ _ _ _ _ us hl => match us, hl with | [_, _, _], _ => rfl
  have F5 := fun_mk (st := sNum) l5 c5 k5
  have b5 := F5.binds (ps := ["script", "index"]) fun _ _ _ _ _ _ us hl => match us, hl with | [_, _], _ => rfl
  have F6 := fun_mk (st := sTake) l6 c6 k6
  have b6 := F6.binds (ps := ["draw", "many"]) fun _ _ _ _ _ _ us hl => match us, hl with | [_, _], _ => rfl
  have F7 := fun_mk (st := sPick) l7 c7 k7
  have b7 := F7.binds (ps := ["draw", "items"]) fun _ _ _ _ _ _ us hl => match us, hl with | [_, _], _ => rfl
  have F8 := fun_mk (st := sLfl) l8 c8 k8
  have b8 := F8.binds (ps := ["settled", "loose", "many"]) fun _ _ _ _ _ _ us hl => match us, hl with | [_, _, _], _ => rfl
  have F9 := fun_mk (st := sFault) l9 c9 k9
  have b9 := F9.binds (ps := ["work"]) fun _ _ _ _ _ _ us hl => match us, hl with | [_], _ => rfl
  have F11 := fun_mk (st := sInit) l11 c11 k11
  have b11 := F11.binds (ps := ["self", "many"]) fun _ _ _ _ _ _ us hl => match us, hl with | [_, _], _ => rfl
  have F12 := fun_mk (st := sWrite) l12 c12 k12
  have b12 := F12.binds (ps := ["self", "plate", "value"]) fun _ _ _ _ _ _ us hl => match us, hl with | [_, _, _], _ => rfl
  have F13 := fun_mk (st := sBar) l13 c13 k13
  have b13 := F13.binds (ps := ["self"]) fun _ _ _ _ _ _ us hl => match us, hl with | [_], _ => rfl
  have F14 := fun_mk (st := sNow) l14 c14 k14
  have b14 := F14.binds (ps := ["self", "plate"]) fun _ _ _ _ _ _ us hl => match us, hl with | [_, _], _ => rfl
  have F15 := fun_mk (st := sVers) l15 c15 k15
  have b15 := F15.binds (ps := ["self", "plate"]) fun _ _ _ _ _ _ us hl => match us, hl with | [_, _], _ => rfl
  have F16 := fun_mk (st := sCount) l16 c16 k16
  have b16 := F16.binds (ps := ["self"]) fun _ _ _ _ _ _ us hl => match us, hl with | [_], _ => rfl
  have F17 := fun_mk (st := sFallen) l17 c17 k17
  have b17 := F17.binds (ps := ["self", "choice"]) fun _ _ _ _ _ _ us hl => match us, hl with | [_, _], _ => rfl
  have F18 := fun_mk (st := sCan) l18 c18 k18
  have b18 := F18.binds (ps := ["self", "plate", "number"]) fun _ _ _ _ _ _ us hl => match us, hl with | [_, _, _], _ => rfl
  have F19 := fun_mk (st := sCheck) l19 c19 k19
  have b19 := F19.binds (ps := ["self", "plate"]) fun _ _ _ _ _ _ us hl => match us, hl with | [_, _], _ => rfl
  have F0 : FunD K "is_whole" "is_whole" (defArgs sWhole) (defBody sWhole) (defScope sWhole) [.non, .non] [] f0 _ := ⟨⟨oc0, od0, .ref T0, kV0, dc0, pm0, an0, cd0, ct0, sl0, rfl, l0, c0, .inr ⟨by simp, T0, _, [.none, .none], nT, rfl, lT, rfl, .cons rfl (.cons rfl .nil)⟩, .inl rfl⟩, k0⟩
  obtain ⟨ds3, v3, bw3⟩ := F0.binds1 (ps := ["thing", "low", "high"]) 3 2 (by simp) rfl (fun _ _ _ _ _ _ _ us its h1 h2 => match us, its, h1, h2 with | [_, _, _], [_, _], _, _ => ⟨_, rfl, rfl⟩)
  cases v3
  have hcL := X _ _ lcL
  have nCP : cL ≠ PT := fun z => by rw [z, nPT] at lcL; cases lcL
  refine ⟨PySem.W.fnOf "law" "law" (defArgs sLaw) (defBody sLaw) (defScope sLaw) .none kV10 dc10 pm10 an10 (.ref cL) ct10, [(cL, PT)], spLaw K PT, fun p hp => ?_, fun p hp => by rw [List.mem_singleton.mp hp]; exact nPT, fun p hp => ?_, fun s v => .of_eq rfl, fun H a ns hl _ hH hS => ⟨a, ns, rfl, hS, hl, hH (cL, PT) (List.mem_singleton.mpr rfl), fun _ => rfl⟩, fun base _ _ TBs => ?_⟩
  · rw [List.mem_singleton.mp hp]
    exact own cL PT _ _ _ _ _ _ l10 rfl rfl lcL v11
  · rw [List.mem_singleton.mp hp]
    exact ⟨_, vsC, fileC, tfC, flC, tgC, inC, txC, ttC, hcL, rfl, rfl, v11, v11b, v18, v7, v9, v10, nCP⟩
  have TB := TBs (cL, PT) (List.mem_singleton.mpr rfl)
  have GW := ok_whole (P := l.prog) (w := w) (mg := mg) (base := base) F0 b_isinstance b_int b_bool
  have RX1 : BpTx K mg CR1 SE1 fR1 := ⟨⟨⟨_, _, _, _, _, _, _, _, _, _, _, _, _, _, xR1⟩, saR1, nwR1, iR1, tR1, kR1, eR1, tcR1, ⟨_, _, _, _, _, _, _, _, _, _, _, _, _, _, lR1, cR1⟩⟩, PySem.W.mg_of X G aR01⟩
  have XF1 : XfC K CR1 := ⟨gaR1, ggR1, eR1, hR1⟩
  have exm1 := exm_own eR1 icR1 tcR1 sR1
  have RX2 : BhTx K mg CR2 SE2 fR2 := ⟨⟨⟨_, _, _, _, _, _, _, _, _, _, _, _, _, _, xR2⟩, saR2, nwR2, iR2, tR2, kR2, eR2, tcR2, ⟨_, _, _, _, _, _, _, _, _, _, _, _, _, _, lR2, cR2⟩⟩, PySem.W.mg_of X G aR02⟩
  have XF2 : XfC K CR2 := ⟨gaR2, ggR2, eR2, hR2⟩
  have exm2 := exm_own eR2 icR2 tcR2 sR2
  have RX3 : BmTx K mg CR3 SE3 fR3 := ⟨⟨⟨_, _, _, _, _, _, _, _, _, _, _, _, _, _, xR3⟩, saR3, nwR3, iR3, tR3, kR3, eR3, tcR3, ⟨_, _, _, _, _, _, _, _, _, _, _, _, _, _, lR3, cR3⟩⟩, PySem.W.mg_of X G aR03⟩
  have XF3 : XfC K CR3 := ⟨gaR3, ggR3, eR3, hR3⟩
  have exm3 := exm_own eR3 icR3 tcR3 sR3
  have exm12 := exm_two eR2 icR2 tcR2 q12
  have exm32 := exm_two eR2 icR2 tcR2 q32
  have exm31 := exm_two eR1 icR1 tcR1 q31
  have mTor := PySem.W.mg_of X G vTor
  have GI := ok_init (P := l.prog) (w := w) (K := K) (mg := mg) (base := base) F11 T
  have GK := ok_check (P := l.prog) (w := w) (K := K) (mg := mg) (base := base) F19 T GW k0 (PySem.W.mg_of X G a0) bw3
  have GWr := ok_write (P := l.prog) (w := w) (K := K) (mg := mg) (base := base) F12 T GK ⟨a19, i19, k19⟩ b19
  have GNu := ok_num (P := l.prog) (w := w) (K := K) (mg := mg) (base := base) F5 b_int b_len b_abs
  have GT := ok_take (base := base) F6 GNu k5 (PySem.W.mg_of X G a5) b5 b_int
  have GP := ok_pick (base := base) F7 GT k6 (PySem.W.mg_of X G a6) b6 b_len
  have GB := ok_bar (P := l.prog) (w := w) (K := K) (mg := mg) (base := base) F13 T b_list b_tuple
  have GCp := ok_copy (P := l.prog) (w := w) (K := K) (mg := mg) (base := base) F2 T ⟨mkCD, a11, i11, kcCD⟩ GI (PySem.W.mg_of X G aD) b11
  have GCm := ok_cm (P := l.prog) (w := w) (K := K) (mg := mg) (base := base) F3 GW k0 (PySem.W.mg_of X G a0) bw3
  have GDa := ok_daL (P := l.prog) (w := w) (K := K) (mg := mg) (base := base) F4 T ⟨GCm, k3, (PySem.W.mg_of X G a3), b3⟩ ⟨GCp, k2, (PySem.W.mg_of X G a2), b2⟩ ⟨GWr, ⟨a12, i12, k12⟩, b12⟩ ⟨GB, ⟨a13, i13, k13⟩, b13⟩ b_len
  have GNo := ok_now (P := l.prog) (w := w) (K := K) (mg := mg) (base := base) F14 T GK ⟨a19, i19, k19⟩ b19
  have GVe := ok_vers (P := l.prog) (w := w) (K := K) (mg := mg) (base := base) F15 T GK ⟨a19, i19, k19⟩ b19 b_tuple b_len mTor
  have GCa := ok_can (P := l.prog) (w := w) (K := K) (mg := mg) (base := base) F18 T GW k0 (PySem.W.mg_of X G a0) bw3 b_len
  have GFa := ok_fallen (P := l.prog) (w := w) (K := K) (mg := mg) (base := base) F17 T GCa ⟨a18, i18, k18⟩ b18 GVe ⟨a15, i15, k15⟩ b15 ⟨mkCD, a11, i11, kcCD⟩ GI (PySem.W.mg_of X G aD) b11 b_list b_tuple
  have GCu := ok_cu (P := l.prog) (w := w) (K := K) (mg := mg) (base := base) F1 b_len
  have GCfs := ok_cf (P := l.prog) (w := w) (K := K) (mg := mg) (base := base) F16 T ⟨GCu, k1, (PySem.W.mg_of X G a1), b1⟩ ⟨GVe, ⟨a15, i15, k15⟩, b15⟩ b_range
  have GLf := ok_lfl (P := l.prog) (w := w) (K := K) (mg := mg) (base := base) F8 b_range
  have GKX := ok_checkX (P := l.prog) (w := w) (K := K) (mg := mg) (base := base) F19 T RX1 GW k0 (PySem.W.mg_of X G a0) bw3
  have GWX := ok_writeX (P := l.prog) (w := w) (K := K) (mg := mg) (base := base) F12 T GKX ⟨a19, i19, k19⟩ b19
  have GNX := ok_nowX (P := l.prog) (w := w) (K := K) (mg := mg) (base := base) F14 T GKX ⟨a19, i19, k19⟩ b19
  have GVX := ok_versX (P := l.prog) (w := w) (K := K) (mg := mg) (base := base) F15 T GKX ⟨a19, i19, k19⟩ b19
  have GCmX := ok_cmX (P := l.prog) (w := w) (K := K) (mg := mg) (base := base) F3 RX3 GW k0 (PySem.W.mg_of X G a0) bw3
  have GDaX := ok_daX (P := l.prog) (w := w) (K := K) (mg := mg) (base := base) F4 ⟨GCmX, k3, (PySem.W.mg_of X G a3), b3⟩ b_len
  have GCG := ok_canG (P := l.prog) (w := w) (K := K) (mg := mg) (base := base) F18 T GW k0 (PySem.W.mg_of X G a0) bw3 b_len
  have GFX := ok_fallenX (P := l.prog) (w := w) (K := K) (mg := mg) (base := base) F17 T RX2 GCG ⟨a18, i18, k18⟩ b18
  have GWX2 := L2.FnOk.n2 GWX
  have GNX2 := L2.FnOk.n2 GNX
  have GVX2 := L2.FnOk.n2 GVX
  have GDaX2 := L2.FnOk.n2 GDaX
  have GFX2 := L2.FnOk.n2 GFX
  have RF : FX K mg _ _ _ _ _ _ _ _ _ := ⟨RX1, RX2, RX3, XF1, XF2, XF3, exm2, exm12, exm1, exm32, exm31, exm3⟩
  exact ok_law l10 c10 T RF F9 (PySem.W.mg_of X G a9) TB ⟨GWX2, ⟨a12, i12, k12⟩, b12⟩ ⟨GNX2, ⟨a14, i14, k14⟩, b14⟩ ⟨GVX2, ⟨a15, i15, k15⟩, b15⟩ ⟨GDaX2, k4, (PySem.W.mg_of X G a4), b4⟩ ⟨GFX2, ⟨a17, i17, k17⟩, b17⟩ ⟨GT, k6, (PySem.W.mg_of X G a6), b6⟩ ⟨GP, k7, (PySem.W.mg_of X G a7), b7⟩ ⟨mkCD, a11, i11, kcCD⟩ GI (PySem.W.mg_of X G aD) b11 ⟨GB, ⟨a13, i13, k13⟩, b13⟩ ⟨GWr, ⟨a12, i12, k12⟩, b12⟩ ⟨GVe, ⟨a15, i15, k15⟩, b15⟩ ⟨GNo, ⟨a14, i14, k14⟩, b14⟩ ⟨GCfs, ⟨a16, i16, k16⟩, b16⟩ ⟨GFa, ⟨a17, i17, k17⟩, b17⟩ ⟨GDa, k4, (PySem.W.mg_of X G a4), b4⟩ ⟨GLf, k8, (PySem.W.mg_of X G a8), b8⟩ b_tuple b_range b_len b_list b_set mTor
theorem walk {l : PySem.W.OpenLaw} {q : Program} {loose : List Str} {XP : (Str → Option Value) → Heap → Prop} {YP : World → Heap → Prop} {d : DefRec} {K : Params → PySem.W.Frag} (hn : l.most = some 63) (hdf : d.params.defaults = []) (hrec : ((recsOf q).any fun e => e.name == d.name) = true)
    (hY : ∀ (w : World) (h : Heap), YP w h → (K w.params).In h)
    (F : ∀ (w : World) (mg : Str → Option Value) (fa : Addr) (h : Heap), (K w.params).In h → h.Ns mainGlobals mg → mg d.name = some (.ref fa) → LamX.OwnTab (K w.params) fa h → LamX.LawAtS l w (K w.params) CX0 7 63 "script" mg fa h) :
    PySem.W.WalkO q loose XP YP l.row.toRowW d [] (fun f vs => PySem.call f vs) :=
  LamX.walk_ofOwn (n := 63) (k := 7) (x := "script") (CX := fun _ => CX0) hn (by decide) hdf ⟨rfl, by decide, by decide⟩ hrec hY (fun w mg fa h _ => F w mg fa h) fun _ _ _ _ _ z => z
end Pf

set_option Elab.async false
open PySem PySem.W PyProof.Rows
set_option maxRecDepth 100000 in
set_option maxHeartbeats 0 in
theorem PySem.Challenge.cw_plugproof_k02_whole_disk_falls_holds : PySem.Challenge.rw_plugproof_k02_whole_disk_falls.Holds := by
  w_on; o_law; k_head; (case hw => w_witness2)
  k_fill
  refine Pf.walk (l := PySem.Challenge.rw_plugproof_k02_whole_disk_falls) rfl rfl (by rfl) (fun w h Y => PySem.W.km_in_of Y) ?F
  case F =>
    intro w mg fa h KX G hmg own
    refine' Pf.all_mk KX G hmg own ?aD ?a0 ?l0 ?lT ?c0 ?k0 ?a1 ?l1 ?c1 ?k1 ?a2 ?l2 ?c2 ?k2 ?a3 ?l3 ?c3 ?k3 ?a4 ?l4 ?c4 ?k4 ?a5 ?l5 ?c5 ?k5 ?a6 ?l6 ?c6 ?k6 ?a7 ?l7 ?c7 ?k7 ?a8 ?l8 ?c8 ?k8 ?a9 ?l9 ?c9 ?k9 ?a10 ?l10 ?c10 ?k10 ?a11 ?i11 ?l11 ?c11 ?k11 ?a12 ?i12 ?l12 ?c12 ?k12 ?a13 ?i13 ?l13 ?c13 ?k13 ?a14 ?i14 ?l14 ?c14 ?k14 ?a15 ?i15 ?l15 ?c15 ?k15 ?a16 ?i16 ?l16 ?c16 ?k16 ?a17 ?i17 ?l17 ?c17 ?k17 ?a18 ?i18 ?l18 ?c18 ?k18 ?a19 ?i19 ?l19 ?c19 ?k19 ?pgCD ?hdCD ?poCD ?saCD ?mkCD ?kcCD ?n_many ?n_settled ?n_loose ?z_isinstance ?z_int ?z_bool ?z_tuple ?z_len ?z_all ?z_enumerate ?z_range ?z_list ?z_abs ?z_set ?aR01 ?xR1 ?saR1 ?gaR1 ?ggR1 ?nwR1 ?iR1 ?tR1 ?lR1 ?cR1 ?kR1 ?eR1 ?tcR1 ?hR1 ?icR1 ?sR1 ?aR02 ?xR2 ?saR2 ?gaR2 ?ggR2 ?nwR2 ?iR2 ?tR2 ?lR2 ?cR2 ?kR2 ?eR2 ?tcR2 ?hR2 ?icR2 ?sR2 ?aR03 ?xR3 ?saR3 ?gaR3 ?ggR3 ?nwR3 ?iR3 ?tR3 ?lR3 ?cR3 ?kR3 ?eR3 ?tcR3 ?hR3 ?icR3 ?sR3 ?q12 ?q32 ?q31 ?vTor ?lcL ?v11 ?v11b ?v18 ?v7 ?v9 ?v10 ?nPT
    (case aD => k_is)
    (case a0 => k_is)
    (case l0 => k_is)
    (case lT => k_is)
    (case c0 => k_is)
    (case k0 => k_is)
    (case a1 => k_is)
    (case l1 => k_is)
    (case c1 => k_is)
    (case k1 => k_is)
    (case a2 => k_is)
    (case l2 => k_is)
    (case c2 => k_is)
    (case k2 => k_is)
    (case a3 => k_is)
    (case l3 => k_is)
    (case c3 => k_is)
    (case k3 => k_is)
    (case a4 => k_is)
    (case l4 => k_is)
    (case c4 => k_is)
    (case k4 => k_is)
    (case a5 => k_is)
    (case l5 => k_is)
    (case c5 => k_is)
    (case k5 => k_is)
    (case a6 => k_is)
    (case l6 => k_is)
    (case c6 => k_is)
    (case k6 => k_is)
    (case a7 => k_is)
    (case l7 => k_is)
    (case c7 => k_is)
    (case k7 => k_is)
    (case a8 => k_is)
    (case l8 => k_is)
    (case c8 => k_is)
    (case k8 => k_is)
    (case a9 => k_is)
    (case l9 => k_is)
    (case c9 => k_is)
    (case k9 => k_is)
    (case a10 => k_is)
    (case l10 => k_is)
    (case c10 => k_is)
    (case k10 => k_is)
    (case a11 => k_is)
    (case i11 => k_is)
    (case l11 => k_is)
    (case c11 => k_is)
    (case k11 => k_is)
    (case a12 => k_is)
    (case i12 => k_is)
    (case l12 => k_is)
    (case c12 => k_is)
    (case k12 => k_is)
    (case a13 => k_is)
    (case i13 => k_is)
    (case l13 => k_is)
    (case c13 => k_is)
    (case k13 => k_is)
    (case a14 => k_is)
    (case i14 => k_is)
    (case l14 => k_is)
    (case c14 => k_is)
    (case k14 => k_is)
    (case a15 => k_is)
    (case i15 => k_is)
    (case l15 => k_is)
    (case c15 => k_is)
    (case k15 => k_is)
    (case a16 => k_is)
    (case i16 => k_is)
    (case l16 => k_is)
    (case c16 => k_is)
    (case k16 => k_is)
    (case a17 => k_is)
    (case i17 => k_is)
    (case l17 => k_is)
    (case c17 => k_is)
    (case k17 => k_is)
    (case a18 => k_is)
    (case i18 => k_is)
    (case l18 => k_is)
    (case c18 => k_is)
    (case k18 => k_is)
    (case a19 => k_is)
    (case i19 => k_is)
    (case l19 => k_is)
    (case c19 => k_is)
    (case k19 => k_is)
    (case pgCD => k_is)
    (case hdCD => k_is)
    (case poCD => k_is)
    (case saCD => k_is)
    (case mkCD => k_is)
    (case kcCD => k_is)
    (case n_many => k_is)
    (case n_settled => k_is)
    (case n_loose => k_is)
    (case z_isinstance => k_is)
    (case z_int => k_is)
    (case z_bool => k_is)
    (case z_tuple => k_is)
    (case z_len => k_is)
    (case z_all => k_is)
    (case z_enumerate => k_is)
    (case z_range => k_is)
    (case z_list => k_is)
    (case z_abs => k_is)
    (case z_set => k_is)
    (case aR01 => k_is)
    (case xR1 => k_is)
    (case saR1 => k_is)
    (case gaR1 => k_is)
    (case ggR1 => k_is)
    (case nwR1 => k_is)
    (case iR1 => k_is)
    (case tR1 => k_is)
    (case lR1 => k_is)
    (case cR1 => k_is)
    (case kR1 => k_is)
    (case eR1 => k_is)
    (case tcR1 => k_is)
    (case hR1 => k_is)
    (case icR1 => k_is)
    (case sR1 => first | rfl | k_is)
    (case aR02 => k_is)
    (case xR2 => k_is)
    (case saR2 => k_is)
    (case gaR2 => k_is)
    (case ggR2 => k_is)
    (case nwR2 => k_is)
    (case iR2 => k_is)
    (case tR2 => k_is)
    (case lR2 => k_is)
    (case cR2 => k_is)
    (case kR2 => k_is)
    (case eR2 => k_is)
    (case tcR2 => k_is)
    (case hR2 => k_is)
    (case icR2 => k_is)
    (case sR2 => first | rfl | k_is)
    (case aR03 => k_is)
    (case xR3 => k_is)
    (case saR3 => k_is)
    (case gaR3 => k_is)
    (case ggR3 => k_is)
    (case nwR3 => k_is)
    (case iR3 => k_is)
    (case tR3 => k_is)
    (case lR3 => k_is)
    (case cR3 => k_is)
    (case kR3 => k_is)
    (case eR3 => k_is)
    (case tcR3 => k_is)
    (case hR3 => k_is)
    (case icR3 => k_is)
    (case sR3 => first | rfl | k_is)
    (case q12 => first | rfl | k_is)
    (case q32 => first | rfl | k_is)
    (case q31 => first | rfl | k_is)
    (case vTor => k_is)
    (case lcL => k_is)
    (case v11 => first | rfl | k_is)
    (case v11b => first | rfl | k_is)
    (case v18 => first | rfl | k_is)
    (case v7 => first | rfl | k_is)
    (case v9 => first | rfl | k_is)
    (case v10 => first | rfl | k_is)
    (case nPT => first | rfl | k_is)
