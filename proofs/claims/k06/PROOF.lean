import PyProof.Rows.All
import Wide.All
import OpenK.AllK
import Wide.FinOn
import KE.KStateDown
import HandS.ForMost
import HandS.Style
import HandS.Strs
import HandS.Zip
import HandS.NoneIn
import HandS.DictComp
import HandS.IsInst
import HandS.Flow
import PyProof.StrOps2
import HandS.Walk
import KE.KxText
import KE.GoesMore
import KE.GoesZip
import PyProof.Rows.SetFrom
import HandS.List
import HandS.SortRule
import HandS.Comp
import HandS.SortKw
import KE.GoesEnum
import HandS.Wide
import HandS.WideBits
import HandS.ExcInit
import HandS.Deep
import HandS.Head0
import HandS.Head1
import HandS.Head2
import HandS.HeadHook1
import PySem.Challenge.RW_givenout_k06_houses_by_hand
set_option Elab.async false
set_option linter.all false
set_option maxRecDepth 100000
set_option maxHeartbeats 4000000
/-! Lines of a text, taken one behind the other. -/
namespace Hx
open PySem PySem.Spec PyProof.Rows L2
def top (i : Nat) : Stmt := PySem.Challenge.pw_givenout_k06_houses_by_hand.main.body.getD i (.Pass ⟨0, 0, 0, 0⟩)
abbrev sIsName : Stmt := top 7
abbrev sNumberOf : Stmt := top 8
abbrev sLinesInit : Stmt := inClass (top 9) 0
abbrev sNeed : Stmt := inClass (top 9) 1
abbrev sWordsAhead : Stmt := inClass (top 9) 2
abbrev sIsNext : Stmt := inClass (top 9) 3
abbrev sIsMore : Stmt := inClass (top 9) 4
abbrev sTake : Stmt := inClass (top 9) 5
abbrev sExactly : Stmt := inClass (top 9) 6
abbrev sTakeEnd : Stmt := inClass (top 9) 7
abbrev sNewName : Stmt := inClass (top 9) 8
abbrev sPlace : Stmt := inClass (top 9) 9
abbrev sNumberFrom : Stmt := inClass (top 9) 10

theorem sz {n : Nat} (h : n ≤ 1000) : n ≤ sizeLine := Nat.le_of_lt (small1000 h)
theorem same_new {H : Hp} {p : Addr} (h : H p = none) (o : HO) : Same H (upd H p o) := fun b u q => by rw [upd_ne (ne_of_none q h)]; exact q
theorem same_sql {K : PySem.W.Frag} {H H' : Hp} {a : Addr} {xs : List V} (s : Same H H') (h : SqL K H a xs) : SqL K H' a xs := by
  rcases h with (h | ⟨o, h⟩) | h
  · exact .inl (.inl (s _ _ h))
  · exact .inl (.inr ⟨o, s _ _ h⟩)
  · exact .inr h
theorem same_sqt {K : PySem.W.Frag} {H H' : Hp} {a : Addr} {xs : List V} (s : Same H H') (h : SqT K H a xs) : SqT K H' a xs := by
  rcases h with (h | ⟨o, h⟩) | h
  · exact .inl (.inl (s _ _ h))
  · exact .inl (.inr ⟨o, s _ _ h⟩)
  · exact .inr h
theorem sqt_upd {K : PySem.W.Frag} {H : Hp} {a p C dx : Addr} {fs : List (Str × V)} {o : HO} {xs : List V} (e : H p = some (.ins C dx fs)) (h : SqT K H a xs) : SqT K (upd H p o) a xs := by
  rcases h with (h | ⟨o', h⟩) | h
  · exact .inl (.inl (by rw [upd_ne (fun z => by rw [z, e] at h; cases h)]; exact h))
  · exact .inl (.inr ⟨o', by rw [upd_ne (fun z => by rw [z, e] at h; cases h)]; exact h⟩)
  · exact .inr h
theorem same_refl (H : Hp) : Same H H := fun _ _ e => e
/-- all but p stands -/
def Bar (p : Addr) (H H' : Hp) : Prop := ∀ b o, b ≠ p → H b = some o → H' b = some o
theorem Bar.trans {p : Addr} {H H1 H2 : Hp} (a : Bar p H H1) (b : Bar p H1 H2) : Bar p H H2 := fun c o n e => b c o n (a c o n e)
theorem Bar.upd (p : Addr) (H : Hp) (o : HO) : Bar p H (upd H p o) := fun b u n e => by rw [upd_ne n]; exact e
theorem Bar.of {p : Addr} {H H' : Hp} (s : Same H H') : Bar p H H' := fun b o _ e => s b o e
theorem ite2 {A B : Prop} {c : Bool} (h1 : c = true → A) (h2 : c = false → B) : if c = true then A else B := by
  cases c with
  | true => exact iteT (h1 rfl)
  | false => exact iteF (h2 rfl)

/-! ### "  " * depth -/
section
variable {X : Cx}
theorem op_repS : OpR X (binaryOp .Mult) (fun x y H Q => ∃ (z : Str) (k : Int), x = .str z ∧ y = .int k ∧ (k = 0 ∨ k = 1) ∧ Q (.str (if k = 0 then Str.empty else z)) H) := by
  intro pins s σ H x y v u Q I rx ry h
  obtain ⟨z, k, rfl, rfl, hk, q⟩ := h
  obtain ⟨t, rfl⟩ := rx
  obtain ⟨t', rfl⟩ := ry
  rcases hk with rfl | rfl
  · exact PySem.P.mul_str_none (by decide) (by decide) ⟨.str Str.empty, H, I.tok _, ⟨_, rfl⟩, q⟩
  · refine PySem.P.mul_str (by decide) (fun _ h => absurd h (by simp)) (fun _ h => absurd h (by simp)) ?_
    rw [if_neg (by decide), if_pos (by simp)]
    exact ⟨.str z, H, I, ⟨_, rfl⟩, q⟩
end

/-! ### the words ahead -/
def ind (d : Int) : Str := if d = 0 then Str.empty else "  "
def ahead (rows : List Str) (n : Nat) (d : Int) : List Str := match rows[n]? with
  | none => []
  | some r => if Txt.startswith r (ind d) = true then Txt.split (cutS r (some (2 * d)) none) " " else []
/-- the object that takes lines: C its class, R its list of rows -/
structure LinesAt (C : Addr) (H : Hp) (L : Addr) (rows : List Str) (n : Nat) : Prop where
  ob : ∃ dx R, H L = some (.ins C dx [("rows", .ref R), ("number", .int n)]) ∧ H R = some (.lst (rows.map V.str))
  few : rows.length ≤ 900
  short : ∀ r ∈ rows, r.length ≤ 900
theorem LinesAt.same {C : Addr} {H H' : Hp} {L : Addr} {rows : List Str} {n : Nat} (s : Same H H') (h : LinesAt C H L rows n) : LinesAt C H' L rows n := by
  obtain ⟨⟨dx, R, e1, e2⟩, f, g⟩ := h
  exact ⟨⟨dx, R, s _ _ e1, s _ _ e2⟩, f, g⟩
/-- what the text tells of the class -/
structure LTxt (K : PySem.W.Frag) (mg : Str → Option Value) (C : Addr) : Prop where
  cl : Cls K C
  nR : NoAttr K C "rows"
  nN : NoAttr K C "number"
  mgC : mg "Lines" = some (.ref C)
  len : mg "len" = none
  all : mg "all" = none
  int : mg "int" = none
section
variable {P : Program} {w : World} {K : PySem.W.Frag} {mg : Str → Option Value} {base : Heap} {C : Addr}
def spAhead (C : Addr) : Sp := fun vs H Q _ => ∃ (L : Addr) (d : Int) (rows : List Str) (n : Nat), vs = [.ref L, .int d] ∧ LinesAt C H L rows n ∧ (d = 0 ∨ d = 1) ∧ n ≤ rows.length ∧
  ∀ (p : Addr) (H' : Hp), Same H H' → H p = none → H' p = some (.lst ((ahead rows n d).map V.str)) → Q (.ref p) H'
theorem scAhead : FnScope ["self", "depth", "row"] ["self", "depth"] (defScope sWordsAhead) := ⟨rfl, rfl, rfl, by decide +kernel, rfl, by decide +kernel, by decide +kernel⟩
theorem cut_len (z : Str) (lo hi : Option Int) : (cutS z lo hi).length ≤ z.length := by
  unfold cutS
  show ((z.cps.toList.drop _).take _).toArray.size ≤ z.cps.size
  rw [List.size_toArray, List.length_take, List.length_drop, Array.length_toList]
  omega
theorem ok_ahead {f : Addr} {fd : FuncData} (F : Fun K "words_ahead" "Lines.words_ahead" sWordsAhead f fd) (T : LTxt K mg C) : FnOk P w K mg base CX0 1 f fd ["self", "depth"] (spAhead C) := by
  refine F.ok scAhead (fun vs H Q E h => ?_) (fun cdv A outer s H vs Q E hr h => ?_)
  · obtain ⟨L, d, rows, n, rfl, _⟩ := h
    rfl
  obtain ⟨L, d, rows, n, rfl, LA, hd, hn, k⟩ := h
  obtain ⟨⟨dx, R, e1, e2⟩, few, short⟩ := id LA
  have nd := scAhead.nd
  refine ⟨_, pss_cons (ps_if (pt_cmpR op_eq (pe_fld (pv 0) rfl) (pe_callB call_len_seq rfl T.len PySem.boot_len (pa_cons (pe_fld (pv 0) rfl) pa_nil)) (nomark _)) (pss_one (ps_ret (pe_lst pa_nil))) pss_nil)
    (pss_cons (ps_set (i := 2) nd rfl (.inl rfl) (pe_ix ix_list (pe_fld (pv 0) rfl) (pe_fld (pv 0) rfl) (fun _ _ => rfl)))
    (pss_cons (ps_if (pt_not (pt_val (pe_m1 PySem.F.slot_str_startswith PySem.F.type_str_startswith mt_startswith (pv 2) (pe_op op_repS pe_str (pv 1))))) (pss_one (ps_ret (pe_lst pa_nil))) pss_nil)
    (pss_one (ps_ret (pe_split (pe_slice sl_str (pv 2) (po_some (pe_op op_mul pe_int (pv 1))) po_none) pe_str))))), ?_⟩
  refine ⟨_, rfl, L, C, dx, _, _, rfl, e1, T.cl, T.nN, rfl, _, rfl, L, C, dx, _, _, rfl, e1, T.cl, T.nR, rfl, R, _, rfl, .inl (SqL.of e2), rfl, _, rfl, ?_⟩
  refine ite2 (fun c => ?_) (fun c => ?_)
  · refine ⟨sz (by decide : 0 ≤ 1000), fun p hp => ?_⟩
    have c' : V.int (n : Int) = V.int ((rows.map V.str).length : Nat) := of_decide_eq_true c
    rw [List.length_map] at c'
    have e : n = rows.length := by
      have z := V.int.inj c'
      omega
    have ea : ahead rows n d = [] := by
      unfold ahead
      rw [e, List.getElem?_eq_none (Nat.le_refl _)]
    refine k p _ (same_new hp _) hp ?_
    rw [ea]
    exact upd_same
  · have c' : ¬ V.int (n : Int) = V.int ((rows.map V.str).length : Nat) := of_decide_eq_false c
    rw [List.length_map] at c'
    have lt : n < rows.length := by
      rcases Nat.lt_or_ge n rows.length with z | z
      · exact z
      · exact absurd (by rw [show n = rows.length by omega]) c'
    have er : rows[n]? = some rows[n] := List.getElem?_eq_getElem lt
    have at_n := atI_nat (xs := rows.map V.str) (j := n) (v := .str rows[n]) (by rw [List.getElem?_map, er] <;> rfl)
    have sh := short rows[n] (List.getElem_mem lt)
    generalize eR : rows[n] = r at *
    refine ⟨_, rfl, L, C, dx, _, _, rfl, e1, T.cl, T.nR, rfl, _, rfl, L, C, dx, _, _, rfl, e1, T.cl, T.nN, rfl, R, _, _, _, rfl, rfl, SqL.of e2, at_n, ?_⟩
    refine ⟨_, rfl, ⟨_, rfl⟩, _, rfl, _, d, rfl, rfl, hd, r, ind d, rfl, rfl, _, rfl, ?_⟩
    refine ite2 (fun c2 => ?_) (fun c2 => ?_)
    · refine ⟨sz (by decide : 0 ≤ 1000), fun p hp => ?_⟩
      have ea : ahead rows n d = [] := by
        unfold ahead
        rw [er]
        show (if Txt.startswith r (ind d) = true then _ else []) = []
        rw [if_neg (by rw [Bool.not_eq_true'] at c2; rw [c2]; decide)]
      refine k p _ (same_new hp _) hp ?_
      rw [ea]
      exact upd_same
    · have ea : ahead rows n d = Txt.split (cutS r (some (2 * d)) none) " " := by
        unfold ahead
        rw [er]
        show (if Txt.startswith r (ind d) = true then _ else []) = _
        rw [if_pos (by rw [Bool.not_eq_false'] at c2; exact c2)]
      have cl := cut_len r (some (2 * d)) none
      refine ⟨_, rfl, _, rfl, _, _, rfl, rfl, .inl ⟨by decide, by decide⟩, _, rfl, r, rfl, sz (by omega), ⟨_, rfl⟩, cutS r (some (2 * d)) none, " ", rfl, rfl, rfl, sz (by omega), fun p hp => ?_⟩
      refine k p _ (same_new hp _) hp ?_
      rw [ea]
      exact upd_same
end
end Hx
set_option maxRecDepth 100000
set_option maxHeartbeats 4000000
namespace Hx
open PySem PySem.Spec PyProof.Rows L2
/-! ### names and numbers -/
def nameB (w : Str) : Bool := decide (1 ≤ w.length) && (decide (w.length ≤ 8) && w.cps.toList.all fun c => decide (97 ≤ c) && decide (c ≤ 122))
def digitB (w : Str) : Bool := decide (w.length = 1) && w.cps.toList.all fun c => decide (48 ≤ c) && decide (c ≤ 57)
theorem set2 {σ : L2.St} {i : Nat} {x : V} : wipe ((wipe σ [i]).set i (some x)) [i] = wipe σ [i] := by simp [wipe]
theorem yes {σ : L2.St} {H : Hp} {A B : Hp → Prop} (h : A H) : tYes σ H fun b H3 => if b = true then A H3 else B H3 := by
  show if true = true then A H else B H
  rw [if_pos rfl]
  exact h
theorem get_same {σ : L2.St} {i : Nat} {x : V} (h : i < σ.length) : ((wipe σ [i]).set i (some x))[i]? = some (some x) := by
  simp [wipe, h]
theorem get_other {σ : L2.St} {i j : Nat} {x : V} {y : Option V} (h : σ[j]? = some y) (n : i ≠ j) : ((wipe σ [i]).set i (some x))[j]? = some y := by
  simp [wipe, List.getElem?_set_ne n, h]
theorem same_grow {H H' : Hp} {D : Addr} {o : HO} (hD : H D = none) (s : Same H H') : Same H (upd H' D o) := fun b u e => by
  rw [upd_ne (ne_of_none e hD)]
  exact s b u e
/-- all([sign in z for sign in x]) -/
theorem lc_signs {K : PySem.W.Frag} {σ : L2.St} {H : Hp} {x z : Str} {Q : VK} (e0 : σ[0]? = some (some (.str x))) (h1 : 1 < σ.length) (hz : x.length ≤ 900) (hx : ∀ c ∈ x.cps.toList, c ∈ z.cps.toList) (k : ∀ H', Same H H' → Q (.bl true) H') :
    tCB (rAll K) (tCons (tLc (iStr (tVar 0)) (gName 1) tYes (tOp (fun x y H Q => ∃ (c : Nat) (z : Str), x = .str ⟨#[c]⟩ ∧ y = .str z ∧ Q (.bl (decide (c ∈ z.cps.toList))) H) (tVar 1) (tC (.str z))) [1]) tNil) σ H Q := by
  refine ⟨_, e0, x, rfl, fun D hD => lc_it walk_str (fun i H' => Same H H' ∧ H' D = some (.lst ((List.replicate i true).map V.bl))) ⟨same_new hD _, upd_same⟩ (fun _ _ _ _ => trivial) ?_ ?_⟩
  · rintro i y H' H'' hi ⟨sm, eD⟩ ⟨rfl, c, ec, rfl⟩
    have hc : c ∈ x.cps.toList := by
      rw [Array.mem_toList_iff]
      exact Array.mem_of_getElem? ec
    refine ⟨set2, yes ⟨_, get_same h1, c, z, rfl, rfl, _, eD, ?_, same_grow hD sm, ?_⟩⟩
    · rw [List.length_map, List.length_replicate]
      exact small1000 (by have : x.cps.size ≤ 900 := hz; omega)
    · rw [upd_same, decide_eq_true (hx c hc), List.replicate_succ', List.map_append]
      rfl
  · rintro H' ⟨sm, eD⟩
    refine ⟨D, _, rfl, SqL.of eD, ?_⟩
    have e : (List.replicate x.cps.size true).all id = true := by simp
    rw [e]
    exact k H' sm
theorem letters : ∀ c < 123, 97 ≤ c → c ∈ ("abcdefghijklmnopqrstuvwxyz" : Str).cps.toList := by decide +kernel
theorem digits : ∀ c < 58, 48 ≤ c → c ∈ ("0123456789" : Str).cps.toList := by decide +kernel
theorem name_is {x : Str} (h : nameB x = true) : 1 ≤ x.length ∧ x.length ≤ 8 ∧ ∀ c ∈ x.cps.toList, 97 ≤ c ∧ c ≤ 122 := by
  unfold nameB at h
  simp only [Bool.and_eq_true, decide_eq_true_eq, List.all_eq_true] at h
  exact h
theorem digit_is {x : Str} (h : digitB x = true) : x.length = 1 ∧ ∀ c ∈ x.cps.toList, 48 ≤ c ∧ c ≤ 57 := by
  unfold digitB at h
  simp only [Bool.and_eq_true, decide_eq_true_eq, List.all_eq_true] at h
  exact h
theorem dp_words {K : PySem.W.Frag} (H : Hp) : ∀ xs : List Str, DpAll K H (xs.map V.str) (xs.map PyData.str)
  | [] => .nil
  | x :: r => .cons (.str x) (dp_words H r)
theorem flat_words : ∀ xs : List Str, (xs.map V.str).all flatV = true
  | [] => rfl
  | _ :: r => flat_words r
theorem lay_words : ∀ {xs : List Str}, (∀ x ∈ xs, PyData.strOk x = true) → PyData.canLayAll0 (xs.map PyData.str) = true ∧ PyData.depthAll (xs.map PyData.str) ≤ 1
  | [], _ => ⟨rfl, by decide⟩
  | x :: r, h => by
    obtain ⟨h1, h2⟩ := lay_words (xs := r) fun z hz => h z (List.mem_cons_of_mem _ hz)
    have hx := h x (List.mem_cons_self ..)
    refine ⟨?_, ?_⟩
    · simp [PyData.canLayAll0, PyData.canLay0, hx, h1]
    · simp [PyData.depthAll, PyData.depth, h2]
theorem shaped_words {xs : List Str} (h : ∀ x ∈ xs, PyData.strOk x = true) : SeqAt.shaped (.list (xs.map PyData.str)) = true := by
  obtain ⟨h1, h2⟩ := lay_words h
  unfold SeqAt.shaped
  have a : PyData.canLay0 (.list (xs.map PyData.str)) = true := by simpa [PyData.canLay0] using h1
  have b : PyData.depth (.list (xs.map PyData.str)) ≤ 64 := by
    have e : PyData.depth (.list (xs.map PyData.str)) = 1 + PyData.depthAll (xs.map PyData.str) := by simp [PyData.depth, Nat.add_comm]
    omega
  rw [a, decide_eq_true b]
  rfl
theorem in_words (y : Str) (xs : List Str) : inV (.str y) (xs.map V.str) = decide (y ∈ xs) := by
  induction xs with
  | nil => rfl
  | cons x r ih =>
    show (eqV (.str x) (.str y) || inV (.str y) (r.map V.str)) = _
    rw [ih]
    have e : eqV (.str x) (.str y) = decide (y = x) := by
      show (x == y) = _
      by_cases h : y = x
      · rw [h]; simp
      · simp [h, Ne.symm h]
    rw [e]
    simp [List.mem_cons]
section
variable {P : Program} {w : World} {K : PySem.W.Frag} {mg : Str → Option Value} {base : Heap} {C : Addr}
/-- is_name of a name -/
def spName : Sp := fun vs H Q _ => ∃ (x : Str), vs = [.str x] ∧ nameB x = true ∧ ∀ H', Same H H' → Q (.bl true) H'
theorem scName : FnScope ["word", "sign"] ["word"] (defScope sIsName) := ⟨rfl, rfl, rfl, by decide +kernel, rfl, by decide +kernel, by decide +kernel⟩
theorem ok_name {f : Addr} {fd : FuncData} (F : Fun K "is_name" "is_name" sIsName f fd) (ml : mg "len" = none) (ma : mg "all" = none) : FnOk P w K mg base CX0 1 f fd ["word"] spName := by
  refine F.ok scName (fun vs H Q E h => ?_) (fun cdv A outer s H vs Q E hr h => ?_)
  · obtain ⟨x, rfl, _⟩ := h
    rfl
  obtain ⟨x, rfl, hx, k⟩ := h
  have nd := scName.nd
  refine ⟨_, pss_one (ps_ret (pe_and (pe_chain op_le op_le pe_int (pe_callB call_len_str rfl ml PySem.boot_len (pa_cons (pv 0) pa_nil)) pe_int) (pe_one (pe_callB (cr_all rfl) rfl ma PyProof.Rows.boot_all (pa_cons
    (pe_lc (own := [("sign", 1)]) (g := gName 1) (tt := tYes) rfl nd (pi_str (pv 0)) (blkOk_by (N := ["word", "sign"]) (sc := defScope sIsName) (by decide +kernel)) (fun _ _ _ _ _ => pg_name (i := 1) nd rfl (Or.inl rfl)) (fun _ _ _ _ _ => pts_nil)
      (fun _ _ _ _ _ => pe_cmpR op_in_sign (pv 1) pe_str (by rfl))) pa_nil))))), ?_⟩
  obtain ⟨l1, l8, hc⟩ := name_is hx
  refine ⟨_, rfl, x, rfl, sz (by omega), _, _, rfl, rfl, _, rfl, ?_⟩
  refine ite2 (fun _ => ?_) (fun c => absurd (of_decide_eq_false c) (by omega))
  refine ⟨_, _, rfl, rfl, _, rfl, ?_⟩
  refine ite2 (fun _ => ?_) (fun c => absurd (of_decide_eq_false c) (by omega))
  exact lc_signs rfl (by show 1 < 2; decide) (by omega) (fun c hc' => letters c (by have := hc c hc'; omega) (hc c hc').1) k
/-- number_of a digit -/
def spNumOf : Sp := fun vs H Q _ => ∃ (x : Str) (n : Int), vs = [.str x] ∧ digitB x = true ∧ PySem.intText? x = some n ∧ ∀ H', Same H H' → Q (.int n) H'
theorem scNumOf : FnScope ["word", "sign"] ["word"] (defScope sNumberOf) := ⟨rfl, rfl, rfl, by decide +kernel, rfl, by decide +kernel, by decide +kernel⟩
theorem ok_numOf {f : Addr} {fd : FuncData} (F : Fun K "number_of" "number_of" sNumberOf f fd) (ml : mg "len" = none) (ma : mg "all" = none) (mi : mg "int" = none) : FnOk P w K mg base CX0 1 f fd ["word"] spNumOf := by
  refine F.ok scNumOf (fun vs H Q E h => ?_) (fun cdv A outer s H vs Q E hr h => ?_)
  · obtain ⟨x, n, rfl, _⟩ := h
    rfl
  obtain ⟨x, n, rfl, hx, hn, k⟩ := h
  have nd := scNumOf.nd
  refine ⟨_, pss_cons (ps_if (PW.pt (pw_or (pt_not (pt_chain op_le op_le pe_int (pe_callB call_len_str rfl ml PySem.boot_len (pa_cons (pv 0) pa_nil)) pe_int)) (pw_or1 (pt_not (pt_val (pe_callB (cr_all rfl) rfl ma PyProof.Rows.boot_all (pa_cons
      (pe_lc (own := [("sign", 1)]) (g := gName 1) (tt := tYes) rfl nd (pi_str (pv 0)) (blkOk_by (N := ["word", "sign"]) (sc := defScope sNumberOf) (by decide +kernel)) (fun _ _ _ _ _ => pg_name (i := 1) nd rfl (Or.inl rfl)) (fun _ _ _ _ _ => pts_nil)
      (fun _ _ _ _ _ => pe_cmpR op_in_sign (pv 1) pe_str (by rfl))) pa_nil))))))) pss_never pss_nil)
    (pss_cons (ps_if (PW.pt (pw_and (pt_cmpR op_gt (pe_callB call_len_str rfl ml PySem.boot_len (pa_cons (pv 0) pa_nil)) pe_int (nomark _)) (pw_and1 (pt_cmpR op_eq (pe_item_str (pv 0) pe_int (fun _ _ => rfl)) pe_str (nomark _))))) pss_never pss_nil)
    (pss_one (ps_ret (pe_callTy call_int_str rfl mi PyProof.Rows.Boot.«int» (pa_cons (pv 0) pa_nil))))), ?_⟩
  obtain ⟨l1, hc⟩ := digit_is hx
  refine ⟨_, rfl, x, rfl, sz (by omega), _, _, rfl, rfl, _, rfl, ?_⟩
  refine ite2 (fun _ => ?_) (fun c => absurd (of_decide_eq_false c) (by omega))
  refine ⟨_, _, rfl, rfl, _, rfl, ?_⟩
  have e1 : (decide (1 ≤ (x.length : Int)) && decide ((x.length : Int) ≤ 9)) = true := by
    rw [decide_eq_true (by omega), decide_eq_true (by omega)]
    rfl
  show if (!decide ((x.length : Int) ≤ 9)) = true then _ else _
  rw [decide_eq_true (by omega : (x.length : Int) ≤ 9)]
  refine iteF ?_
  refine lc_signs rfl (by show 1 < 2; decide) (by omega) (fun c hc' => digits c (by have := hc c hc'; omega) (hc c hc').1) fun H1 s1 => ?_
  refine ⟨_, rfl, iteF ?_⟩
  refine ⟨_, rfl, x, rfl, sz (by omega), _, _, rfl, rfl, _, rfl, ?_⟩
  rw [decide_eq_false (by omega : ¬ (1 : Int) < (x.length : Int))]
  refine iteF ?_
  exact ⟨_, rfl, x, n, rfl, hn, by omega, k H1 s1⟩
/-! ### need -/
def spNeed : Sp := fun vs H Q _ => ∃ (L : Addr), vs = [.ref L, .bl true] ∧ Q .non H
theorem scNeed : FnScope ["self", "holds"] ["self", "holds"] (defScope sNeed) := ⟨rfl, rfl, rfl, by decide +kernel, rfl, by decide +kernel, by decide +kernel⟩
theorem ok_need {f : Addr} {fd : FuncData} (F : Fun K "need" "Lines.need" sNeed f fd) : FnOk P w K mg base CX0 1 f fd ["self", "holds"] spNeed := by
  refine F.ok scNeed (fun vs H Q E h => ?_) (fun cdv A outer s H vs Q E hr h => ?_)
  · obtain ⟨L, rfl, _⟩ := h
    rfl
  obtain ⟨L, rfl, k⟩ := h
  exact ⟨_, pss_one (ps_if (pt_not (pt_val (pv 1))) pss_never pss_nil), _, rfl, _, rfl, iteF k⟩
/-! ### is_next -/
/-- the words are plain signs, few -/
def nextB (ws : List Str) (xs : List Str) : Bool := match ws with
  | [] => false
  | x :: _ => decide (x ∈ xs)
def spNext (C : Addr) (K : PySem.W.Frag) : Sp := fun vs H Q _ => ∃ (L t : Addr) (d : Int) (rows xs : List Str) (n : Nat), vs = [.ref L, .int d, .ref t] ∧ LinesAt C H L rows n ∧ (d = 0 ∨ d = 1) ∧ n ≤ rows.length ∧ SqT K H t (xs.map V.str) ∧
  (∀ x ∈ ahead rows n d, PyData.strOk x = true) ∧ ∀ H', Same H H' → Q (.bl (nextB (ahead rows n d) xs)) H'
theorem scNext : FnScope ["self", "depth", "words", "ahead"] ["self", "depth", "words"] (defScope sIsNext) := ⟨rfl, rfl, rfl, by decide +kernel, rfl, by decide +kernel, by decide +kernel⟩
theorem ok_next {f fA : Addr} {fd dA : FuncData} (F : Fun K "is_next" "Lines.is_next" sIsNext f fd) (T : LTxt K mg C) (GA : FnOk P w K mg base CX0 1 fA dA ["self", "depth"] (spAhead C)) (bA : Binds K dA ["self", "depth"] []) (mA : Meth K C "words_ahead" fA) :
    FnOk P w K mg base CX0 2 f fd ["self", "depth", "words"] (spNext C K) := by
  refine F.ok scNext (fun vs H Q E h => ?_) (fun cdv A outer s H vs Q E hr h => ?_)
  · obtain ⟨L, t, d, rows, xs, n, rfl, _⟩ := h
    rfl
  obtain ⟨L, t, d, rows, xs, n, rfl, LA, hd, hn, ht, hw, k⟩ := h
  have nd := scNext.nd
  have hu := hr.units
  refine ⟨_, pss_cons (ps_set (i := 3) nd rfl (.inl rfl) (pe_meth (pv 0) T.cl mA GA hr bA .nil pass0 (pa_cons (pv 1) pa_nil)))
    (pss_one (ps_ret (pe_and (pe_cmpR (op_neD hu) (pv 3) (pe_lst pa_nil) (nomark _)) (pe_one (pe_cmpR op_in_seq (pe_ix ix_list (pv 3) pe_int (fun _ _ => rfl)) (pv 2) (by rfl)))))), ?_⟩
  obtain ⟨⟨dx, R, g1, g2⟩, few, short⟩ := id LA
  refine ⟨_, rfl, L, dx, _, rfl, g1, rfl, _, rfl, L, d, rows, n, rfl, LA, hd, hn, fun p H1 s1 np e1 => ?_⟩
  refine ⟨_, rfl, sz (by decide : 0 ≤ 1000), fun q hq => ?_⟩
  have e2 := same_new hq (.lst []) _ _ e1
  have s2 := s1.trans (same_new hq (.lst []))
  refine ⟨.list ((ahead rows n d).map PyData.str), .list [], .lst (SqL.of e2) (dp_words _ _), .lst (SqL.of upd_same) .nil, shaped_words hw, rfl, ?_⟩
  cases ea : ahead rows n d with
  | nil =>
    rw [ea] at k
    exact ⟨_, rfl, iteF (k _ s2)⟩
  | cons y r =>
    rw [ea] at k e2
    refine ⟨_, rfl, iteT ?_⟩
    refine ⟨_, rfl, p, _, 0, .str y, rfl, rfl, SqL.of e2, atI_nat (j := 0) rfl, _, rfl, t, _, rfl, .inr (same_sqt s2 ht), rfl, flat_words _, ?_⟩
    have e3 : inV (.str y) (xs.map V.str) = nextB (y :: r) xs := in_words _ _
    show Q (.bl (inV (.str y) (xs.map V.str))) _
    rw [e3]
    exact k _ s2
/-! ### is_more -/
def spMore (C : Addr) (K : PySem.W.Frag) : Sp := fun vs H Q _ => ∃ (L t l : Addr) (d : Int) (rows xs : List Str) (n : Nat) (found : List V) (least most : Int), vs = [.ref L, .int d, .ref t, .ref l, .int least, .int most] ∧ LinesAt C H L rows n ∧ (d = 0 ∨ d = 1) ∧ n ≤ rows.length ∧
  SqT K H t (xs.map V.str) ∧ (∀ x ∈ ahead rows n d, PyData.strOk x = true) ∧ SqL K H l found ∧
  ∀ H', Same H H' → Q (.bl (decide ((found.length : Int) < least) || (decide ((found.length : Int) < most) && nextB (ahead rows n d) xs))) H'
theorem scMore : FnScope ["self", "depth", "words", "found", "least", "most"] ["self", "depth", "words", "found", "least", "most"] (defScope sIsMore) := ⟨rfl, rfl, rfl, by decide +kernel, rfl, by decide +kernel, by decide +kernel⟩
theorem ok_more {f fN : Addr} {fd dN : FuncData} (F : Fun K "is_more" "Lines.is_more" sIsMore f fd) (T : LTxt K mg C) (GN : FnOk P w K mg base CX0 2 fN dN ["self", "depth", "words"] (spNext C K)) (bN : Binds K dN ["self", "depth", "words"] []) (mN : Meth K C "is_next" fN) :
    FnOk P w K mg base CX0 3 f fd ["self", "depth", "words", "found", "least", "most"] (spMore C K) := by
  refine F.ok scMore (fun vs H Q E h => ?_) (fun cdv A outer s H vs Q E hr h => ?_)
  · obtain ⟨L, t, l, d, rows, xs, n, found, least, most, rfl, _⟩ := h
    rfl
  obtain ⟨L, t, l, d, rows, xs, n, found, least, most, rfl, LA, hd, hn, ht, hw, hl, k⟩ := h
  refine ⟨_, pss_cons (ps_if (pt_cmpR op_lt (pe_callB call_len_seq rfl T.len PySem.boot_len (pa_cons (pv 3) pa_nil)) (pv 4) (nomark _)) (pss_one (ps_ret pe_bl)) pss_nil)
    (pss_one (ps_ret (pe_and (pe_cmpR op_lt (pe_callB call_len_seq rfl T.len PySem.boot_len (pa_cons (pv 3) pa_nil)) (pv 5) (nomark _)) (pe_one (pe_meth (pv 0) T.cl mN GN hr bN .nil pass0 (pa_cons (pv 1) (pa_cons (pv 2) pa_nil))))))), ?_⟩
  refine ⟨_, rfl, l, _, rfl, .inl hl, _, rfl, _, _, rfl, rfl, _, rfl, ?_⟩
  refine ite2 (fun c => ?_) (fun c => ?_)
  · rw [c, Bool.true_or] at k
    exact k H (same_refl H)
  · rw [c, Bool.false_or] at k
    refine ⟨_, rfl, l, _, rfl, .inl hl, _, rfl, _, _, rfl, rfl, _, rfl, ?_⟩
    refine ite2 (fun c2 => ?_) (fun c2 => ?_)
    · rw [c2, Bool.true_and] at k
      obtain ⟨⟨dx, R, g1, g2⟩, few, short⟩ := id LA
      exact ⟨_, rfl, L, dx, _, rfl, g1, rfl, _, rfl, _, rfl, L, t, d, rows, xs, n, rfl, LA, hd, hn, ht, hw, k⟩
    · rw [c2, Bool.false_and] at k
      exact k H (same_refl H)
end
end Hx
set_option maxRecDepth 100000
set_option maxHeartbeats 4000000
namespace Hx
open PySem PySem.Spec PyProof.Rows L2
section
variable {P : Program} {w : World} {K : PySem.W.Frag} {mg : Str → Option Value} {base : Heap} {C : Addr}
theorem ne_ {L : Addr} {b : Bool} (h : b = true) : [V.ref L, V.bl b] = [V.ref L, V.bl true] := by rw [h]
theorem eqV_str (x y : Str) : eqV (.str x) (.str y) = decide (x = y) := by
  show (x == y) = _
  by_cases h : x = y
  · rw [h]; simp
  · simp [h]
theorem first_of {names : List Str} {x : Str} {j : Nat} (hnd : names.Nodup) (hj : names[j]? = some x) : ∀ (m : Nat) (z' : V), m < j → (names.map V.str)[m]? = some z' → eqV z' (.str x) = false := fun m z' hm' ez => by
  rw [List.getElem?_map] at ez
  cases e : names[m]? with
  | none =>
    rw [e] at ez
    cases ez
  | some y =>
    rw [e] at ez
    cases ez
    rw [eqV_str]
    refine decide_eq_false fun z => ?_
    have q := nodup_ix hnd (by rw [e, z]) hj
    omega
/-! ### take -/
def spTake (C : Addr) (K : PySem.W.Frag) : Sp := fun vs H Q _ => ∃ (L t : Addr) (d : Int) (rows xs : List Str) (n : Nat), vs = [.ref L, .int d, .ref t] ∧ LinesAt C H L rows n ∧ (d = 0 ∨ d = 1) ∧ n ≤ rows.length ∧ SqT K H t (xs.map V.str) ∧
  (∀ x ∈ ahead rows n d, PyData.strOk x = true) ∧ nextB (ahead rows n d) xs = true ∧ ∀ p H', Bar L H H' → H p = none → p ≠ L → H' p = some (.lst ((ahead rows n d).map V.str)) → LinesAt C H' L rows (n + 1) → Q (.ref p) H'
theorem scTake : FnScope ["self", "depth", "words", "ahead"] ["self", "depth", "words"] (defScope sTake) := ⟨rfl, rfl, rfl, by decide +kernel, rfl, by decide +kernel, by decide +kernel⟩
theorem ok_take {f fA fN : Addr} {fd dA dN : FuncData} (F : Fun K "take" "Lines.take" sTake f fd) (T : LTxt K mg C) (GA : FnOk P w K mg base CX0 1 fA dA ["self", "depth"] (spAhead C)) (bA : Binds K dA ["self", "depth"] []) (mA : Meth K C "words_ahead" fA)
    (GN : FnOk P w K mg base CX0 1 fN dN ["self", "holds"] spNeed) (bN : Binds K dN ["self", "holds"] []) (mN : Meth K C "need" fN) :
    FnOk P w K mg base CX0 2 f fd ["self", "depth", "words"] (spTake C K) := by
  refine F.ok scTake (fun vs H Q E h => ?_) (fun cdv A outer s H vs Q E hr h => ?_)
  · obtain ⟨L, t, d, rows, xs, n, rfl, _⟩ := h
    rfl
  obtain ⟨L, t, d, rows, xs, n, rfl, LA, hd, hn, ht, hw, hx, k⟩ := h
  have nd := scTake.nd
  have hu := hr.units
  refine ⟨_, pss_cons (ps_set (i := 3) nd rfl (.inl rfl) (pe_meth (pv 0) T.cl mA GA hr bA .nil pass0 (pa_cons (pv 1) pa_nil)))
    (pss_cons (ps_fldaug (pv 0) pe_int in_add)
    (pss_cons (ps_expr (pe_meth (pv 0) T.cl mN GN hr bN .nil pass0 (pa_cons (pe_and (pe_cmpR (op_neD hu) (pv 3) (pe_lst pa_nil) (nomark _)) (pe_one (pe_cmpR op_in_seq (pe_ix ix_list (pv 3) pe_int (fun _ _ => rfl)) (pv 2) (by rfl)))) pa_nil)))
    (pss_one (ps_ret (pv 3))))), ?_⟩
  obtain ⟨⟨dx, R, g1, g2⟩, few, short⟩ := id LA
  have lt : n < rows.length := by
    rcases Nat.lt_or_ge n rows.length with z | z
    · exact z
    · unfold ahead at hx
      rw [List.getElem?_eq_none z] at hx
      cases hx
  refine ⟨_, rfl, L, dx, _, rfl, g1, rfl, _, rfl, L, d, rows, n, rfl, LA, hd, hn, fun p H1 s1 np e1 => ?_⟩
  have npL : p ≠ L := fun z => by
    rw [z, g1] at np
    cases np
  have l1 := s1 _ _ g1
  refine ⟨_, rfl, L, C, dx, _, _, rfl, l1, T.cl, T.nN, rfl, _, _, rfl, rfl, dx, _, l1, (by show 2 < 1000; decide), ?_⟩
  have l2 : ∀ o, upd H1 L o L = some o := fun o => upd_same
  have nRL : R ≠ L := fun z => by
    rw [z, g1] at g2
    cases g2
  have b2 : Bar L H (upd H1 L (.ins C dx (putF "number" (.int ((n : Int) + 1)) [("rows", .ref R), ("number", .int n)]))) := (Bar.of s1).trans (Bar.upd L H1 _)
  have e2 : upd H1 L (.ins C dx (putF "number" (.int ((n : Int) + 1)) [("rows", .ref R), ("number", .int n)])) p = some (.lst ((ahead rows n d).map V.str)) := by
    rw [upd_ne npL]
    exact e1
  have la2 : LinesAt C (upd H1 L (.ins C dx (putF "number" (.int ((n : Int) + 1)) [("rows", .ref R), ("number", .int n)]))) L rows (n + 1) := ⟨⟨dx, R, upd_same, by rw [upd_ne nRL]; exact s1 _ _ g2⟩, few, short⟩
  have t2 : SqT K (upd H1 L (.ins C dx (putF "number" (.int ((n : Int) + 1)) [("rows", .ref R), ("number", .int n)]))) t (xs.map V.str) := sqt_upd l1 (same_sqt s1 ht)
  generalize upd H1 L (.ins C dx (putF "number" (.int ((n : Int) + 1)) [("rows", .ref R), ("number", .int n)])) = H2 at *
  obtain ⟨⟨dy, R2, c1, c2⟩, _, _⟩ := id la2
  refine ⟨_, rfl, L, dy, _, rfl, c1, rfl, _, rfl, sz (by decide : 0 ≤ 1000), fun q hq => ?_⟩
  have e3 := same_new hq (.lst []) _ _ e2
  have s3 := same_new hq (.lst [])
  refine ⟨.list ((ahead rows n d).map PyData.str), .list [], .lst (SqL.of e3) (dp_words _ _), .lst (SqL.of upd_same) .nil, shaped_words hw, rfl, ?_⟩
  cases ea : ahead rows n d with
  | nil =>
    rw [ea] at hx
    cases hx
  | cons y r =>
    rw [ea] at k e3 hx
    refine ⟨_, rfl, iteT ?_⟩
    refine ⟨_, rfl, p, _, 0, .str y, rfl, rfl, SqL.of e3, atI_nat (j := 0) rfl, _, rfl, t, _, rfl, .inr (same_sqt s3 t2), rfl, flat_words _, ?_⟩
    have e4 : inV (.str y) (xs.map V.str) = true := (in_words _ _).trans hx
    exact ⟨L, ne_ e4, _, rfl, k p _ (b2.trans (Bar.of s3)) np npL e3 (la2.same s3)⟩
/-! ### take_exactly -/
def spExactly (C : Addr) (K : PySem.W.Frag) : Sp := fun vs H Q _ => ∃ (L t : Addr) (d many : Int) (rows xs : List Str) (n : Nat), vs = [.ref L, .int d, .ref t, .int many] ∧ LinesAt C H L rows n ∧ (d = 0 ∨ d = 1) ∧ n ≤ rows.length ∧ SqT K H t (xs.map V.str) ∧
  (∀ x ∈ ahead rows n d, PyData.strOk x = true) ∧ nextB (ahead rows n d) xs = true ∧ ((ahead rows n d).length : Int) = many ∧ ∀ p H', Bar L H H' → H p = none → p ≠ L → H' p = some (.lst ((ahead rows n d).map V.str)) → LinesAt C H' L rows (n + 1) → Q (.ref p) H'
theorem scExactly : FnScope ["self", "depth", "words", "many", "ahead"] ["self", "depth", "words", "many"] (defScope sExactly) := ⟨rfl, rfl, rfl, by decide +kernel, rfl, by decide +kernel, by decide +kernel⟩
theorem ok_exactly {f fT fN : Addr} {fd dT dN : FuncData} (F : Fun K "take_exactly" "Lines.take_exactly" sExactly f fd) (T : LTxt K mg C) (GT : FnOk P w K mg base CX0 2 fT dT ["self", "depth", "words"] (spTake C K)) (bT : Binds K dT ["self", "depth", "words"] []) (mT : Meth K C "take" fT)
    (GN : FnOk P w K mg base CX0 1 fN dN ["self", "holds"] spNeed) (bN : Binds K dN ["self", "holds"] []) (mN : Meth K C "need" fN) :
    FnOk P w K mg base CX0 3 f fd ["self", "depth", "words", "many"] (spExactly C K) := by
  refine F.ok scExactly (fun vs H Q E h => ?_) (fun cdv A outer s H vs Q E hr h => ?_)
  · obtain ⟨L, t, d, many, rows, xs, n, rfl, _⟩ := h
    rfl
  obtain ⟨L, t, d, many, rows, xs, n, rfl, LA, hd, hn, ht, hw, hx, hm, k⟩ := h
  have nd := scExactly.nd
  have hr1 : Room 1 (A.deeper (envOfC "Lines.take_exactly" (defScope sExactly) s.heap.objs.size f cdv)) := hr.mono (by decide)
  refine ⟨_, pss_cons (ps_set (i := 4) nd rfl (.inl rfl) (pe_meth (pv 0) T.cl mT GT hr bT .nil pass0 (pa_cons (pv 1) (pa_cons (pv 2) pa_nil))))
    (pss_cons (ps_expr (pe_meth (pv 0) T.cl mN GN hr1 bN .nil pass0 (pa_cons (pe_cmpR op_eq (pe_callB call_len_seq rfl T.len PySem.boot_len (pa_cons (pv 4) pa_nil)) (pv 3) (nomark _)) pa_nil)))
    (pss_one (ps_ret (pv 4)))), ?_⟩
  obtain ⟨⟨dx, R, g1, g2⟩, few, short⟩ := id LA
  refine ⟨_, rfl, L, dx, _, rfl, g1, rfl, _, rfl, _, rfl, L, t, d, rows, xs, n, rfl, LA, hd, hn, ht, hw, hx, fun p H1 b1 np npL e1 la1 => ?_⟩
  obtain ⟨⟨dy, R2, c1, c2⟩, _, _⟩ := id la1
  refine ⟨_, rfl, L, dy, _, rfl, c1, rfl, _, rfl, p, _, rfl, .inl (SqL.of e1), _, rfl, rfl, ?_⟩
  have e : decide (V.int (((ahead rows n d).map V.str).length : Nat) = V.int many) = true := by rw [List.length_map, hm]; exact decide_eq_true rfl
  exact ⟨L, ne_ e, _, rfl, k p H1 b1 np npL e1 la1⟩
/-! ### take_end -/
def spEnd (C : Addr) : Sp := fun vs H Q _ => ∃ (L : Addr) (rows : List Str), vs = [.ref L] ∧ LinesAt C H L rows rows.length ∧ Q .non H
theorem scEnd : FnScope ["self"] ["self"] (defScope sTakeEnd) := ⟨rfl, rfl, rfl, by decide +kernel, rfl, by decide +kernel, by decide +kernel⟩
theorem ok_end {f : Addr} {fd : FuncData} (F : Fun K "take_end" "Lines.take_end" sTakeEnd f fd) (T : LTxt K mg C) : FnOk P w K mg base CX0 1 f fd ["self"] (spEnd C) := by
  refine F.ok scEnd (fun vs H Q E h => ?_) (fun cdv A outer s H vs Q E hr h => ?_)
  · obtain ⟨L, rows, rfl, _⟩ := h
    rfl
  obtain ⟨L, rows, rfl, LA, k⟩ := h
  obtain ⟨⟨dx, R, e1, e2⟩, few, short⟩ := id LA
  refine ⟨_, pss_one (ps_if (pt_cmpR op_lt (pe_fld (pv 0) rfl) (pe_callB call_len_seq rfl T.len PySem.boot_len (pa_cons (pe_fld (pv 0) rfl) pa_nil)) (nomark _)) pss_never pss_nil), ?_⟩
  refine ⟨_, rfl, L, C, dx, _, _, rfl, e1, T.cl, T.nN, rfl, _, rfl, L, C, dx, _, _, rfl, e1, T.cl, T.nR, rfl, R, _, rfl, .inl (SqL.of e2), _, _, rfl, rfl, _, rfl, ?_⟩
  rw [List.length_map, decide_eq_false (Int.lt_irrefl _)]
  exact iteF k
/-! ### new_name -/
def spNewName (C : Addr) (K : PySem.W.Frag) : Sp := fun vs H Q _ => ∃ (L l : Addr) (x : Str) (names : List Str) (rows : List Str) (n : Nat), vs = [.ref L, .str x, .ref l] ∧ LinesAt C H L rows n ∧ nameB x = true ∧ SqL K H l (names.map V.str) ∧ x ∉ names ∧ ∀ H', Same H H' → Q (.str x) H'
theorem scNewName : FnScope ["self", "word", "names"] ["self", "word", "names"] (defScope sNewName) := ⟨rfl, rfl, rfl, by decide +kernel, rfl, by decide +kernel, by decide +kernel⟩
theorem ok_newName {f fI fN : Addr} {fd dI dN : FuncData} (F : Fun K "new_name" "Lines.new_name" sNewName f fd) (T : LTxt K mg C) (GI : FnOk P w K mg base CX0 1 fI dI ["word"] spName) (bI : Binds K dI ["word"] []) (kI : PySem.W.keepIn K (.ref fI) = true) (gI : mg "is_name" = some (.ref fI))
    (GN : FnOk P w K mg base CX0 1 fN dN ["self", "holds"] spNeed) (bN : Binds K dN ["self", "holds"] []) (mN : Meth K C "need" fN) : FnOk P w K mg base CX0 2 f fd ["self", "word", "names"] (spNewName C K) := by
  refine F.ok scNewName (fun vs H Q E h => ?_) (fun cdv A outer s H vs Q E hr h => ?_)
  · obtain ⟨L, l, x, names, rows, n, rfl, _⟩ := h
    rfl
  obtain ⟨L, l, x, names, rows, n, rfl, LA, hx, hl, hin, k⟩ := h
  obtain ⟨⟨dx, R, e1, e2⟩, few, short⟩ := id LA
  refine ⟨_, pss_cons (ps_expr (pe_meth (pv 0) T.cl mN GN hr bN .nil pass0 (pa_cons (pe_and (pe_call GI hr rfl gI kI bI .nil pass0 (pa_cons (pv 1) pa_nil)) (pe_one (pe_cmpR op_notIn_seq (pv 1) (pv 2) (by rfl)))) pa_nil))) (pss_one (ps_ret (pv 1))), ?_⟩
  refine ⟨_, rfl, L, dx, _, rfl, e1, rfl, _, rfl, x, rfl, hx, fun H1 s1 => ⟨_, rfl, iteT ?_⟩⟩
  refine ⟨_, rfl, _, rfl, l, _, rfl, .inl (same_sql s1 hl), rfl, flat_words _, ?_⟩
  have e : (!inV (.str x) (names.map V.str)) = true := by rw [in_words, decide_eq_false hin]; rfl
  exact ⟨L, ne_ e, _, rfl, k H1 s1⟩
/-! ### place -/
def spPlace (C : Addr) (K : PySem.W.Frag) : Sp := fun vs H Q _ => ∃ (L l : Addr) (x : Str) (names : List Str) (rows : List Str) (n j : Nat), vs = [.ref L, .str x, .ref l] ∧ LinesAt C H L rows n ∧ SqL K H l (names.map V.str) ∧ names[j]? = some x ∧ names.Nodup ∧ Q (.int j) H
theorem scPlace : FnScope ["self", "word", "names"] ["self", "word", "names"] (defScope sPlace) := ⟨rfl, rfl, rfl, by decide +kernel, rfl, by decide +kernel, by decide +kernel⟩
theorem ok_place {f fN : Addr} {fd dN : FuncData} (F : Fun K "place" "Lines.place" sPlace f fd) (T : LTxt K mg C) (GN : FnOk P w K mg base CX0 1 fN dN ["self", "holds"] spNeed) (bN : Binds K dN ["self", "holds"] []) (mN : Meth K C "need" fN) : FnOk P w K mg base CX0 2 f fd ["self", "word", "names"] (spPlace C K) := by
  refine F.ok scPlace (fun vs H Q E h => ?_) (fun cdv A outer s H vs Q E hr h => ?_)
  · obtain ⟨L, l, x, names, rows, n, j, rfl, _⟩ := h
    rfl
  obtain ⟨L, l, x, names, rows, n, j, rfl, LA, hl, hj, hnd, k⟩ := h
  obtain ⟨⟨dx, R, e1, e2⟩, few, short⟩ := id LA
  refine ⟨_, pss_cons (ps_expr (pe_meth (pv 0) T.cl mN GN hr bN .nil pass0 (pa_cons (pe_cmpR op_in_seq (pv 1) (pv 2) (by rfl)) pa_nil)))
    (pss_one (ps_ret (pe_bm PySem.F.plainAttrs_list PySem.F.slot_list_index PySem.F.type_list_index mt_index (pv 2) (pa_cons (pv 1) pa_nil)))), ?_⟩
  have hm : x ∈ names := List.mem_of_getElem? hj
  refine ⟨_, rfl, L, dx, _, rfl, e1, rfl, _, rfl, _, rfl, l, _, rfl, .inl hl, rfl, flat_words _, ?_⟩
  have e : inV (.str x) (names.map V.str) = true := by rw [in_words, decide_eq_true hm]
  refine ⟨L, ne_ e, _, rfl, .inl ⟨rfl, _, hl⟩, _, rfl, l, _, .str x, j, .str x, rfl, rfl, hl, rfl, flat_words _, by rw [List.getElem?_map, hj] <;> rfl, by rw [eqV_str]; exact decide_eq_true rfl, fun m z' hm' ez => ?_, k⟩
  rw [List.getElem?_map] at ez
  cases e : names[m]? with
  | none =>
    rw [e] at ez
    cases ez
  | some y =>
    rw [e] at ez
    cases ez
    rw [eqV_str]
    refine decide_eq_false fun z => ?_
    have q := nodup_ix hnd (by rw [e, z]) hj
    omega
/-! ### number_from -/
def spNumFrom (C : Addr) : Sp := fun vs H Q _ => ∃ (L : Addr) (x : Str) (v low limit : Int) (rows : List Str) (n : Nat), vs = [.ref L, .str x, .int low, .int limit] ∧ LinesAt C H L rows n ∧ digitB x = true ∧ PySem.intText? x = some v ∧ low ≤ v ∧ v < limit ∧ ∀ H', Same H H' → Q (.int v) H'
theorem scNumFrom : FnScope ["self", "word", "low", "limit", "number"] ["self", "word", "low", "limit"] (defScope sNumberFrom) := ⟨rfl, rfl, rfl, by decide +kernel, rfl, by decide +kernel, by decide +kernel⟩
theorem ok_numFrom {f fI fN : Addr} {fd dI dN : FuncData} (F : Fun K "number_from" "Lines.number_from" sNumberFrom f fd) (T : LTxt K mg C) (GI : FnOk P w K mg base CX0 1 fI dI ["word"] spNumOf) (bI : Binds K dI ["word"] []) (kI : PySem.W.keepIn K (.ref fI) = true) (gI : mg "number_of" = some (.ref fI))
    (GN : FnOk P w K mg base CX0 1 fN dN ["self", "holds"] spNeed) (bN : Binds K dN ["self", "holds"] []) (mN : Meth K C "need" fN) : FnOk P w K mg base CX0 2 f fd ["self", "word", "low", "limit"] (spNumFrom C) := by
  refine F.ok scNumFrom (fun vs H Q E h => ?_) (fun cdv A outer s H vs Q E hr h => ?_)
  · obtain ⟨L, x, v, low, limit, rows, n, rfl, _⟩ := h
    rfl
  obtain ⟨L, x, v, low, limit, rows, n, rfl, LA, hx, hv, h1, h2, k⟩ := h
  have nd := scNumFrom.nd
  refine ⟨_, pss_cons (ps_set (i := 4) nd rfl (.inl rfl) (pe_call GI hr rfl gI kI bI .nil pass0 (pa_cons (pv 1) pa_nil)))
    (pss_cons (ps_expr (pe_meth (pv 0) T.cl mN GN hr bN .nil pass0 (pa_cons (pe_chain op_le op_lt (pv 2) (pv 4) (pv 3)) pa_nil))) (pss_one (ps_ret (pv 4)))), ?_⟩
  refine ⟨_, rfl, x, v, rfl, hx, hv, fun H1 s1 => ?_⟩
  obtain ⟨⟨dx, R, e1, e2⟩, few, short⟩ := LA.same s1
  refine ⟨_, rfl, L, dx, _, rfl, e1, rfl, _, rfl, _, rfl, _, _, rfl, rfl, _, rfl, ?_⟩
  rw [decide_eq_true h1]
  refine iteT ⟨_, rfl, _, _, rfl, rfl, ?_⟩
  exact ⟨L, ne_ (decide_eq_true h2), _, rfl, k H1 s1⟩
/-! ### Lines(text) -/
def spLines (C : Addr) : Sp := fun vs H Q _ => ∃ (L dx : Addr) (x : Str), vs = [.ref L, .str x] ∧ H L = some (.ins C dx []) ∧ x.length + 2 ≤ sizeLine ∧ (Txt.split x "\n").length ≤ 900 ∧ (∀ r ∈ Txt.split x "\n", r.length ≤ 900) ∧
  ∀ H', Bar L H H' → LinesAt C H' L (Txt.split x "\n") 0 → Q .non H'
theorem scLines : FnScope ["self", "text"] ["self", "text"] (defScope sLinesInit) := ⟨rfl, rfl, rfl, by decide +kernel, rfl, by decide +kernel, by decide +kernel⟩
theorem ok_lines {f : Addr} {fd : FuncData} (F : Fun K "__init__" "Lines.__init__" sLinesInit f fd) (T : LTxt K mg C) (mi : mg "isinstance" = none) (ms : mg "str" = none) : FnOk P w K mg base CX0 1 f fd ["self", "text"] (spLines C) := by
  refine F.ok scLines (fun vs H Q E h => ?_) (fun cdv A outer s H vs Q E hr h => ?_)
  · obtain ⟨L, dx, x, rfl, _⟩ := h
    rfl
  obtain ⟨L, dx, x, rfl, hL, hz, few, short, k⟩ := h
  refine ⟨_, pss_cons (ps_if (pt_not (pt_val (pe_callB RZ.call_isTy rfl mi PyProof.Rows.boot_isinstance (pa_cons (pv 1) (pa_cons (pe_bltn (v := .ty "str") rfl ms PyProof.Rows.Boot.«str» rfl) pa_nil))))) pss_never pss_nil)
    (pss_cons (ps_fld (pv 0) (pe_split (pv 1) pe_str) rfl) (pss_one (ps_fld (pv 0) pe_int rfl))), ?_⟩
  refine ⟨_, rfl, _, _, rfl, .str x, _, rfl, iteF ?_⟩
  refine ⟨_, rfl, ⟨_, rfl⟩, x, "\n", rfl, rfl, rfl, hz, fun p hp => ?_⟩
  have npL : L ≠ p := ne_of_none hL hp
  have e1 : upd H p (.lst ((Txt.split x "\n").map V.str)) L = some (.ins C dx []) := by rw [upd_ne npL]; exact hL
  refine ⟨_, rfl, L, C, dx, _, rfl, e1, T.cl, T.nR, (by show 0 < 1000; decide), _, rfl, L, C, dx, _, rfl, upd_same, T.cl, T.nN, (by show 1 < 1000; decide), ?_⟩
  refine k _ (((Bar.of (same_new hp _)).trans (Bar.upd L _ _)).trans (Bar.upd L _ _)) ⟨⟨dx, p, upd_same, ?_⟩, few, short⟩
  rw [upd_ne npL.symm, upd_ne npL.symm]
  exact upd_same
end
end Hx
set_option maxRecDepth 100000
set_option maxHeartbeats 4000000
/-! A page: lines by their words. -/
namespace Hx
open PySem PySem.Spec PyProof.Rows L2
/-- a line: whether it stands deeper, its words -/
structure Rw where
  d : Bool
  ws : List Str
def pad (d : Bool) : Str := if d = true then "  " else Str.empty
def Rw.text (r : Rw) : Str := pad r.d ++ Str.join " " r.ws
/-- plain words: no blank, no feed, not empty, all signs printable -/
def wordB (x : Str) : Bool := decide (1 ≤ x.length) && x.cps.toList.all fun c => decide (33 ≤ c) && decide (c ≤ 126)
def rwB (r : Rw) : Bool := decide (r.ws ≠ []) && (r.ws.all wordB && decide (r.text.length ≤ 900))
def PageOk (page : List Rw) : Prop := page.length ≤ 900 ∧ ∀ r ∈ page, rwB r = true
theorem word_is {x : Str} (h : wordB x = true) : 1 ≤ x.length ∧ ∀ c ∈ x.cps.toList, 33 ≤ c ∧ c ≤ 126 := by
  unfold wordB at h
  simp only [Bool.and_eq_true, decide_eq_true_eq, List.all_eq_true] at h
  exact h
theorem rw_is {r : Rw} (h : rwB r = true) : r.ws ≠ [] ∧ (∀ x ∈ r.ws, wordB x = true) ∧ r.text.length ≤ 900 := by
  unfold rwB at h
  simp only [Bool.and_eq_true, decide_eq_true_eq, List.all_eq_true] at h
  exact h
theorem word_strOk {x : Str} (h : wordB x = true) : PyData.strOk x = true := by
  obtain ⟨_, hc⟩ := word_is h
  unfold PyData.strOk
  rw [← Array.all_toList, List.all_eq_true]
  intro c hm
  have := hc c hm
  exact decide_eq_true (by omega)
def aheadP (page : List Rw) (n : Nat) (d : Int) : List Str := match page[n]? with
  | none => []
  | some r => if r.d = decide (d = 1) then r.ws else if d = 1 then [] else Str.empty :: Str.empty :: r.ws
theorem tl_ofS : TL.tl (" " : Str) = [32] := by decide +kernel
theorem split_words {ws : List Str} (ne : ws ≠ []) (hw : ∀ x ∈ ws, wordB x = true) : Txt.split (Str.join " " ws) " " = ws := by
  have h := TL.split_join (y := " ") (s := 32) (S := []) tl_ofS (by decide +kernel) ne (fun p hp z => by
    have := (word_is (hw p hp)).2 32 z
    omega)
  rw [TL.join_eq] at h
  exact h
theorem empty_app (x : Str) : Str.empty ++ x = x := TL.ext_tl (by rw [TL.tl_append]; rfl)
theorem cut_none (z : Str) : cutS z (some 0) none = z := by
  refine TL.ext_tl ?_
  unfold cutS
  have e : HT.sIx z.length 0 (some (0 : Int)) = 0 := by
    have := HT.sIx_nat z.length 0 0
    simpa using this
  rw [e, HT.sIx_none, List.drop_zero, Nat.sub_zero]
  show z.cps.toList.take z.cps.size = z.cps.toList
  rw [← Array.length_toList, List.take_length]
theorem tl_two : TL.tl ("  " : Str) = [32, 32] := by decide +kernel
theorem cut_two (z : Str) : cutS ("  " ++ z) (some 2) none = z := by
  refine TL.ext_tl ?_
  unfold cutS
  have l : ("  " ++ z).length = 2 + z.length := by
    rw [TL.len_tl, TL.tl_append, List.length_append, tl_two, ← TL.len_tl]
    rfl
  have e : HT.sIx ("  " ++ z).length 0 (some (2 : Int)) = 2 := by
    have := HT.sIx_nat ("  " ++ z).length 0 2
    rw [l, Nat.min_eq_left (by omega)] at this
    rw [l]
    exact this
  rw [e, HT.sIx_none, l]
  show ((TL.tl ("  " ++ z)).drop 2).take (2 + z.length - 2) = TL.tl z
  rw [TL.tl_append, tl_two]
  show (TL.tl z).take (2 + z.length - 2) = TL.tl z
  rw [Nat.add_sub_cancel_left, TL.len_tl, List.take_length]
theorem starts_no {z : Str} {c : Nat} {l : List Nat} (h : TL.tl z = c :: l) (hc : c ≠ 32) : Txt.startswith z "  " = false := by
  unfold Txt.startswith
  have s : Builtin.Str.subAt z "  " 0 = false := by
    rw [StrLaws.subAt_eq]
    refine beq_eq_false_iff_ne.mpr fun e => ?_
    rw [List.drop_zero, show z.cps.toList = c :: l from h] at e
    have e2 : (c :: l).take ("  " : Str).length = [32, 32] := by
      rw [← tl_two]
      exact e
    rw [show ("  " : Str).length = 2 by decide +kernel] at e2
    cases l with
    | nil => cases e2
    | cons y r => exact hc (List.cons.inj e2).1
  rw [s, Bool.and_false]
theorem join_cons (x y : Str) (r : List Str) : Str.join " " (x :: y :: r) = x ++ " " ++ Str.join " " (y :: r) := rfl
theorem pad_join {ws : List Str} (ne : ws ≠ []) : "  " ++ Str.join " " ws = Str.join " " (Str.empty :: Str.empty :: ws) := by
  obtain ⟨w, r, rfl⟩ := List.exists_cons_of_ne_nil ne
  rw [join_cons, join_cons]
  rw [empty_app]
  refine TL.ext_tl ?_
  rw [TL.tl_append, TL.tl_append, TL.tl_append, tl_two, tl_ofS]
  rfl
theorem split_pad {ws : List Str} (ne : ws ≠ []) (hw : ∀ x ∈ ws, wordB x = true) : Txt.split ("  " ++ Str.join " " ws) " " = Str.empty :: Str.empty :: ws := by
  rw [pad_join ne]
  have h := TL.split_join (y := " ") (s := 32) (S := []) tl_ofS (by decide +kernel) (parts := Str.empty :: Str.empty :: ws) (by simp) (fun p hp z => by
    rcases List.mem_cons.mp hp with rfl | hp
    · cases z
    · rcases List.mem_cons.mp hp with rfl | hp
      · cases z
      · have := (word_is (hw p hp)).2 32 z
        omega)
  rw [TL.join_eq] at h
  exact h
theorem join_head {ws : List Str} (ne : ws ≠ []) (hw : ∀ x ∈ ws, wordB x = true) : ∃ c l, TL.tl (Str.join " " ws) = c :: l ∧ c ≠ 32 := by
  obtain ⟨x, r, rfl⟩ := List.exists_cons_of_ne_nil ne
  obtain ⟨h1, h2⟩ := word_is (hw x (List.mem_cons_self ..))
  cases e : TL.tl x with
  | nil =>
    rw [TL.len_tl, e] at h1
    simp at h1
  | cons c l =>
    have hc := h2 c (by show c ∈ TL.tl x; rw [e]; exact List.mem_cons_self ..)
    refine ⟨c, ?_⟩
    cases r with
    | nil => exact ⟨l, e, by omega⟩
    | cons y r =>
      refine ⟨l ++ TL.tl (" " : Str) ++ TL.tl (Str.join " " (y :: r)), ?_, by omega⟩
      rw [join_cons, TL.tl_append, TL.tl_append, e]
      simp
theorem ahead_page {page : List Rw} (ok : PageOk page) {n : Nat} {d : Int} (hd : d = 0 ∨ d = 1) : ahead (page.map Rw.text) n d = aheadP page n d := by
  unfold ahead aheadP
  rw [List.getElem?_map]
  cases e : page[n]? with
  | none => rfl
  | some r =>
    obtain ⟨ne, hw, _⟩ := rw_is (ok.2 r (List.mem_of_getElem? e))
    show (if Txt.startswith r.text (ind d) = true then Txt.split (cutS r.text (some (2 * d)) none) " " else []) = if r.d = decide (d = 1) then r.ws else if d = 1 then [] else Str.empty :: Str.empty :: r.ws
    obtain ⟨rd, ws⟩ := r
    rcases hd with rfl | rfl
    · have s : Txt.startswith (Rw.text ⟨rd, ws⟩) (ind 0) = true := by
        have z := PySem.W.KT.starts_app Str.empty (Rw.text ⟨rd, ws⟩)
        rw [empty_app] at z
        exact z
      rw [if_pos s, show (2 * (0 : Int)) = 0 by decide, cut_none]
      cases rd with
      | false =>
        show Txt.split (Str.empty ++ Str.join " " ws) " " = ws
        rw [empty_app, split_words ne hw]
      | true => exact split_pad ne hw
    · cases rd with
      | true =>
        have s : Txt.startswith ("  " ++ Str.join " " ws) "  " = true := PySem.W.KT.starts_app "  " (Str.join " " ws)
        show (if Txt.startswith ("  " ++ Str.join " " ws) "  " = true then Txt.split (cutS ("  " ++ Str.join " " ws) (some (2 * 1)) none) " " else []) = ws
        rw [if_pos s, show (2 * (1 : Int)) = 2 by decide, cut_two, split_words ne hw]
      | false =>
        obtain ⟨c, l, h1, h2⟩ := join_head ne hw
        show (if Txt.startswith (Str.empty ++ Str.join " " ws) "  " = true then _ else []) = []
        rw [empty_app, starts_no h1 h2]
        rfl
/-- the object that takes the lines of this page, behind the first n -/
structure PageAt (C : Addr) (H : Hp) (L : Addr) (page : List Rw) (n : Nat) : Prop where
  la : LinesAt C H L (page.map Rw.text) n
  ok : PageOk page
  le : n ≤ page.length
theorem PageAt.same {C : Addr} {H H' : Hp} {L : Addr} {page : List Rw} {n : Nat} (s : Same H H') (h : PageAt C H L page n) : PageAt C H' L page n := ⟨h.la.same s, h.ok, h.le⟩
theorem ahead_ok {page : List Rw} (ok : PageOk page) {n : Nat} {d : Int} (hd : d = 0 ∨ d = 1) : ∀ x ∈ ahead (page.map Rw.text) n d, PyData.strOk x = true := by
  rw [ahead_page ok hd]
  intro x hx
  unfold aheadP at hx
  cases e : page[n]? with
  | none =>
    rw [e] at hx
    cases hx
  | some r =>
    rw [e] at hx
    obtain ⟨ne, hw, _⟩ := rw_is (ok.2 r (List.mem_of_getElem? e))
    have hx' : x ∈ (if r.d = decide (d = 1) then r.ws else if d = 1 then [] else Str.empty :: Str.empty :: r.ws) := hx
    split at hx'
    · exact word_strOk (hw x hx')
    · split at hx'
      · cases hx'
      · rcases List.mem_cons.mp hx' with rfl | hx'
        · decide +kernel
        · rcases List.mem_cons.mp hx' with rfl | hx'
          · decide +kernel
          · exact word_strOk (hw x hx')
/-- what the next line begins with -/
def nextP (page : List Rw) (n : Nat) (d : Int) (xs : List Str) : Bool := nextB (aheadP page n d) xs
section
variable {P : Program} {w : World} {K : PySem.W.Frag} {mg : Str → Option Value} {base : Heap} {C : Addr}
def spNextP (C : Addr) (K : PySem.W.Frag) : Sp := fun vs H Q _ => ∃ (L t : Addr) (d : Int) (page : List Rw) (xs : List Str) (n : Nat), vs = [.ref L, .int d, .ref t] ∧ PageAt C H L page n ∧ (d = 0 ∨ d = 1) ∧ SqT K H t (xs.map V.str) ∧ ∀ H', Same H H' → Q (.bl (nextP page n d xs)) H'
theorem next_page {vs : List V} {H : Hp} {Q : VK} {E : XK} (h : spNextP C K vs H Q E) : spNext C K vs H Q E := by
  obtain ⟨L, t, d, page, xs, n, rfl, pa, hd, ht, k⟩ := h
  refine ⟨L, t, d, page.map Rw.text, xs, n, rfl, pa.la, hd, by rw [List.length_map]; exact pa.le, ht, ahead_ok pa.ok hd, ?_⟩
  rw [ahead_page pa.ok hd]
  exact k
def spMoreP (C : Addr) (K : PySem.W.Frag) : Sp := fun vs H Q _ => ∃ (L t l : Addr) (d : Int) (page : List Rw) (xs : List Str) (n : Nat) (found : List V) (least most : Int), vs = [.ref L, .int d, .ref t, .ref l, .int least, .int most] ∧ PageAt C H L page n ∧ (d = 0 ∨ d = 1) ∧
  SqT K H t (xs.map V.str) ∧ SqL K H l found ∧ ∀ H', Same H H' → Q (.bl (decide ((found.length : Int) < least) || (decide ((found.length : Int) < most) && nextP page n d xs))) H'
theorem more_page {vs : List V} {H : Hp} {Q : VK} {E : XK} (h : spMoreP C K vs H Q E) : spMore C K vs H Q E := by
  obtain ⟨L, t, l, d, page, xs, n, found, least, most, rfl, pa, hd, ht, hl, k⟩ := h
  refine ⟨L, t, l, d, page.map Rw.text, xs, n, found, least, most, rfl, pa.la, hd, by rw [List.length_map]; exact pa.le, ht, ahead_ok pa.ok hd, hl, ?_⟩
  rw [ahead_page pa.ok hd]
  exact k
/-- take: the next line stands so deep and begins with one of the words -/
def spTakeP (C : Addr) (K : PySem.W.Frag) : Sp := fun vs H Q _ => ∃ (L t : Addr) (d : Int) (page : List Rw) (xs ws : List Str) (n : Nat), vs = [.ref L, .int d, .ref t] ∧ PageAt C H L page n ∧ (d = 0 ∨ d = 1) ∧ SqT K H t (xs.map V.str) ∧ page[n]? = some ⟨decide (d = 1), ws⟩ ∧ nextB ws xs = true ∧
  ∀ p H', Bar L H H' → H p = none → p ≠ L → H' p = some (.lst (ws.map V.str)) → PageAt C H' L page (n + 1) → Q (.ref p) H'
theorem ahead_is {page : List Rw} (ok : PageOk page) {n : Nat} {d : Int} {ws : List Str} (hd : d = 0 ∨ d = 1) (e : page[n]? = some ⟨decide (d = 1), ws⟩) : ahead (page.map Rw.text) n d = ws := by
  rw [ahead_page ok hd]
  unfold aheadP
  rw [e]
  exact if_pos rfl
theorem lt_of_at {page : List Rw} {n : Nat} {r : Rw} (e : page[n]? = some r) : n < page.length := (List.getElem?_eq_some_iff.mp e).1
theorem take_page {vs : List V} {H : Hp} {Q : VK} {E : XK} (h : spTakeP C K vs H Q E) : spTake C K vs H Q E := by
  obtain ⟨L, t, d, page, xs, ws, n, rfl, pa, hd, ht, e, hx, k⟩ := h
  have ea := ahead_is pa.ok hd e
  refine ⟨L, t, d, page.map Rw.text, xs, n, rfl, pa.la, hd, by rw [List.length_map]; exact pa.le, ht, ahead_ok pa.ok hd, by rw [ea]; exact hx, ?_⟩
  rw [ea]
  exact fun p H' b np npL e1 la => k p H' b np npL e1 ⟨la, pa.ok, lt_of_at e⟩
def spExactlyP (C : Addr) (K : PySem.W.Frag) : Sp := fun vs H Q _ => ∃ (L t : Addr) (d many : Int) (page : List Rw) (xs ws : List Str) (n : Nat), vs = [.ref L, .int d, .ref t, .int many] ∧ PageAt C H L page n ∧ (d = 0 ∨ d = 1) ∧ SqT K H t (xs.map V.str) ∧ page[n]? = some ⟨decide (d = 1), ws⟩ ∧ nextB ws xs = true ∧
  (ws.length : Int) = many ∧ ∀ p H', Bar L H H' → H p = none → p ≠ L → H' p = some (.lst (ws.map V.str)) → PageAt C H' L page (n + 1) → Q (.ref p) H'
theorem exactly_page {vs : List V} {H : Hp} {Q : VK} {E : XK} (h : spExactlyP C K vs H Q E) : spExactly C K vs H Q E := by
  obtain ⟨L, t, d, many, page, xs, ws, n, rfl, pa, hd, ht, e, hx, hm, k⟩ := h
  have ea := ahead_is pa.ok hd e
  refine ⟨L, t, d, many, page.map Rw.text, xs, n, rfl, pa.la, hd, by rw [List.length_map]; exact pa.le, ht, ahead_ok pa.ok hd, by rw [ea]; exact hx, by rw [ea]; exact hm, ?_⟩
  rw [ea]
  exact fun p H' b np npL e1 la => k p H' b np npL e1 ⟨la, pa.ok, lt_of_at e⟩
end
end Hx
set_option maxRecDepth 100000
set_option maxHeartbeats 4000000
/-! zip of a list and a tuple. -/
namespace Hx
open PySem PySem.Spec PyProof.Rows L2
/-- zip(list, tuple) -/
def ItzM (K : PySem.W.Frag) (a b : Addr) : It where
  stop := fun i H => ∃ xs ys, SqL K H a xs ∧ SqT K H b ys ∧ (xs.length = i ∨ ys.length = i) ∧ i ≤ xs.length ∧ i ≤ ys.length
  go := fun i H => ∃ xs ys x y, SqL K H a xs ∧ SqT K H b ys ∧ xs[i]? = some x ∧ ys[i]? = some y
  yld := fun i H v H' => ∃ T x y, v = .ref T ∧ H T = none ∧ H' = upd H T (.tup [x, y]) ∧ (∀ xs, SqL K H a xs → xs[i]? = some x) ∧ (∀ ys, SqT K H b ys → ys[i]? = some y)
/-- the objects of such a zip -/
structure ZmAt (h : Heap) (z TI TO i1 i2 a b : Addr) (i : Nat) : Prop where
  zip : IsZip h z TI TO .none
  ti : IsPair h TI (.ref i1) (.ref i2)
  to : ∃ x y, IsPair h TO x y
  it1 : h.IsListIter i1 a i
  it2 : h.IsTupleIter i2 b i
theorem zm_turn {P : Program} {w : World} {K : PySem.W.Frag} {elts : List Expr} {kk : Nat} {tpos : Pos} {a b z TI TO i1 i2 : Addr} (S : ZipSep2 z TI TO i1 i2 [i1, a] [i2, b]) (na : a ≠ i1) (nb : b ≠ i2) :
    Turn P w K (.Tuple elts kk tpos) (ItzM K a b) [z, TI, TO, i1, i2] z (fun i h => ZmAt h z TI TO i1 i2 a b i) where
  mem := List.mem_cons_self ..
  obj := by
    intro i h st c hc
    have hz := st.zip
    have ht := st.ti
    obtain ⟨x, y, ho⟩ := st.to
    obtain ⟨o1, e1, _, d1⟩ := st.it1
    obtain ⟨o2, e2, _, d2⟩ := st.it2
    simp only [List.mem_cons, List.not_mem_nil, or_false] at hc
    rcases hc with rfl | rfl | rfl | rfl | rfl
    · exact ⟨_, hz, fun v q => by cases q⟩
    · exact ⟨_, ht, fun v q => by cases q⟩
    · exact ⟨_, ho, fun v q => by cases q⟩
    · exact ⟨o1, e1, fun v q => by rw [d1] at q; cases q⟩
    · exact ⟨o2, e2, fun v q => by rw [d2] at q; cases q⟩
  keep := by
    intro i h h' st k
    obtain ⟨x, y, ho⟩ := st.to
    exact ⟨k z (by simp) _ st.zip, k TI (by simp) _ st.ti, ⟨x, y, k TO (by simp) _ ho⟩, st.it1.at fun o q => k i1 (by simp) o q, st.it2.at fun o q => k i2 (by simp) o q⟩
  item := by
    intro X hP hw hK hc i pins s σ H E I hf st hg
    subst hP hw hK
    obtain ⟨xs, ys, x, y, hqx, hqy, hx, hy⟩ := hg
    obtain ⟨us, rx, p1, _⟩ := I.list hqx
    obtain ⟨vs, ry, p2, _⟩ := I.tuple hqy
    obtain ⟨u, hu, ru⟩ := rx.get hx
    obtain ⟨v, hv, rv⟩ := ry.get hy
    obtain ⟨x0, y0, ho⟩ := st.to
    have zl : z < s.heap.objs.size := Heap.lt_size st.zip
    have n1 : i < us.toArray.size := by
      rw [List.size_toArray]
      exact (List.getElem?_eq_some_iff.mp hu).1
    have n2 : i < vs.toArray.size := by
      rw [List.size_toArray]
      exact (List.getElem?_eq_some_iff.mp hv).1
    refine wpAny_pyNext_zipD2_item (i := i) S (Draws.list (A := X.A.in1) (I.ok.hd hc) i1 a na us.toArray) (Draws.tuple (A := X.A.in1) (I.ok.hd hc) i2 b nb vs.toArray) st.zip st.ti ho ⟨st.it1, p1.isList⟩ ⟨st.it2, p2⟩ n1 n2 fun x1 x2 h' tk e1 e2 z1 t1 s1 s2 tn sz kp => ?_
    have e1 : us[i]? = some x1 := by simpa using e1
    have e2 : vs[i]? = some x2 := by simpa using e2
    rw [hu] at e1
    rw [hv] at e2
    obtain rfl := Option.some.inj e1
    obtain rfl := Option.some.inj e2
    refine ⟨_, rfl, wpAny_letOwnedTupleGo_zip (s := { s with heap := h', toks := tk }) z1 fun h2 z2 sb => ?_⟩
    have zn : s.heap.objs.size ≠ z := fun q => Nat.lt_irrefl _ (q ▸ zl)
    have tn2 : h2.get? s.heap.objs.size = some { cls := .type "tuple", data := .seq #[u, v] } := (sb.2 _ zn).trans tn
    have I1 : Inv X pins σ (upd H s.heap.objs.size (.tup [x, y])) { s with heap := h2, toks := tk } := by
      refine I.turnedNew (t' := tk) (ch := [z, TI, TO, i1, i2]) (fun c o hb q => ?_) hf (Nat.le_refl _) ⟨by show 2 ≤ sizeLine; decide, [u, v], .cons ru (.cons rv .nil), ⟨_, tn2, rfl, _, rfl⟩⟩
      simp only [List.mem_cons, List.not_mem_nil, or_false, not_or] at hb
      exact (sb.2 c hb.1).trans (kp c o hb.1 hb.2.2.1 hb.2.2.2.1 hb.2.2.2.2 q)
    have up : ∀ {c : Addr} {o : Obj}, c ≠ z → h'.get? c = some o → h2.get? c = some o := fun n q => (sb.2 _ n).trans q
    refine ⟨.ref s.heap.objs.size, _, I1, rfl, ⟨_, x, y, rfl, I.hok.fresh (Nat.le_refl _), rfl, fun l hl => ?_, fun l hl => ?_⟩, ⟨z2, ?_, ⟨u, v, up S.TOz t1⟩, ?_, ?_⟩, fun c hcm => ?_⟩
    · rw [I.list_inj hl hqx]
      exact hx
    · rw [I.tuple_inj hl hqy]
      exact hy
    · exact up S.TIz (kp _ _ S.TIz S.TITO S.TIi1 S.TIi2 st.ti)
    · exact s1.1.at fun o q => up (fun e => S.zi1 e.symm) q
    · exact s2.1.at fun o q => up (fun e => S.zi2 e.symm) q
    · have lt : c < s.heap.objs.size := by
        obtain ⟨o1, e1, _⟩ := st.it1
        obtain ⟨o2, e2, _⟩ := st.it2
        simp only [List.mem_cons, List.not_mem_nil, or_false] at hcm
        rcases hcm with rfl | rfl | rfl | rfl | rfl
        · exact zl
        · exact Heap.lt_size st.ti
        · exact Heap.lt_size ho
        · exact Heap.lt_size e1
        · exact Heap.lt_size e2
      rw [upd_ne (fun e => Nat.lt_irrefl _ (e ▸ lt))]
      exact (hf c hcm).1
  done := by
    intro X hP hw hK hc i pins s σ H E I hf st hg
    subst hP hw hK
    obtain ⟨xs, ys, hqx, hqy, hend, l1, l2⟩ := hg
    obtain ⟨us, rx, p1, _⟩ := I.list hqx
    obtain ⟨vs, ry, p2, _⟩ := I.tuple hqy
    obtain ⟨x0, y0, ho⟩ := st.to
    have m1 : us.toArray.size = xs.length := by rw [List.size_toArray, rx.length]
    have m2 : vs.toArray.size = ys.length := by rw [List.size_toArray, ry.length]
    refine wpAny_pyNext_zipD2_end (i := i) (I.ok.hd hc |> fun _ => S) (Draws.list (A := X.A.in1) (I.ok.hd hc) i1 a na us.toArray) (Draws.tuple (A := X.A.in1) (I.ok.hd hc) i2 b nb vs.toArray) st.zip st.ti ho ⟨st.it1, p1.isList⟩ ⟨st.it2, p2⟩ (by omega) (by omega) (by omega) fun h' tk kp => ⟨rfl, ?_⟩
    refine I.turnedL (t' := tk) (ch := [z, TI, TO, i1, i2]) (fun c o hb q => ?_) hf
    simp only [List.mem_cons, List.not_mem_nil, or_false, not_or] at hb
    exact kp c o hb.1 hb.2.2.1 hb.2.2.2.1 hb.2.2.2.2 q
  self := fun A i s Q E st h => wpAny_pyIter_zip st.zip h
/-- the objects as zip makes them -/
abbrev zm1 (h : Heap) (a : Addr) : Heap := h.push { cls := .type "list_iterator", data := .fields #[.ref a, .int 0 0] }
abbrev zm2 (h : Heap) (a b : Addr) : Heap := (zm1 h a).push { cls := .type "tuple_iterator", data := .fields #[.ref b, .int 0 0] }
abbrev zm3 (h : Heap) (a b : Addr) : Heap := (zm2 h a b).push { cls := .type "tuple", data := .seq #[.ref h.objs.size, .ref (zm1 h a).objs.size] }
abbrev zm4 (h : Heap) (a b : Addr) : Heap := (zm3 h a b).push { cls := .type "tuple", data := .seq #[.none, .none] }
abbrev zm5 (h : Heap) (a b : Addr) : Heap := (zm4 h a b).push { cls := .type "zip", data := .fields #[.none, .bool false, .bool false, .ref (zm2 h a b).objs.size, .ref (zm3 h a b).objs.size] }
theorem zm_new (a b : Addr) (xs ys : Array Value) :
    Meets (Builtin.«zip.__new__» ⟨[.type "zip", .ref a, .ref b], []⟩) (fun _ R s => s.heap.IsList a xs ∧ s.heap.IsTuple b ys ∧ R (.ok (.ret (.ref (zm4 s.heap a b).objs.size))) { s with heap := zm5 s.heap a b }) :=
  .of_wp fun prog w A R s h => by
    obtain ⟨hp, g, d, tk, os⟩ := s
    obtain ⟨la, lb, h⟩ := h
    have sub := sub_zip
    have h1 : Heap.IsList (Shared.heap ⟨hp, g, d, tk, os⟩) a xs := la
    have h2 : Heap.IsTuple (Shared.heap ⟨hp.push { cls := .type "list_iterator", data := .fields #[.ref a, .int 0 0] }, g, d, tk, os⟩) b ys := Heap.IsTuple.push lb _
    wp_walk using wpAny_pyIter_list h1, wpAny_pyIter_tuple h2
    exact ⟨_, rfl, h⟩
theorem zm_call {prog : Program} {w : World} {A : Around} {E : Value → Shared → Prop} {s : Shared} {a b : Addr} {xs ys : Array Value} {Q : Value → Shared → Prop} (la : s.heap.IsList a xs) (lb : s.heap.IsTuple b ys)
    (h : ∀ h', ZmAt h' (s.heap.objs.size + 4) (s.heap.objs.size + 2) (s.heap.objs.size + 3) s.heap.objs.size (s.heap.objs.size + 1) a b 0 → (∀ c o, s.heap.get? c = some o → h'.get? c = some o) → Q (.ref (s.heap.objs.size + 4)) { s with heap := h' }) :
    wpAny (model prog w) A (call (.type "zip") [.ref a, .ref b]) Q E s := by
  refine callType_new F.called_zip (by decide) (F.typeCall_zip_2 _ _) (F.newCall_zip_2 _ _) (fun obj => F.args_object_init_3 obj _ _) F.entry_zip_new (zm_new a b xs ys) ⟨la, lb, ?_⟩
  have n1 : (zm1 s.heap a).objs.size = s.heap.objs.size + 1 := Heap.size_push ..
  have n2 : (zm2 s.heap a b).objs.size = s.heap.objs.size + 2 := by rw [Heap.size_push, n1]
  have n3 : (zm3 s.heap a b).objs.size = s.heap.objs.size + 3 := by rw [Heap.size_push, n2]
  have n4 : (zm4 s.heap a b).objs.size = s.heap.objs.size + 4 := by rw [Heap.size_push, n3]
  have up5 : ∀ c o, (zm4 s.heap a b).get? c = some o → (zm5 s.heap a b).get? c = some o := fun _ _ q => Heap.get?_push_of_some _ q
  have up4 : ∀ c o, (zm3 s.heap a b).get? c = some o → (zm5 s.heap a b).get? c = some o := fun c o q => up5 c o (Heap.get?_push_of_some _ q)
  have up3 : ∀ c o, (zm2 s.heap a b).get? c = some o → (zm5 s.heap a b).get? c = some o := fun c o q => up4 c o (Heap.get?_push_of_some _ q)
  have up2 : ∀ c o, (zm1 s.heap a).get? c = some o → (zm5 s.heap a b).get? c = some o := fun c o q => up3 c o (Heap.get?_push_of_some _ q)
  have e5 : (zm5 s.heap a b).get? (zm4 s.heap a b).objs.size = some _ := Heap.get?_push_size _ rfl
  have e4 : (zm5 s.heap a b).get? (zm3 s.heap a b).objs.size = some _ := up5 _ _ (Heap.get?_push_size _ rfl)
  have e3 : (zm5 s.heap a b).get? (zm2 s.heap a b).objs.size = some _ := up4 _ _ (Heap.get?_push_size _ rfl)
  have e2 : (zm5 s.heap a b).get? (zm1 s.heap a).objs.size = some _ := up3 _ _ (Heap.get?_push_size _ rfl)
  have e1 : (zm5 s.heap a b).get? s.heap.objs.size = some _ := up2 _ _ (Heap.get?_push_size _ rfl)
  show _ ∧ _
  rw [n2, n3, n4] at e5
  rw [n3] at e4
  rw [n1, n2] at e3
  rw [n1] at e2
  rw [n4]
  exact ⟨⟨_, e5, rfl⟩, h _ ⟨e5, e3, ⟨_, _, e4⟩, ⟨_, e1, rfl, rfl⟩, ⟨_, e2, rfl, rfl⟩⟩ fun c o q => up2 c o (Heap.get?_push_of_some _ q)⟩
def iZipM (K : PySem.W.Frag) (ta : TA) : TI := fun σ H R => ta σ H fun vs H1 => ∃ a b xs ys, vs = [.ref a, .ref b] ∧ SqL K H1 a xs ∧ SqT K H1 b ys ∧ R (ItzM K a b) H1
theorem pi_zipM {X : Cx} {e e2 : Expr} {ta : TA} {p pos tpos : Pos} {elts : List Expr} {kk : Nat} (hg : Gl X "zip") (hm : X.mg "zip" = none) (ha : PA X [e, e2] ta)
    (hs : starEach [e, e2] X.env = (false, eval e X.env) :: starEach [e2] X.env := by rfl) (hpl : (backTo pos (starEach [e2] X.env)).any (·.1) = false := by rfl) :
    PI X (.Tuple elts kk tpos) (.Call (.Name "zip" p) [e, e2] [] pos) (iZipM X.K ta) := by
  constructor
  intro pins s σ H R I h
  refine Call_ (ld_blt I hg hm PyProof.Rows.boot_zip (PyProof.Rows.callWith_type1 (thn (ha.run pos pins s σ H _ I h) fun us s1 ⟨vs, H1, I1, r1, q1⟩ => ?_) hs hpl))
  obtain ⟨a, b, xs, ys, rfl, hqx, hqy, q⟩ := q1
  obtain ⟨u, v, rfl, ru, rv⟩ := vals2 r1
  obtain rfl : u = Value.ref a := ru
  obtain rfl : v = Value.ref b := rv
  obtain ⟨us, rx, p1, _⟩ := I1.list hqx
  obtain ⟨vs, ry, p2, _⟩ := I1.tuple hqy
  have la : a < s1.heap.objs.size := p1.lt
  have lb : b < s1.heap.objs.size := by
    obtain ⟨o, ho, _⟩ := id p2
    exact Heap.lt_size ho
  refine zm_call p1.isList p2 fun h' at_ kp => wpAny_pyIter_zip at_.zip ?_
  generalize en : s1.heap.objs.size = n at *
  have I2 : Inv X pins σ H1 { s1 with heap := h' } := I1.kept (t' := s1.toks) kp
  have la' : @LT.lt Nat instLTNat a n := la
  have lb' : @LT.lt Nat instLTNat b n := lb
  have nq : ∀ {c d : Nat}, c ≠ d → (show Addr from c) ≠ (show Addr from d) := fun h => h
  refine ⟨n + 4, [n + 4, n + 2, n + 3, n, n + 1], _, _, H1, rfl, I2, zm_turn (a := a) (b := b) ⟨nq (by omega), nq (by omega), nq (by omega), nq (by omega), by simp, ?_, ?_, nq (by omega), by simp, ?_, ?_, ?_, ?_⟩ (nq (by omega)) (nq (by omega)), at_, fun c hc => ?_, q⟩
  · simp only [List.mem_cons, List.not_mem_nil, or_false, not_or]
    exact ⟨nq (by omega), nq (by omega)⟩
  · simp only [List.mem_cons, List.not_mem_nil, or_false, not_or]
    exact ⟨nq (by omega), nq (by omega)⟩
  · simp only [List.mem_cons, List.not_mem_nil, or_false, not_or]
    exact ⟨nq (by omega), nq (by omega)⟩
  · simp only [List.mem_cons, List.not_mem_nil, or_false, not_or]
    exact ⟨nq (by omega), nq (by omega)⟩
  · simp only [List.mem_cons, List.not_mem_nil, or_false, not_or]
    exact ⟨nq (by omega), nq (by omega)⟩
  · simp only [List.mem_cons, List.not_mem_nil, or_false, not_or]
    exact ⟨nq (by omega), nq (by omega)⟩
  · have le : s1.heap.objs.size ≤ c := by
      simp only [List.mem_cons, List.not_mem_nil, or_false] at hc
      rw [en]
      rcases hc with z | z | z | z | z
      · rw [z]; exact Nat.le_add_right ..
      · rw [z]; exact Nat.le_add_right ..
      · rw [z]; exact Nat.le_add_right ..
      · rw [z]; exact Nat.le_refl _
      · rw [z]; exact Nat.le_add_right ..
    exact I1.fpOk le (I1.hok.fresh le)
theorem walk_zipM {K : PySem.W.Frag} {a b : Addr} {xs ys : List V} {n : Nat} (h1 : xs.length = n) (h2 : ys.length = n) : Walk (ItzM K a b) n (fun H => SqL K H a xs ∧ SqT K H b ys) (YPair (fun i => xs[i]?) (fun i => ys[i]?)) :=
  ⟨fun i H hi ⟨q1, q2⟩ => ⟨xs, ys, xs[i]'(by omega), ys[i]'(by omega), q1, q2, List.getElem?_eq_getElem _, List.getElem?_eq_getElem _⟩, fun H ⟨q1, q2⟩ => ⟨xs, ys, q1, q2, .inl h1, by omega, by omega⟩,
    fun i H x H' _ ⟨q1, q2⟩ ⟨T, u, v, e1, e2, e3, f1, f2⟩ => ⟨T, u, v, e1, e2, e3, f1 xs q1, f2 ys q2⟩⟩
end Hx
set_option maxRecDepth 100000
set_option maxHeartbeats 8000000
/-! len(set(xs)) of unlike texts. -/
namespace Hx
open PySem PySem.Spec PyProof.Rows L2
/-- the texts met so far -/
def met (xs : List Str) (i : Nat) (k : Str) : Bool := (xs.take i).any (· == k)
theorem met_next {xs : List Str} {i : Nat} (hi : i < xs.length) (k : Str) : met xs (i + 1) k = (met xs i k || decide (k = xs.getD i Str.empty)) := by
  unfold met
  have e : xs.getD i Str.empty = xs[i] := by rw [List.getD_eq_getElem?_getD, List.getElem?_eq_getElem hi]; rfl
  rw [List.take_add_one, List.getElem?_eq_getElem hi, List.any_append, e]
  by_cases q : k = xs[i]
  · subst q
    simp
  · have z : (xs[i] == k) = false := beq_eq_false_iff_ne.mpr fun h => q h.symm
    simp [q, z]
theorem met_new {xs : List Str} (nd : xs.Nodup) {i : Nat} (hi : i < xs.length) : met xs i (xs.getD i Str.empty) = false := by
  have e : xs.getD i Str.empty = xs[i] := by rw [List.getD_eq_getElem?_getD, List.getElem?_eq_getElem hi]; rfl
  rw [e]
  unfold met
  rw [List.any_eq_false]
  intro x hx
  obtain ⟨j, hj, ej⟩ := List.getElem_of_mem hx
  rw [List.length_take] at hj
  rw [List.getElem_take] at ej
  have ne := List.pairwise_iff_getElem.mp nd j i (by omega) hi (by omega)
  intro z
  exact ne (ej.trans (by simpa using z))
section
variable {prog : Program} {w : World} {A : Around} {R : Result → Shared → Prop} {it : Addr} {fp wr : List Addr} {G : Array GenState → Array GenState → Prop} {n : Nat} {P : Nat → Value → Prop} {St : Nat → Shared → Prop}
theorem texts_loop (W : WalksS prog w A.in1 it fp wr G n P St) (S : Addr) (hSf : S ∉ fp) {xs : List Str} (nd : xs.Nodup) (hn : xs.length = n) (hb : n + 1 < scanBound) (hval : ∀ i v, P i v → ∃ t, v = .str (xs.getD i Str.empty) t) :
    ∀ (left i : Nat) (s : Shared), i + left = n → St i s → s.heap.SetOf (strKind prog w) S (met xs i) i →
      (∀ s', Moved (S :: wr) G s s' → s'.heap.SetOf (strKind prog w) S (met xs n) n → R (.ok (.ret .none)) s') → codeAny (model prog w) A (.builtin "set.update.loop" ⟨[.ref S, .ref it], []⟩) R s
  | 0, i, s, e, st, hS, hR => by
    obtain rfl : i = n := by omega
    refine codeAny_builtin PyProof.Rows.F.entry_set_update_loop ?_
    rw [Around.under_plainId PyProof.Rows.F.plain_set_update_loop _]
    show wpAny _ A.in1 (pyNext _ >>= _) _ _ s
    refine wpAny_bind (W.done s _ _ st fun s' mv => ?_)
    show wpAny _ A.in1 (ret .none) _ _ s'
    refine wpAny_pure (hR s' (mv.mono fun b hb => List.mem_cons_of_mem _ hb) ?_)
    obtain ⟨o, es, ep, t, ho, more⟩ := hS
    exact ⟨o, es, ep, t, mv.heap S _ (fun z => hSf (W.sub _ z)) ho, more⟩
  | left + 1, i, s, e, st, hS, hR => by
    have lt : i < n := by omega
    refine codeAny_builtin PyProof.Rows.F.entry_set_update_loop ?_
    rw [Around.under_plainId PyProof.Rows.F.plain_set_update_loop _]
    show wpAny _ A.in1 (pyNext _ >>= _) _ _ s
    refine wpAny_bind (W.item i s _ _ lt st fun v s' hP st' mv => ?_)
    obtain ⟨t, rfl⟩ := hval i v hP
    have hS' : s'.heap.SetOf (strKind prog w) S (met xs i) i := by
      obtain ⟨o, es, ep, tb, ho, more⟩ := hS
      exact ⟨o, es, ep, tb, mv.heap S _ (fun z => hSf (W.sub _ z)) ho, more⟩
    show wpAny _ A.in1 (holding [Value.str (xs.getD i Str.empty) t] (setAdd S _) >>= _) _ _ s'
    refine wpAny_bind (wpAny_holding ?_)
    unfold setAdd
    refine wpAny_holding (wpAny_bind ((strKind prog w).pyHash (k := xs.getD i Str.empty) (strKind_is _ _ _ _) ?_))
    refine wpAny_setAddHashed_of (knd := strKind prog w) (s := { s' with toks := s'.toks + 1 }) (strKind_is _ _ _ _) rfl hS' (by omega) fun h2 sb hS2 => ?_
    have hS3 : h2.SetOf (strKind prog w) S (met xs (i + 1)) (i + 1) := PyProof.Rows.SetOf_congr hS2 (fun k => (met_next (by omega) k).symm) (by rw [met_new nd (by omega)]; rfl)
    have keep : ∀ b o, b ≠ S → s'.heap.get? b = some o → h2.get? b = some o := fun b o hb q => (sb.2 b hb).trans q
    refine wpAny_pure ⟨plainId_quiet PyProof.Rows.F.plain_set_update_loop _, ?_⟩
    refine texts_loop W S hSf nd hn hb hval left (i + 1) _ (by omega) (W.frame _ s' _ _ st' (Nat.le_succ _) fun b hb o q => keep b o (fun z => hSf (z ▸ hb)) q) hS3 fun s3 mv3 hS4 => hR s3 ?_ hS4
    exact Moved.trans W.gtrans ((mv.mono fun b hb => List.mem_cons_of_mem _ hb).then_heap (Nat.le_succ _) fun b o hb q => keep b o (fun z => hb (z ▸ List.mem_cons_self ..)) q) mv3
end
section
variable {prog : Program} {w : World} {A : Around} {E : Value → Shared → Prop} {s : Shared}
/-- the heap with a new empty set -/
abbrev setH (h : Heap) (led : Bool) : Heap := h.push { cls := .type "set", dict := none, data := .set #[] 0 (.fresh 0 0 led) }
theorem set_of_texts {l : Addr} {us : Array Value} {xs : List Str} {Q : Value → Shared → Prop} (hh : A.handled = none) (hl : s.heap.IsList l us) (hi : StrsAre us.toList xs) (nd : xs.Nodup) (hb : us.size + 1 < scanBound)
    (h : ∀ (h' : Heap) (tk : Nat), h'.SetOf (strKind prog w) s.heap.objs.size (met xs us.size) us.size → (∀ b o, b < s.heap.objs.size → s.heap.get? b = some o → h'.get? b = some o) → Q (.ref s.heap.objs.size) { s with heap := h', toks := tk }) :
    wpAny (model prog w) A (call (.type "set") [.ref l]) Q E s := by
  have hlen : xs.length = us.size := by
    have := hi.length
    simpa using this.symm
  obtain ⟨c0, t0, m0⟩ := PySem.F.called_set.mro
  have m1 := PySem.F.called_set.made
  have m2 := PySem.F.called_set.sub
  have m3 := PySem.F.called_set.notType
  have m4 := PySem.F.called_set.canCreate
  have m5 := PySem.F.typeCall_set_1 (.ref l)
  refine wpAny_call (codeAny_of_tree ?_)
  show wpAny _ _ (callAny (.type "set") _) _ _ _
  refine wpAny_pure ⟨Code.quiet_builtin _ (by decide +kernel), codeAny_builtin PySem.F.entry_type_call ?_⟩
  rw [Around.under_plain (weight_type_call_type "set" [.ref l] []) rfl]
  repeat (any_goals (first | assumption | wp_step))
  refine codeAny_mono (code_set_new_1 (.ref l) (E := E) (Q₁ := fun v s1 => ∃ led : Bool, v = .ref s.heap.objs.size ∧ s1 = { s with heap := setH s.heap led }) fun led => ⟨led, rfl, rfl⟩) fun r s1 hr => ?_
  rcases r with e | fl
  · exact hr
  cases fl
  all_goals first | exact hr.elim | skip
  obtain ⟨led, rfl, rfl⟩ := hr
  have g0 : (setH s.heap led).get? s.heap.objs.size = some { cls := .type "set", dict := none, data := .set #[] 0 (.fresh 0 0 led) } := Heap.get?_push_size _ rfl
  have T : Shared.TypeIs { s with heap := setH s.heap led } (.ref s.heap.objs.size) "set" := ⟨_, g0, rfl⟩
  have m6 := PySem.F.called_set.init.lookup
  have m7 := PySem.F.called_set.init.bind (.ref s.heap.objs.size)
  repeat (any_goals (first | assumption | wp_step))
  refine codeAny_mono (codeAny_call_builtin (R := wants (fun r s2 => r = .none ∧ ∃ h' tk, s2 = { s with heap := h', toks := tk } ∧ h'.SetOf (strKind prog w) s.heap.objs.size (met xs us.size) us.size ∧ ∀ b o, b < s.heap.objs.size → s.heap.get? b = some o → h'.get? b = some o) E) PySem.F.called_set.init.plain PySem.F.entry_set_init (check_set_init_1 T ?_)) fun r2 s2 hr2 => ?_
  · obtain ⟨ol, hol, hcl, nl, hdl⟩ := hl
    obtain ⟨oc, od, odt, osl⟩ := ol
    simp only at hcl hdl
    subst hcl
    subst hdl
    have k0 : (setH s.heap led).get? l = some { cls := .type "list", dict := od, data := .seq us nl, slots := osl } := Heap.get?_push_of_some _ hol
    have k1 := PySem.F.sub_list_set
    have k2 := PySem.F.sub_list_frozenset
    have k3 : (Value.type "list" == Value.type "dict") = false := by decide
    have k4 : (setH s.heap led).IsList l us := ⟨_, k0, rfl, nl, rfl⟩
    unfold Builtin.«set.__init__» noKeywords Builtin.Frozenset.updateFrom
    generalize eI : pyIter = PI
    wp_walk
    subst eI
    refine wpAny_pyIter_list k4 (wpAny_bind (wpAny_runValue ?_))
    have lt : l < s.heap.objs.size := Heap.lt_size hol
    have sz : (setH s.heap led).objs.size = s.heap.objs.size + 1 := Heap.size_push ..
    have nI : l ≠ (setH s.heap led).objs.size := by
      rw [sz]
      exact Nat.ne_of_lt (Nat.lt_succ_of_lt lt)
    have nS : s.heap.objs.size ∉ [(setH s.heap led).objs.size, l] := by
      rw [sz]
      simp only [List.mem_cons, List.not_mem_nil, or_false, not_or]
      exact ⟨(Nat.succ_ne_self _).symm, Nat.ne_of_gt lt⟩
    refine texts_loop ((Walks.list (by simp [hh]) _ l nI us).toS) s.heap.objs.size nS nd hlen hb (fun i v hv => SS.strs_at hi i v (by rw [Array.getElem?_toList]; exact hv)) us.size 0 _ (Nat.zero_add _) ⟨⟨_, Heap.get?_push_size _ rfl, rfl, rfl⟩, k4.push _⟩ ?_ ?_
    · exact PyProof.Rows.SetOf_congr ((PyProof.Rows.setObjOf_fresh (knd := strKind prog w) led).setOf (Heap.get?_push_of_some _ g0) (by unfold scanBound; omega)) (fun _ => rfl) rfl
    · intro s' mv hS'
      obtain ⟨h', g', d', tk', os'⟩ := s'
      obtain rfl : g' = s.gens := mv.gens
      obtain rfl : d' = s.drawn := mv.drawn
      obtain rfl : os' = s.os := mv.os
      show wpAny _ _ _ _ _ _
      refine wpAny_pure ?_
      show wpAny _ _ (ret Value.none) _ _ _
      refine wpAny_pure ⟨rfl, h', tk', rfl, hS', fun b o hb q => mv.heap b o ?_ (Heap.get?_push_of_some _ (Heap.get?_push_of_some _ q))⟩
      rw [sz]
      simp only [List.mem_cons, List.not_mem_nil, or_false, not_or]
      exact ⟨Nat.ne_of_lt hb, Nat.ne_of_lt (Nat.lt_succ_of_lt hb)⟩
  · rcases r2 with e | fl
    · exact hr2
    cases fl
    all_goals first | exact hr2.elim | skip
    obtain ⟨rfl, h', tk, rfl, hS', kp⟩ := hr2
    repeat (any_goals (first | assumption | wp_step))
    exact h _ _ hS' kp
end
/-- len(set(xs)), xs a list of unlike texts -/
def tLenSetS (K : PySem.W.Frag) (ta : TE) : TE := fun σ H Q => ta σ H fun x H1 => ∃ (l : Addr) (xs : List Str), x = .ref l ∧ SqL K H1 l (xs.map V.str) ∧ xs.Nodup ∧ xs.length ≤ 900 ∧ Q (.int (xs.length : Nat)) H1
theorem pe_lenSetS {X : Cx} {a : Expr} {ta : TE} {p p2 q pos : Pos} (hg : Gl X "len") (hm : X.mg "len" = none) (hg2 : Gl X "set") (hm2 : X.mg "set" = none) (ha : PE X a ta) (hc : X.calm = true := by rfl)
    (na : starEach [a] X.env = (false, eval a X.env) :: starEach [] X.env := by rfl) : PE X (.Call (.Name "len" p) [.Call (.Name "set" p2) [a] [] q] [] pos) (tLenSetS X.K ta) := by
  constructor
  intro pins s σ H Q I h
  refine Call_ (ld_blt I hg hm boot_len (PyProof.Rows.callWith_builtin1 (PyProof.Rows.args_cons ?_ rfl) rfl rfl))
  refine Call_ (ld_blt I hg2 hm2 boot_set (PyProof.Rows.callWith_type1 (PyProof.Rows.args_cons (thn (ha.run pins s σ H _ I h) fun v s1 ⟨x, H1, I1, r1, q1⟩ => PyProof.Rows.args_nil ?_) na) na rfl))
  obtain ⟨l, xs, rfl, hq, nd, few, q1⟩ := q1
  cases r1
  obtain ⟨us, r, pl, _⟩ := I1.list hq
  have hlen : us.toArray.size = xs.length := by rw [List.size_toArray, ← r.length, List.length_map]
  refine set_of_texts (I1.ok.hd hc) pl.isList (by simpa using strsAre_of r) nd (by rw [hlen]; unfold scanBound; omega) fun h' tk hS hk => PyProof.Rows.args_nil ?_
  rw [hlen] at hS
  obtain ⟨o, es, ep, t, ho, hex, hd, _, _, _, hf, hn⟩ := hS
  have I2 : Inv X pins σ H1 { s1 with heap := h', toks := tk } := I1.kept fun b o e => hk b o (Heap.lt_size e) e
  exact call_len_set ho hex hd hf (by rw [hn]; omega) ⟨.int xs.length, H1, I2.tok _, ⟨_, by rw [hn]⟩, q1⟩
end Hx

set_option maxRecDepth 100000
set_option maxHeartbeats 4000000
/-! What a house's lines tell, line by line. -/
namespace Hx
open PySem PySem.Spec PyProof.Rows L2
/-! ### defs and methods by what they promise -/
structure DefOk (P : Program) (w : World) (K : PySem.W.Frag) (mg : Str → Option Value) (base : Heap) (x : Str) (k : Nat) (ps : List Str) (sp : Sp) : Prop where
  ex : ∃ f fd, mg x = some (.ref f) ∧ PySem.W.keepIn K (.ref f) = true ∧ FnOk P w K mg base CX0 k f fd ps sp ∧ Binds K fd ps []
structure MethOk (P : Program) (w : World) (K : PySem.W.Frag) (mg : Str → Option Value) (base : Heap) (C : Addr) (m : Str) (k : Nat) (ps : List Str) (sp : Sp) : Prop where
  ex : ∃ f fd, Meth K C m f ∧ FnOk P w K mg base CX0 k f fd ps sp ∧ Binds K fd ps []
section
variable {X : Cx} {x m : Str} {C : Addr} {k : Nat} {ps : List Str} {sp : Sp} {o e : Expr} {es : List Expr} {p pos apos : Pos} {t : TA} {ta : TE}
theorem pe_D (D : DefOk X.prog X.w X.K X.mg X.base x k ps sp) (hr : Room k X.A) (hg : Gl X x) (ha : PA X (e :: es) t) (hdb : (x == ("__debug__" : Str)) = false := by decide)
    (he : starEach (e :: es) X.env = (false, eval e X.env) :: starEach es X.env := by rfl) (hpl : (backTo pos (starEach es X.env)).any (·.1) = false := by rfl) : PE X (.Call (.Name x p) (e :: es) [] pos) (tCall sp [] E0 t) := by
  obtain ⟨f, fd, hm, kp, G, b⟩ := D.ex
  exact pe_call G hr hg hm kp b .nil pass0 ha hdb he hpl
theorem pe_M {pl : Sem Bool} (ho : PE X o ta) (c : L2.Cls X.K C) (D : MethOk X.prog X.w X.K X.mg X.base C m k ps sp) (hr : Room k X.A) (ha : PA X (e :: es) t)
    (hst : starEach (e :: es) X.env = (false, eval e X.env) :: starEach es X.env := by rfl) (hpl : (backTo pos (starEach es X.env)).any (·.1) = false := by rfl)
    (ht : eval (.Call (.Attribute o m apos) (e :: es) [] pos) X.env = (do
      let ov ← eval o X.env
      standAt apos.atName
      let (f, first) ← holding [ov] (getMethod ov m pl)
      callWith pos f first (backTo pos (starEach (e :: es) X.env)) (backToKw pos (keywordEach [] X.env))) := by rfl) : PE X (.Call (.Attribute o m apos) (e :: es) [] pos) (tMeth C m sp [] E0 ta t) := by
  obtain ⟨f, fd, M, G, b⟩ := D.ex
  exact pe_meth ho c M G hr b .nil pass0 ha hst hpl ht
theorem pe_M0 {pl : Sem Bool} (ho : PE X o ta) (c : L2.Cls X.K C) (D : MethOk X.prog X.w X.K X.mg X.base C m k ps sp) (hr : Room k X.A)
    (ht : eval (.Call (.Attribute o m apos) [] [] pos) X.env = (do
      let ov ← eval o X.env
      standAt apos.atName
      let (f, first) ← holding [ov] (getMethod ov m pl)
      callWith pos f first (backTo pos (starEach [] X.env)) (backToKw pos (keywordEach [] X.env))) := by rfl) : PE X (.Call (.Attribute o m apos) [] [] pos) (tMeth C m sp [] E0 ta tNil) := by
  obtain ⟨f, fd, M, G, b⟩ := D.ex
  exact pe_meth0 ho c M G hr b .nil pass0 ht
end
/-! ### the lines' methods, together -/
structure Ln (P : Program) (w : World) (K : PySem.W.Frag) (mg : Str → Option Value) (base : Heap) (C : Addr) : Prop where
  T : LTxt K mg C
  need : MethOk P w K mg base C "need" 1 ["self", "holds"] spNeed
  next : MethOk P w K mg base C "is_next" 2 ["self", "depth", "words"] (spNextP C K)
  more : MethOk P w K mg base C "is_more" 3 ["self", "depth", "words", "found", "least", "most"] (spMoreP C K)
  take : MethOk P w K mg base C "take" 2 ["self", "depth", "words"] (spTakeP C K)
  exactly_ : MethOk P w K mg base C "take_exactly" 3 ["self", "depth", "words", "many"] (spExactlyP C K)
  end_ : MethOk P w K mg base C "take_end" 1 ["self"] (spEnd C)
  newName : MethOk P w K mg base C "new_name" 2 ["self", "word", "names"] (spNewName C K)
  place : MethOk P w K mg base C "place" 2 ["self", "word", "names"] (spPlace C K)
  numFrom : MethOk P w K mg base C "number_from" 2 ["self", "word", "low", "limit"] (spNumFrom C)
  isName : DefOk P w K mg base "is_name" 1 ["word"] spName
  numOf : DefOk P w K mg base "number_of" 1 ["word"] spNumOf
  set : mg "set" = none
  tuple : mg "tuple" = none
/-- where the object of the lines stands -/
theorem PageAt.at {C : Addr} {H : Hp} {L : Addr} {page : List Rw} {n : Nat} (h : PageAt C H L page n) : ∃ dx R, H L = some (.ins C dx [("rows", .ref R), ("number", .int n)]) := by
  obtain ⟨dx, R, e, _⟩ := h.la.ob
  exact ⟨dx, R, e⟩
/-! ### data stand -/
theorem sql_bar {K : PySem.W.Frag} {H H' : Hp} {L a C dx : Addr} {fs : List (Str × V)} {xs : List V} (e : H L = some (.ins C dx fs)) (b : Bar L H H') (h : SqL K H a xs) : SqL K H' a xs := by
  rcases h with (h | ⟨o, h⟩) | h
  · exact .inl (.inl (b a _ (fun z => by rw [z, e] at h; cases h) h))
  · exact .inl (.inr ⟨o, b a _ (fun z => by rw [z, e] at h; cases h) h⟩)
  · exact .inr h
theorem sqt_bar {K : PySem.W.Frag} {H H' : Hp} {L a C dx : Addr} {fs : List (Str × V)} {xs : List V} (e : H L = some (.ins C dx fs)) (b : Bar L H H') (h : SqT K H a xs) : SqT K H' a xs := by
  rcases h with (h | ⟨o, h⟩) | h
  · exact .inl (.inl (b a _ (fun z => by rw [z, e] at h; cases h) h))
  · exact .inl (.inr ⟨o, b a _ (fun z => by rw [z, e] at h; cases h) h⟩)
  · exact .inr h
mutual
theorem dp_map {K : PySem.W.Frag} {H H' : Hp} (l : ∀ {a xs}, SqL K H a xs → SqL K H' a xs) (t : ∀ {a xs}, SqT K H a xs → SqT K H' a xs) : ∀ {v : V} {d : PyData}, Dp K H v d → Dp K H' v d
  | _, _, .non => .non
  | _, _, .bl b => .bl b
  | _, _, .int i => .int i
  | _, _, .str x => .str x
  | _, _, .lst h r => .lst (l h) (dpa_map l t r)
  | _, _, .tup h r => .tup (t h) (dpa_map l t r)
theorem dpa_map {K : PySem.W.Frag} {H H' : Hp} (l : ∀ {a xs}, SqL K H a xs → SqL K H' a xs) (t : ∀ {a xs}, SqT K H a xs → SqT K H' a xs) : ∀ {vs : List V} {ds : List PyData}, DpAll K H vs ds → DpAll K H' vs ds
  | _, _, .nil => .nil
  | _, _, .cons h r => .cons (dp_map l t h) (dpa_map l t r)
end
theorem dp_same {K : PySem.W.Frag} {H H' : Hp} (s : Same H H') {v : V} {d : PyData} (h : Dp K H v d) : Dp K H' v d := dp_map (same_sql s) (same_sqt s) h
theorem dpa_same {K : PySem.W.Frag} {H H' : Hp} (s : Same H H') {vs : List V} {ds : List PyData} (h : DpAll K H vs ds) : DpAll K H' vs ds := dpa_map (same_sql s) (same_sqt s) h
theorem dp_bar {K : PySem.W.Frag} {H H' : Hp} {L C dx : Addr} {fs : List (Str × V)} (e : H L = some (.ins C dx fs)) (b : Bar L H H') {v : V} {d : PyData} (h : Dp K H v d) : Dp K H' v d := dp_map (sql_bar e b) (sqt_bar e b) h
theorem dpa_bar {K : PySem.W.Frag} {H H' : Hp} {L C dx : Addr} {fs : List (Str × V)} (e : H L = some (.ins C dx fs)) (b : Bar L H H') {vs : List V} {ds : List PyData} (h : DpAll K H vs ds) : DpAll K H' vs ds := dpa_map (sql_bar e b) (sqt_bar e b) h

theorem cut_tail (x : V) (r : List V) : cutV (x :: r) (some 1) none = r := by
  unfold cutV
  have e : HT.sIx (x :: r).length 0 (some (1 : Int)) = 1 := by
    have := HT.sIx_nat (x :: r).length 0 1
    rw [Nat.min_eq_left (by simp)] at this
    exact this
  rw [e, HT.sIx_none]
  show r.take (r.length + 1 - 1) = r
  rw [Nat.add_sub_cancel, List.take_length]
theorem cut_tailS (x : Str) (r : List Str) : cutV (List.map V.str (x :: r)) (some 1) none = List.map V.str r := cut_tail _ _
theorem replicate_all (n : Nat) : (List.replicate n true).all id = true := by simp
abbrev sTakePeople : Stmt := top 39
abbrev sTakeCell : Stmt := top 40
section
variable {P : Program} {w : World} {K : PySem.W.Frag} {mg : Str → Option Value} {base : Heap} {C : Addr}
/-! ### take_people -/
def spPeople (C : Addr) (K : PySem.W.Frag) : Sp := fun vs H Q _ => ∃ (L : Addr) (page : List Rw) (n : Nat) (names : List Str), vs = [.ref L] ∧ PageAt C H L page n ∧ page[n]? = some ⟨false, "people" :: names⟩ ∧ 1 ≤ names.length ∧ names.length ≤ 3 ∧ names.Nodup ∧ (∀ x ∈ names, nameB x = true ∧ x ≠ "who") ∧
  ∀ p H', Bar L H H' → PageAt C H' L page (n + 1) → SqT K H' p (names.map V.str) → Q (.ref p) H'
theorem scPeople : FnScope ["lines", "names", "name"] ["lines"] (defScope sTakePeople) := ⟨rfl, rfl, rfl, by decide +kernel, rfl, by decide +kernel, by decide +kernel⟩
theorem ok_people {f : Addr} {fd : FuncData} (F : Fun K "take_people" "take_people" sTakePeople f fd) (T : Ln P w K mg base C) : FnOk P w K mg base CX0 3 f fd ["lines"] (spPeople C K) := by
  refine F.ok scPeople (fun vs H Q E h => ?_) (fun cdv A outer s H vs Q E hr h => ?_)
  · obtain ⟨L, page, n, names, rfl, _⟩ := h
    rfl
  obtain ⟨L, page, n, names, rfl, pa, e, n1, n3, hnd, hx, k⟩ := h
  have nd := scPeople.nd
  have hr1 : Room 1 (A.deeper (envOfC "take_people" (defScope sTakePeople) s.heap.objs.size f cdv)) := hr.mono (by decide)
  refine ⟨_, pss_cons (ps_set (i := 1) nd rfl (.inl rfl) (pe_slice sl_list (pe_M (pv 0) T.T.cl T.take hr (pa_cons pe_int (pa_cons (pe_tup (pa_cons pe_str pa_nil)) pa_nil))) (po_some pe_int) po_none))
    (pss_cons (ps_expr (pe_M (pv 0) T.T.cl T.need hr1 (pa_cons (pe_and (pe_chain op_le op_le pe_int (pe_callB call_len_seq rfl T.T.len PySem.boot_len (pa_cons (pv 1) pa_nil)) pe_int)
        (pe_one (pe_cmpR op_eq (pe_lenSetS rfl T.T.len rfl T.set (pv 1)) (pe_callB call_len_seq rfl T.T.len PySem.boot_len (pa_cons (pv 1) pa_nil)) (nomark _)))) pa_nil)))
    (pss_cons (ps_expr (pe_M (pv 0) T.T.cl T.need hr1 (pa_cons (pe_callB (cr_all rfl) rfl T.T.all PyProof.Rows.boot_all (pa_cons
      (pe_lc (own := [("name", 2)]) (g := gName 2) (tt := tYes) rfl nd (pi_list (pv 1)) (blkOk_by (N := ["lines", "names", "name"]) (sc := defScope sTakePeople) (by decide +kernel)) (fun _ _ _ _ _ => pg_name (i := 2) nd rfl (Or.inl rfl)) (fun _ _ _ _ _ => pts_nil)
        (fun _ _ _ _ _ => pe_and (pe_D T.isName hr1 rfl (pa_cons (pv 2) pa_nil)) (pe_one (pe_cmpR op_ne (pv 2) pe_str (nomark _))))) pa_nil)) pa_nil)))
    (pss_one (ps_ret (pe_callTy call_tuple_of rfl T.tuple PyProof.Rows.Boot.«tuple» (pa_cons (pv 1) pa_nil)))))), ?_⟩
  obtain ⟨dx, R, hL⟩ := pa.at
  refine ⟨_, rfl, L, dx, _, rfl, hL, rfl, sz (by decide : 1 ≤ 1000), fun t ht => ?_⟩
  have s0 := same_new ht (.tup [.str "people"])
  refine ⟨L, t, 0, page, ["people"], "people" :: names, n, rfl, pa.same s0, .inl rfl, SqT.of upd_same, e, by simp [nextB], fun q H1 b1 nq nqL e1 pa1 => ?_⟩
  refine ⟨_, rfl, q, _, rfl, SqL.of e1, fun l hl => ?_⟩
  rw [cut_tailS]
  have b2 := ((Bar.of s0).trans b1).trans (Bar.of (same_new hl (.lst (names.map V.str))))
  have pa2 := pa1.same (same_new hl (.lst (names.map V.str)))
  have el : upd H1 l (.lst (names.map V.str)) l = some (.lst (names.map V.str)) := upd_same
  generalize upd H1 l (.lst (names.map V.str)) = H2 at *
  obtain ⟨dy, R2, hL2⟩ := pa2.at
  refine ⟨_, rfl, L, dy, _, rfl, hL2, rfl, _, rfl, l, _, rfl, .inl (SqL.of el), _, _, rfl, rfl, _, rfl, ?_⟩
  rw [List.length_map, decide_eq_true (by omega)]
  refine iteT ⟨_, _, rfl, rfl, _, rfl, ?_⟩
  rw [decide_eq_true (by omega)]
  refine iteT ⟨_, rfl, l, names, rfl, SqL.of el, hnd, by omega, _, rfl, l, _, rfl, .inl (SqL.of el), rfl, ?_⟩
  have e3 : decide (V.int (names.length : Nat) = V.int ((names.map V.str).length : Nat)) = true := by rw [List.length_map]; exact decide_eq_true rfl
  refine ⟨L, ne_ e3, _, rfl, L, dy, _, rfl, hL2, rfl, ?_⟩
  refine ⟨_, rfl, l, rfl, ⟨_, SqL.of el⟩, fun D hD => lc_list (xs := names.map V.str) (fun i H' => Same H2 H' ∧ H' D = some (.lst ((List.replicate i true).map V.bl))) ⟨same_new hD _, upd_same⟩ (fun i H' _ z => SqL.of (z.1 _ _ el)) ?_ ?_⟩
  · rintro i x H' hi ⟨sm, eD⟩
    rw [List.getElem?_map] at hi
    have hil : i < names.length := by
      cases ei : names[i]? with
      | none =>
        rw [ei] at hi
        cases hi
      | some y => exact (List.getElem?_eq_some_iff.mp ei).1
    obtain ⟨y, ey, rfl⟩ : ∃ y, names[i]? = some y ∧ x = .str y := by
      cases ei : names[i]? with
      | none =>
        rw [ei] at hi
        cases hi
      | some y =>
        rw [ei] at hi
        exact ⟨y, rfl, (Option.some.inj hi).symm⟩
    obtain ⟨y1, y2⟩ := hx y (List.mem_of_getElem? ey)
    refine ⟨set2, yes ⟨_, get_same (by show 2 < 3; decide), y, rfl, y1, fun H3 s3 => ⟨_, rfl, iteT ?_⟩⟩⟩
    refine ⟨_, get_same (by show 2 < 3; decide), rfl, _, s3 _ _ eD, ?_, same_grow hD (sm.trans s3), ?_⟩
    · rw [List.length_map, List.length_replicate]
      exact small1000 (by omega)
    · have e4 : (!decide (V.str y = V.str "who")) = true := by
        rw [decide_eq_false (fun z => y2 (V.str.inj z))]
        rfl
      show upd H3 D (.lst ((List.replicate i true).map V.bl ++ [V.bl (!decide (V.str y = V.str "who"))])) D = _
      rw [upd_same, e4, List.replicate_succ', List.map_append]
      rfl
  · rintro H' ⟨sm, eD⟩
    refine ⟨D, _, rfl, SqL.of eD, ?_⟩
    refine ⟨L, ne_ (replicate_all _), _, rfl, l, _, rfl, .inl ⟨SqL.of (sm _ _ el), fun r hr' => ?_⟩⟩
    have s5 := same_new hr' (.tup (names.map V.str))
    exact k r _ (b2.trans (Bar.of (sm.trans s5))) ((pa2.same sm).same s5) (SqT.of upd_same)
/-! ### take_cell -/
def cellD (x : Str) (z i : Int) : PyData := .tuple [.str x, .int z, .int i]
end
end Hx
set_option maxRecDepth 100000
set_option maxHeartbeats 4000000
namespace Hx
open PySem PySem.Spec PyProof.Rows L2
/-! ### data of tuples -/
mutual
inductive Tp (K : PySem.W.Frag) (H : Hp) : V → PyData → Prop
  | non : Tp K H .non .none
  | bl (b : Bool) : Tp K H (.bl b) (.bool b)
  | int (i : Int) : Tp K H (.int i) (.int i)
  | str (x : Str) : Tp K H (.str x) (.str x)
  | tup {a : Addr} {xs : List V} {ds : List PyData} : SqT K H a xs → TpAll K H xs ds → Tp K H (.ref a) (.tuple ds)
inductive TpAll (K : PySem.W.Frag) (H : Hp) : List V → List PyData → Prop
  | nil : TpAll K H [] []
  | cons {v : V} {vs : List V} {d : PyData} {ds : List PyData} : Tp K H v d → TpAll K H vs ds → TpAll K H (v :: vs) (d :: ds)
end
mutual
theorem Tp.map {K : PySem.W.Frag} {H H' : Hp} (t : ∀ {a xs}, SqT K H a xs → SqT K H' a xs) : ∀ {v : V} {d : PyData}, Tp K H v d → Tp K H' v d
  | _, _, .non => .non
  | _, _, .bl b => .bl b
  | _, _, .int i => .int i
  | _, _, .str x => .str x
  | _, _, .tup h r => .tup (t h) (TpAll.map t r)
theorem TpAll.map {K : PySem.W.Frag} {H H' : Hp} (t : ∀ {a xs}, SqT K H a xs → SqT K H' a xs) : ∀ {vs : List V} {ds : List PyData}, TpAll K H vs ds → TpAll K H' vs ds
  | _, _, .nil => .nil
  | _, _, .cons h r => .cons (Tp.map t h) (TpAll.map t r)
end
mutual
theorem Tp.dp {K : PySem.W.Frag} {H : Hp} : ∀ {v : V} {d : PyData}, Tp K H v d → Dp K H v d
  | _, _, .non => .non
  | _, _, .bl b => .bl b
  | _, _, .int i => .int i
  | _, _, .str x => .str x
  | _, _, .tup h r => .tup h (TpAll.dp r)
theorem TpAll.dp {K : PySem.W.Frag} {H : Hp} : ∀ {vs : List V} {ds : List PyData}, TpAll K H vs ds → DpAll K H vs ds
  | _, _, .nil => .nil
  | _, _, .cons h r => .cons (Tp.dp h) (TpAll.dp r)
end
section
variable {K : PySem.W.Frag} {H H' : Hp}
theorem Tp.same (s : Same H H') {v : V} {d : PyData} (h : Tp K H v d) : Tp K H' v d := h.map (same_sqt s)
theorem TpAll.same (s : Same H H') {v : List V} {d : List PyData} (h : TpAll K H v d) : TpAll K H' v d := h.map (same_sqt s)
theorem Tp.bar {L C dx : Addr} {fs : List (Str × V)} (e : H L = some (.ins C dx fs)) (b : Bar L H H') {v : V} {d : PyData} (h : Tp K H v d) : Tp K H' v d := h.map (sqt_bar e b)
theorem TpAll.bar {L C dx : Addr} {fs : List (Str × V)} (e : H L = some (.ins C dx fs)) (b : Bar L H H') {v : List V} {d : List PyData} (h : TpAll K H v d) : TpAll K H' v d := h.map (sqt_bar e b)
theorem sqt_lst {l a : Addr} {ys xs : List V} {o : HO} (e : H l = some (.lst ys)) (h : SqT K H a xs) : SqT K (upd H l o) a xs := by
  rcases h with (h | ⟨o', h⟩) | h
  · exact .inl (.inl (by rw [upd_ne (fun z => by rw [z, e] at h; cases h)]; exact h))
  · exact .inl (.inr ⟨o', by rw [upd_ne (fun z => by rw [z, e] at h; cases h)]; exact h⟩)
  · exact .inr h
theorem Tp.lst {l : Addr} {ys : List V} {o : HO} (e : H l = some (.lst ys)) {v : V} {d : PyData} (h : Tp K H v d) : Tp K (upd H l o) v d := h.map (sqt_lst e)
theorem TpAll.lst {l : Addr} {ys : List V} {o : HO} (e : H l = some (.lst ys)) {v : List V} {d : List PyData} (h : TpAll K H v d) : TpAll K (upd H l o) v d := h.map (sqt_lst e)
theorem TpAll.append : ∀ {xs ys : List V} {ds es : List PyData}, TpAll K H xs ds → TpAll K H ys es → TpAll K H (xs ++ ys) (ds ++ es)
  | _, _, _, _, .nil, h => h
  | _, _, _, _, .cons a r, h => .cons a (TpAll.append r h)
theorem TpAll.length : ∀ {xs : List V} {ds : List PyData}, TpAll K H xs ds → xs.length = ds.length
  | _, _, .nil => rfl
  | _, _, .cons _ r => congrArg (· + 1) r.length
theorem TpAll.get : ∀ {xs : List V} {ds : List PyData} {i : Nat} {x : V}, TpAll K H xs ds → xs[i]? = some x → ∃ d, ds[i]? = some d ∧ Tp K H x d
  | _, _, 0, _, .cons a _, e => ⟨_, rfl, by cases e; exact a⟩
  | _, _, i + 1, _, .cons _ r, e => r.get (by simpa using e)
theorem TpAll.at : ∀ {xs : List V} {ds : List PyData} {i : Nat} {d : PyData}, TpAll K H xs ds → ds[i]? = some d → ∃ x, xs[i]? = some x ∧ Tp K H x d
  | _, _, 0, _, .cons a _, e => ⟨_, rfl, by cases e; exact a⟩
  | _, _, i + 1, _, .cons _ r, e => r.at (by simpa using e)
theorem tp_tup {v : V} {ds : List PyData} (h : Tp K H v (.tuple ds)) : ∃ a xs, v = .ref a ∧ SqT K H a xs ∧ TpAll K H xs ds := by
  cases h with
  | tup h r => exact ⟨_, _, rfl, h, r⟩
theorem tp_str {v : V} {x : Str} (h : Tp K H v (.str x)) : v = .str x := by
  cases h
  rfl
theorem tp_int {v : V} {x : Int} (h : Tp K H v (.int x)) : v = .int x := by
  cases h
  rfl
theorem tp_non {v : V} (h : Tp K H v .none) : v = .non := by
  cases h
  rfl
theorem tpa_strs : ∀ {vs : List V} {xs : List Str}, TpAll K H vs (xs.map PyData.str) → vs = xs.map V.str
  | _, [], .nil => rfl
  | _, _ :: _, .cons a r => by rw [tp_str a, tpa_strs r]; rfl
theorem tpa_of_strs : ∀ xs : List Str, TpAll K H (xs.map V.str) (xs.map PyData.str)
  | [] => .nil
  | x :: r => .cons (.str x) (tpa_of_strs r)
end
/-! ### numerals -/
def numS (v : Int) : Str := Str.ofString (toString v)
theorem num_ok {v : Int} (h0 : 0 ≤ v) (h : v < 10) : digitB (numS v) = true ∧ PySem.intText? (numS v) = some v ∧ wordB (numS v) = true := by
  have e : v = 0 ∨ v = 1 ∨ v = 2 ∨ v = 3 ∨ v = 4 ∨ v = 5 ∨ v = 6 ∨ v = 7 ∨ v = 8 ∨ v = 9 := by omega
  rcases e with rfl | rfl | rfl | rfl | rfl | rfl | rfl | rfl | rfl | rfl <;> decide +kernel
/-! ### cells -/
structure CellD where
  x : Str
  z : Int
  i : Int
def CellD.d (c : CellD) : PyData := .tuple [.str c.x, .int c.z, .int c.i]
def CellD.row (c : CellD) : Rw := ⟨false, ["cell", c.x, numS c.z, numS c.i]⟩
def CellD.ok (c : CellD) : Prop := nameB c.x = true ∧ c.x ≠ "it" ∧ 2 ≤ c.z ∧ c.z < 5 ∧ 0 ≤ c.i ∧ c.i < c.z
abbrev sTakeCells : Stmt := top 41
section
variable {P : Program} {w : World} {K : PySem.W.Frag} {mg : Str → Option Value} {base : Heap} {C : Addr}
def spCell (C : Addr) (K : PySem.W.Frag) : Sp := fun vs H Q _ => ∃ (L l : Addr) (page : List Rw) (n : Nat) (c : CellD) (names : List Str), vs = [.ref L, .ref l] ∧ PageAt C H L page n ∧ page[n]? = some c.row ∧ c.ok ∧ SqL K H l (names.map V.str) ∧ c.x ∉ names ∧
  ∀ v H', Bar L H H' → PageAt C H' L page (n + 1) → Tp K H' v c.d → Q v H'
theorem scCell : FnScope ["lines", "names", "_", "name", "size", "first"] ["lines", "names"] (defScope sTakeCell) := ⟨rfl, rfl, rfl, by decide +kernel, rfl, by decide +kernel, by decide +kernel⟩
theorem ok_cell {f : Addr} {fd : FuncData} (F : Fun K "take_cell" "take_cell" sTakeCell f fd) (T : Ln P w K mg base C) : FnOk P w K mg base CX0 4 f fd ["lines", "names"] (spCell C K) := by
  refine F.ok scCell (fun vs H Q E h => ?_) (fun cdv A outer s H vs Q E hr h => ?_)
  · obtain ⟨L, l, page, n, c, names, rfl, _⟩ := h
    rfl
  obtain ⟨L, l, page, n, c, names, rfl, pa, e, ⟨c1, c2, c3, c4, c5, c6⟩, hl, hin, k⟩ := h
  have nd := scCell.nd
  have hr1 : Room 1 (A.deeper (envOfC "take_cell" (defScope sTakeCell) s.heap.objs.size f cdv)) := hr.mono (by decide)
  have hr2 : Room 2 (A.deeper (envOfC "take_cell" (defScope sTakeCell) s.heap.objs.size f cdv)) := hr.mono (by decide)
  refine ⟨_, pss_cons (ps_asg (pe_M (pv 0) T.T.cl T.exactly_ hr (pa_cons pe_int (pa_cons (pe_tup (pa_cons pe_str pa_nil)) (pa_cons pe_int pa_nil)))) (pg_unl rfl (pgs_cons (pg_name (i := 2) nd rfl (.inl rfl)) (pgs_cons (pg_name (i := 3) nd rfl (.inl rfl)) (pgs_cons (pg_name (i := 4) nd rfl (.inl rfl)) (pgs_cons (pg_name (i := 5) nd rfl (.inl rfl)) pgs_nil))))))
    (pss_cons (ps_expr (pe_M (pv 0) T.T.cl T.need hr1 (pa_cons (pe_cmpR op_ne (pv 3) pe_str (nomark _)) pa_nil)))
    (pss_cons (ps_set (i := 3) nd rfl (.inl rfl) (pe_M (pv 0) T.T.cl T.newName hr2 (pa_cons (pv 3) (pa_cons (pv 1) pa_nil))))
    (pss_cons (ps_set (i := 4) nd rfl (.inl rfl) (pe_M (pv 0) T.T.cl T.numFrom hr2 (pa_cons (pv 4) (pa_cons pe_int (pa_cons pe_int pa_nil)))))
    (pss_one (ps_ret (pe_tup (pa_cons (pv 3) (pa_cons (pv 4) (pa_cons (pe_M (pv 0) T.T.cl T.numFrom hr2 (pa_cons (pv 5) (pa_cons pe_int (pa_cons (pv 4) pa_nil)))) pa_nil))))))))), ?_⟩
  obtain ⟨dx, R, hL⟩ := pa.at
  refine ⟨_, rfl, L, dx, _, rfl, hL, rfl, sz (by decide : 1 ≤ 1000), fun t ht => ?_⟩
  have s0 := same_new ht (.tup [.str "cell"])
  refine ⟨L, t, 0, 4, page, ["cell"], _, n, rfl, pa.same s0, .inl rfl, SqT.of upd_same, e, by simp [nextB], rfl, fun q H1 b1 nq nqL e1 pa1 => ?_⟩
  have b01 := (Bar.of s0).trans b1
  have hl1 := sql_bar hL b01 hl
  refine ⟨q, _, rfl, SqL.of e1, rfl, ?_⟩
  obtain ⟨dy, R2, hL1⟩ := pa1.at
  refine ⟨_, _, rfl, _, _, rfl, _, _, rfl, _, _, rfl, rfl, ?_⟩
  refine ⟨_, rfl, L, dy, _, rfl, hL1, rfl, _, rfl, rfl, ?_⟩
  have e3 : (!decide (V.str c.x = V.str "it")) = true := by
    rw [decide_eq_false (fun z => c2 (V.str.inj z))]
    rfl
  refine ⟨L, ne_ e3, _, rfl, L, dy, _, rfl, hL1, rfl, _, rfl, _, rfl, L, l, c.x, names, page.map Rw.text, n + 1, rfl, pa1.la, c1, hl1, hin, fun H2 s2 => ?_⟩
  have pa2 := pa1.same s2
  have hL2 := s2 _ _ hL1
  obtain ⟨g1, g2, _⟩ := num_ok (v := c.z) (by omega) (by omega)
  obtain ⟨g3, g4, _⟩ := num_ok (v := c.i) (by omega) (by omega)
  refine ⟨_, rfl, L, dy, _, rfl, hL2, rfl, _, rfl, L, numS c.z, c.z, 2, 5, page.map Rw.text, n + 1, rfl, pa2.la, g1, g2, c3, c4, fun H3 s3 => ?_⟩
  have pa3 := pa2.same s3
  have hL3 := s3 _ _ hL2
  refine ⟨_, rfl, _, rfl, _, rfl, L, dy, _, rfl, hL3, rfl, _, rfl, _, rfl, L, numS c.i, c.i, 0, c.z, page.map Rw.text, n + 1, rfl, pa3.la, g3, g4, c5, c6, fun H4 s4 => ?_⟩
  refine ⟨sz (by decide : 3 ≤ 1000), fun p hp => ?_⟩
  have s5 := same_new hp (.tup [.str c.x, .int c.z, .int c.i])
  exact k _ _ (b01.trans (Bar.of (s2.trans (s3.trans (s4.trans s5))))) ((pa3.same s4).same s5) (.tup (SqT.of upd_same) (.cons (.str _) (.cons (.int _) (.cons (.int _) .nil))))
end
end Hx
set_option maxRecDepth 100000
set_option maxHeartbeats 4000000
namespace Hx
open PySem PySem.Spec PyProof.Rows L2
theorem ix_tupK {X : Cx} (K : PySem.W.Frag) (h : X.K = K := by rfl) : IxR X (rIxT K) := by
  subst h
  exact ix_tup
theorem op_in_seqK {X : Cx} (K : PySem.W.Frag) (h : X.K = K := by rfl) : OpR X (compareOp .In) (rIn K false) := by
  subst h
  exact op_in_seq
/-- the name with which a datum begins -/
def hdS : PyData → Str
  | .tuple (.str x :: _) => x
  | _ => Str.empty
def headed : PyData → Prop
  | .tuple (.str _ :: _) => True
  | _ => False
/-- [known[0] for known in xs] -/
theorem lc_heads {K : PySem.W.Frag} {σ : L2.St} {H : Hp} {l : Addr} {xs : List V} {ds : List PyData} {s i : Nat} {Q : VK} (es : σ[s]? = some (some (.ref l))) (hi : i < σ.length) (hl : SqL K H l xs) (hx : TpAll K H xs ds) (hd : ∀ d ∈ ds, headed d) (few : ds.length ≤ 900)
    (k : ∀ D H', Same H H' → H D = none → H' D = some (.lst ((ds.map hdS).map V.str)) → Q (.ref D) H') : tLc (iList K (tVar s)) (gName i) tYes (tOp (rIxT K) (tVar i) (tC (.int 0))) [i] σ H Q := by
  have ln := hx.length
  refine ⟨_, es, l, rfl, ⟨_, hl⟩, fun D hD => lc_list (xs := xs) (fun j H' => Same H H' ∧ H' D = some (.lst (((ds.take j).map hdS).map V.str))) ⟨same_new hD _, by rw [upd_same]; rfl⟩ (fun j H' _ z => same_sql z.1 hl) ?_ (fun H' z => k D H' z.1 hD (by have := z.2; rwa [ln, List.take_length] at this))⟩
  rintro j x H' hj ⟨sm, eD⟩
  obtain ⟨d, ed, tp⟩ := hx.get hj
  have hlt : j < ds.length := (List.getElem?_eq_some_iff.mp ed).1
  obtain ⟨y, r, rfl⟩ : ∃ y r, d = .tuple (.str y :: r) := by
    have := hd d (List.mem_of_getElem? ed)
    unfold headed at this
    split at this
    · exact ⟨_, _, rfl⟩
    · exact this.elim
  obtain ⟨a, ys, rfl, hs, ha⟩ := tp_tup (tp.same sm)
  cases ha with
  | cons h0 hr =>
    have e0 := tp_str h0
    subst e0
    refine ⟨set2, yes ⟨_, get_same hi, a, _, 0, _, rfl, rfl, hs, atI_nat (j := 0) rfl, _, eD, ?_, same_grow hD sm, ?_⟩⟩
    · rw [List.length_map, List.length_map, List.length_take]
      exact small1000 (by omega)
    · rw [upd_same, List.take_add_one, ed, List.map_append, List.map_append]
      rfl
/-- .. of a tuple -/
theorem lc_headsT {K : PySem.W.Frag} {σ : L2.St} {H : Hp} {l : Addr} {xs : List V} {ds : List PyData} {s i : Nat} {Q : VK} (es : σ[s]? = some (some (.ref l))) (hi : i < σ.length) (hl : SqT K H l xs) (hx : TpAll K H xs ds) (hd : ∀ d ∈ ds, headed d) (few : ds.length ≤ 900)
    (k : ∀ D H', Same H H' → H D = none → H' D = some (.lst ((ds.map hdS).map V.str)) → Q (.ref D) H') : tLc (iTup K (tVar s)) (gName i) tYes (tOp (rIxT K) (tVar i) (tC (.int 0))) [i] σ H Q := by
  have ln := hx.length
  refine ⟨_, es, l, rfl, ⟨_, hl⟩, fun D hD => lc_tup (xs := xs) (fun j H' => Same H H' ∧ H' D = some (.lst (((ds.take j).map hdS).map V.str))) ⟨same_new hD _, by rw [upd_same]; rfl⟩ (fun j H' _ z => same_sqt z.1 hl) ?_ (fun H' z => k D H' z.1 hD (by have := z.2; rwa [ln, List.take_length] at this))⟩
  rintro j x H' hj ⟨sm, eD⟩
  obtain ⟨d, ed, tp⟩ := hx.get hj
  have hlt : j < ds.length := (List.getElem?_eq_some_iff.mp ed).1
  obtain ⟨y, r, rfl⟩ : ∃ y r, d = .tuple (.str y :: r) := by
    have := hd d (List.mem_of_getElem? ed)
    unfold headed at this
    split at this
    · exact ⟨_, _, rfl⟩
    · exact this.elim
  obtain ⟨a, ys, rfl, hs, ha⟩ := tp_tup (tp.same sm)
  cases ha with
  | cons h0 hr =>
    have e0 := tp_str h0
    subst e0
    refine ⟨set2, yes ⟨_, get_same hi, a, _, 0, _, rfl, rfl, hs, atI_nat (j := 0) rfl, _, eD, ?_, same_grow hD sm, ?_⟩⟩
    · rw [List.length_map, List.length_map, List.length_take]
      exact small1000 (by omega)
    · rw [upd_same, List.take_add_one, ed, List.map_append, List.map_append]
      rfl
theorem bar_grow {L D : Addr} {H H' : Hp} {o : HO} (hD : H D = none) (b : Bar L H H') : Bar L H (upd H' D o) := fun c u n e => by
  rw [upd_ne (ne_of_none e hD)]
  exact b c u n e
theorem ne_rows {K : PySem.W.Frag} {H : Hp} {xs : List V} {ds : List PyData} {page : List Rw} (hx : TpAll K H xs ds) (hd : ∀ d ∈ ds, headed d) (hp : page ≠ []) : xs ≠ (page.map Rw.text).map V.str := by
  intro z
  obtain ⟨r, rs, rfl⟩ := List.exists_cons_of_ne_nil hp
  cases hx with
  | nil => cases z
  | cons h t =>
    rename_i v vs d ds
    have e := (List.cons.inj z).1
    subst e
    have := hd d (List.mem_cons_self ..)
    unfold headed at this
    split at this
    · cases h
    · exact this
theorem page_lst {C l L : Addr} {H : Hp} {xs : List V} {o : HO} {page : List Rw} {n : Nat} (el : H l = some (.lst xs)) (ne : xs ≠ (page.map Rw.text).map V.str) (h : PageAt C H L page n) : PageAt C (upd H l o) L page n := by
  obtain ⟨⟨⟨dx, R, e1, e2⟩, f, g⟩, ok, le⟩ := h
  have n1 : L ≠ l := fun z => by
    rw [z, el] at e1
    cases e1
  have n2 : R ≠ l := fun z => by
    rw [z, el] at e2
    have := Option.some.inj e2
    exact ne (HO.lst.inj this)
  exact ⟨⟨⟨dx, R, by rw [upd_ne n1]; exact e1, by rw [upd_ne n2]; exact e2⟩, f, g⟩, ok, le⟩
theorem page_ne {page : List Rw} {n : Nat} {r : Rw} (e : page[n]? = some r) : page ≠ [] := fun z => by
  rw [z] at e
  cases e
/-- what stands from n on -/
def At (page : List Rw) (n : Nat) (rs : List Rw) : Prop := ∀ j r, rs[j]? = some r → page[n + j]? = some r
section
variable {P : Program} {w : World} {K : PySem.W.Frag} {mg : Str → Option Value} {base : Heap} {C : Addr}
/-! ### take_cells -/
def spCells (C : Addr) (K : PySem.W.Frag) : Sp := fun vs H Q _ => ∃ (L : Addr) (page : List Rw) (n : Nat) (cs : List CellD), vs = [.ref L] ∧ PageAt C H L page n ∧ At page n (cs.map CellD.row) ∧ 1 ≤ cs.length ∧ cs.length ≤ 3 ∧ (∀ c ∈ cs, c.ok) ∧ (cs.map (·.x)).Nodup ∧ nextP page (n + cs.length) 0 ["cell"] = false ∧
  ∀ v H', Bar L H H' → PageAt C H' L page (n + cs.length) → Tp K H' v (.tuple (cs.map CellD.d)) → Q v H'
theorem scCells : FnScope ["lines", "cells", "cell"] ["lines"] (defScope sTakeCells) := ⟨rfl, rfl, rfl, by decide +kernel, rfl, by decide +kernel, by decide +kernel⟩
theorem cells_hd (cs : List CellD) : (cs.map CellD.d).map hdS = cs.map (·.x) := by
  rw [List.map_map]
  rfl
theorem cells_headed (cs : List CellD) : ∀ d ∈ cs.map CellD.d, headed d := by
  intro d hd
  obtain ⟨c, _, rfl⟩ := List.mem_map.mp hd
  trivial
theorem not_in_take {α β : Type} [DecidableEq β] {f : α → β} {cs : List α} (h : (cs.map f).Nodup) {j : Nat} {c : α} (e : cs[j]? = some c) : f c ∉ (cs.take j).map f := by
  intro m
  obtain ⟨y, hy, ey⟩ := List.mem_map.mp m
  obtain ⟨i, hi, ei⟩ := List.mem_iff_getElem.mp hy
  rw [List.length_take] at hi
  have e1 : (cs.map f)[i]? = some (f c) := by
    rw [List.getElem?_map]
    have : cs[i]? = some y := by
      rw [List.getElem_take] at ei
      exact List.getElem?_eq_some_iff.mpr ⟨by omega, ei⟩
    rw [this, ← ey]
    rfl
  have e2 : (cs.map f)[j]? = some (f c) := by
    rw [List.getElem?_map, e]
    rfl
  obtain ⟨h1, q1⟩ := List.getElem?_eq_some_iff.mp e1
  obtain ⟨h2, q2⟩ := List.getElem?_eq_some_iff.mp e2
  have := List.pairwise_iff_getElem.mp h i j h1 h2 (by omega)
  rw [q1, q2] at this
  exact this rfl
theorem ok_cells {f : Addr} {fd : FuncData} (F : Fun K "take_cells" "take_cells" sTakeCells f fd) (T : Ln P w K mg base C) (TC : DefOk P w K mg base "take_cell" 4 ["lines", "names"] (spCell C K)) : FnOk P w K mg base CX0 5 f fd ["lines"] (spCells C K) := by
  refine F.ok scCells (fun vs H Q E h => ?_) (fun cdv A outer s H vs Q E hr h => ?_)
  · obtain ⟨L, page, n, cs, rfl, _⟩ := h
    rfl
  obtain ⟨L, page, n, cs, rfl, pa, at_, c1, c3, ok, hnd, stop, k⟩ := h
  have nd := scCells.nd
  have hr3 : Room 3 (A.deeper (envOfC "take_cells" (defScope sTakeCells) s.heap.objs.size f cdv)) := hr.mono (by decide)
  refine ⟨_, pss_cons (ps_set (i := 1) nd rfl (.inl rfl) (pe_lst pa_nil))
    (pss_cons (ps_while PassesOwn.never (pt_val (pe_M (pv 0) T.T.cl T.more hr3 (pa_cons pe_int (pa_cons (pe_tup (pa_cons pe_str pa_nil)) (pa_cons (pv 1) (pa_cons pe_int (pa_cons pe_int pa_nil)))))))
      (pss_one (ps_expr (pe_bm PySem.F.plainAttrs_list PySem.F.slot_list_append PySem.F.type_list_append mt_append (pv 1) (pa_cons (pe_D TC hr rfl (pa_cons (pv 0) (pa_cons
        (pe_lc (own := [("cell", 2)]) (g := gName 2) (tt := tYes) rfl nd (pi_list (pv 1)) (blkOk_by (N := ["lines", "cells", "cell"]) (sc := defScope sTakeCells) (by decide +kernel)) (fun _ _ _ _ _ => pg_name (i := 2) nd rfl (Or.inl rfl)) (fun _ _ _ _ _ => pts_nil) (fun _ _ _ _ _ => pe_ix (ix_tupK K) (pv 2) pe_int (fun _ _ => rfl))) pa_nil))) pa_nil)))))
    (pss_one (ps_ret (pe_callTy call_tuple_of rfl T.tuple PyProof.Rows.Boot.«tuple» (pa_cons (pv 1) pa_nil))))), ?_⟩
  refine ⟨sz (by decide : 0 ≤ 1000), fun l hl => ?_⟩
  have hlL : l ≠ L := fun z => by
    obtain ⟨dx, R, e⟩ := pa.at
    rw [z, e] at hl
    cases hl
  have s0 := same_new hl (.lst [])
  refine ⟨fun m σ H' => ∃ (j : Nat) (xs : List V), m = cs.length - j ∧ j ≤ cs.length ∧ σ = [some (.ref L), some (.ref l), none] ∧ Bar L H H' ∧ PageAt C H' L page (n + j) ∧ H' l = some (.lst xs) ∧ TpAll K H' xs ((cs.take j).map CellD.d), ⟨_, 0, [], rfl, Nat.zero_le _, rfl, Bar.of s0, pa.same s0, upd_same, .nil⟩, ?_⟩
  rintro m σ H' ⟨j, xs, rfl, hj, rfl, b, pj, el, tx⟩
  obtain ⟨dx, R, hL⟩ := pj.at
  have lx : xs.length = j := by
    rw [tx.length, List.length_map, List.length_take]
    omega
  refine ⟨_, rfl, L, dx, _, rfl, hL, rfl, sz (by decide : 1 ≤ 1000), fun t ht => ?_⟩
  have s1 := same_new ht (.tup [.str "cell"])
  have el1 := s1 _ _ el
  refine ⟨_, rfl, L, t, l, 0, page, ["cell"], n + j, xs, 1, 3, rfl, pj.same s1, .inl rfl, SqT.of upd_same, SqL.of el1, fun H2 s2 => ⟨_, rfl, ?_⟩⟩
  have s12 := s1.trans s2
  have el2 := s2 _ _ el1
  by_cases hlt : j < cs.length
  · have ej : cs[j]? = some cs[j] := List.getElem?_eq_getElem hlt
    have row := at_ j cs[j].row (by rw [List.getElem?_map, ej] <;> rfl)
    have yes' : (decide ((xs.length : Int) < 1) || (decide ((xs.length : Int) < 3) && nextP page (n + j) 0 ["cell"])) = true := by
      have a : nextP page (n + j) 0 ["cell"] = true := by
        unfold nextP aheadP
        rw [row]
        rfl
      rw [a, lx, decide_eq_true (by omega : (j : Int) < 3)]
      simp
    rw [yes']
    refine iteT ⟨fun σ' H3 => ∃ (xs : List V), σ' = [some (.ref L), some (.ref l), none] ∧ Bar L H H3 ∧ PageAt C H3 L page (n + (j + 1)) ∧ H3 l = some (.lst xs) ∧ TpAll K H3 xs ((cs.take (j + 1)).map CellD.d), ?_, ?_⟩
    · rintro σ' H3 ⟨ys, rfl, b3, p3, e3, t3⟩
      exact ⟨cs.length - (j + 1), by omega, j + 1, ys, rfl, hlt, rfl, b3, p3, e3, t3⟩
    · refine ⟨_, rfl, .inl ⟨rfl, _, SqL.of el2⟩, _, rfl, ?_⟩
      refine lc_heads (s := 1) (i := 2) rfl (by show 2 < 3; decide) (SqL.of el2) (tx.same s12) (cells_headed _) (by rw [List.length_map, List.length_take]; omega) fun D H3 s3 hD eD => ?_
      rw [cells_hd] at eD
      refine ⟨L, D, page, n + j, cs[j], _, rfl, (pj.same s12).same s3, row, ok _ (List.getElem_mem hlt), SqL.of eD, not_in_take hnd ej, fun v H4 b4 p4 tv => ?_⟩
      have el4 := b4 l _ hlL (s3 _ _ el2)
      refine ⟨l, xs, v, rfl, rfl, el4, small1000 (by omega), ?_⟩
      have bb : Bar L H H4 := (b.trans (Bar.of (s12.trans s3))).trans b4
      obtain ⟨dz, Rz, hL3⟩ := ((pj.same s12).same s3).at
      refine ⟨xs ++ [v], rfl, bar_grow hl bb, ?_, upd_same, ?_⟩
      · exact page_lst el4 (ne_rows ((tx.same (s12.trans s3)).bar hL3 b4) (fun d hd => cells_headed cs d (by rw [List.map_take] at hd; exact List.mem_of_mem_take hd)) (page_ne row)) p4
      · have e5 : (cs.take (j + 1)).map CellD.d = (cs.take j).map CellD.d ++ [cs[j].d] := by
          rw [List.take_add_one, ej, List.map_append]
          rfl
        rw [e5]
        exact TpAll.append (((tx.same (s12.trans s3)).bar hL3 b4).lst el4) (.cons (tv.lst el4) .nil)
  · have e : j = cs.length := by omega
    subst e
    have no' : (decide ((xs.length : Int) < 1) || (decide ((xs.length : Int) < 3) && nextP page (n + cs.length) 0 ["cell"])) = false := by
      rw [stop, lx, decide_eq_false (by omega : ¬ (cs.length : Int) < 1)]
      simp
    rw [no']
    refine iteF ?_
    refine ⟨_, rfl, l, xs, rfl, .inl ⟨SqL.of el2, fun p hp => ?_⟩⟩
    have s3 := same_new hp (.tup xs)
    rw [List.take_length] at tx
    exact k _ _ (b.trans (Bar.of (s12.trans s3))) ((pj.same s12).same s3) (.tup (SqT.of upd_same) (tx.same (s12.trans s3)))
end
end Hx
set_option maxRecDepth 100000
set_option maxHeartbeats 4000000
namespace Hx
open PySem PySem.Spec PyProof.Rows L2
/-! ### kinds -/
structure FieldD where
  x : Str
  z : Option Int
def FieldD.d (f : FieldD) : PyData := .tuple [.str f.x, match f.z with | none => .none | some z => .int z]
def FieldD.row (f : FieldD) : Rw := ⟨true, match f.z with | none => ["who", f.x] | some z => ["worth", f.x, numS z]⟩
def FieldD.ok (f : FieldD) : Prop := nameB f.x = true ∧ ∀ z, f.z = some z → 2 ≤ z ∧ z < 5
structure KindD where
  x : Str
  fs : List FieldD
def KindD.d (k : KindD) : PyData := .tuple [.str k.x, .tuple (k.fs.map FieldD.d)]
def KindD.rows (k : KindD) : List Rw := ⟨false, ["kind", k.x]⟩ :: k.fs.map FieldD.row
def KindD.ok (k : KindD) : Prop := nameB k.x = true ∧ k.fs.length ≤ 3 ∧ (k.fs.map (·.x)).Nodup ∧ ∀ f ∈ k.fs, f.ok
abbrev sTakeField : Stmt := top 42
abbrev sTakeKind : Stmt := top 43
abbrev sTakeKinds : Stmt := top 44
theorem fields_hd (cs : List FieldD) : (cs.map FieldD.d).map hdS = cs.map (·.x) := by
  rw [List.map_map]
  rfl
theorem fields_headed (cs : List FieldD) : ∀ d ∈ cs.map FieldD.d, headed d := by
  intro d hd
  obtain ⟨c, _, rfl⟩ := List.mem_map.mp hd
  trivial
theorem kinds_hd (cs : List KindD) : (cs.map KindD.d).map hdS = cs.map (·.x) := by
  rw [List.map_map]
  rfl
theorem kinds_headed (cs : List KindD) : ∀ d ∈ cs.map KindD.d, headed d := by
  intro d hd
  obtain ⟨c, _, rfl⟩ := List.mem_map.mp hd
  trivial
theorem At.head {page : List Rw} {n : Nat} {r : Rw} {rs : List Rw} (h : At page n (r :: rs)) : page[n]? = some r := h 0 r rfl
theorem At.left {page : List Rw} {n : Nat} {as bs : List Rw} (h : At page n (as ++ bs)) : At page n as := fun j r e => h j r (by
  rw [List.getElem?_append_left (List.getElem?_eq_some_iff.mp e).1]
  exact e)
theorem At.right {page : List Rw} {n : Nat} {as bs : List Rw} (h : At page n (as ++ bs)) : At page (n + as.length) bs := fun j r e => by
  have z := h (as.length + j) r (by rw [List.getElem?_append_right (by omega), Nat.add_sub_cancel_left]; exact e)
  rwa [← Nat.add_assoc] at z
theorem At.tail {page : List Rw} {n : Nat} {r : Rw} {rs : List Rw} (h : At page n (r :: rs)) : At page (n + 1) rs := At.right (as := [r]) h
section
variable {P : Program} {w : World} {K : PySem.W.Frag} {mg : Str → Option Value} {base : Heap} {C : Addr}
def spField (C : Addr) (K : PySem.W.Frag) : Sp := fun vs H Q _ => ∃ (L l : Addr) (page : List Rw) (n : Nat) (c : FieldD) (names : List Str), vs = [.ref L, .ref l] ∧ PageAt C H L page n ∧ page[n]? = some c.row ∧ c.ok ∧ SqL K H l (names.map V.str) ∧ c.x ∉ names ∧
  ∀ v H', Bar L H H' → PageAt C H' L page (n + 1) → Tp K H' v c.d → Q v H'
theorem scField : FnScope ["lines", "names", "_", "name", "size"] ["lines", "names"] (defScope sTakeField) := ⟨rfl, rfl, rfl, by decide +kernel, rfl, by decide +kernel, by decide +kernel⟩
theorem ok_field {f : Addr} {fd : FuncData} (F : Fun K "take_field" "take_field" sTakeField f fd) (T : Ln P w K mg base C) : FnOk P w K mg base CX0 4 f fd ["lines", "names"] (spField C K) := by
  refine F.ok scField (fun vs H Q E h => ?_) (fun cdv A outer s H vs Q E hr h => ?_)
  · obtain ⟨L, l, page, n, c, names, rfl, _⟩ := h
    rfl
  obtain ⟨L, l, page, n, c, names, rfl, pa, e, ⟨c1, c2⟩, hl, hin, k⟩ := h
  have nd := scField.nd
  have hr2 : Room 2 (A.deeper (envOfC "take_field" (defScope sTakeField) s.heap.objs.size f cdv)) := hr.mono (by decide)
  refine ⟨_, pss_cons (ps_if (pt_val (pe_M (pv 0) T.T.cl T.next hr2 (pa_cons pe_int (pa_cons (pe_tup (pa_cons pe_str pa_nil)) pa_nil))))
      (pss_one (ps_ret (pe_tup (pa_cons (pe_M (pv 0) T.T.cl T.newName hr2 (pa_cons (pe_ix ix_list (pe_M (pv 0) T.T.cl T.exactly_ hr (pa_cons pe_int (pa_cons (pe_tup (pa_cons pe_str pa_nil)) (pa_cons pe_int pa_nil)))) pe_int (fun _ _ => rfl)) (pa_cons (pv 1) pa_nil))) (pa_cons pe_non pa_nil))))) pss_nil)
    (pss_cons (ps_asg (pe_M (pv 0) T.T.cl T.exactly_ hr (pa_cons pe_int (pa_cons (pe_tup (pa_cons pe_str pa_nil)) (pa_cons pe_int pa_nil)))) (pg_unl rfl (pgs_cons (pg_name (i := 2) nd rfl (.inl rfl)) (pgs_cons (pg_name (i := 3) nd rfl (.inl rfl)) (pgs_cons (pg_name (i := 4) nd rfl (.inl rfl)) pgs_nil)))))
    (pss_one (ps_ret (pe_tup (pa_cons (pe_M (pv 0) T.T.cl T.newName hr2 (pa_cons (pv 3) (pa_cons (pv 1) pa_nil))) (pa_cons (pe_M (pv 0) T.T.cl T.numFrom hr2 (pa_cons (pv 4) (pa_cons pe_int (pa_cons pe_int pa_nil)))) pa_nil)))))), ?_⟩
  obtain ⟨dx, R, hL⟩ := pa.at
  refine ⟨_, rfl, L, dx, _, rfl, hL, rfl, sz (by decide : 1 ≤ 1000), fun t ht => ?_⟩
  have s0 := same_new ht (.tup [.str "who"])
  refine ⟨L, t, 1, page, ["who"], n, rfl, pa.same s0, .inr rfl, SqT.of upd_same, fun H1 s1 => ⟨_, rfl, ?_⟩⟩
  have s01 := s0.trans s1
  have pa1 := pa.same s01
  have hL1 := s01 _ _ hL
  obtain ⟨x, z⟩ := c
  cases z with
  | none =>
    have row : page[n]? = some ⟨true, ["who", x]⟩ := e
    have a : nextP page n 1 ["who"] = true := by
      unfold nextP aheadP
      rw [row]
      rfl
    rw [a]
    refine iteT ?_
    refine ⟨_, rfl, L, dx, _, rfl, hL1, rfl, _, rfl, L, dx, _, rfl, hL1, rfl, sz (by decide : 1 ≤ 1000), fun t2 ht2 => ?_⟩
    have s2 := same_new ht2 (.tup [.str "who"])
    refine ⟨L, t2, 1, 2, page, ["who"], _, n, rfl, pa1.same s2, .inr rfl, SqT.of upd_same, row, by simp [nextB], rfl, fun q H3 b3 nq nqL e3 pa3 => ?_⟩
    have b03 := (Bar.of (s01.trans s2)).trans b3
    refine ⟨q, _, 1, .str x, rfl, rfl, SqL.of e3, atI_nat (j := 1) rfl, _, rfl, ?_⟩
    refine ⟨L, l, x, names, page.map Rw.text, n + 1, rfl, pa3.la, c1, sql_bar hL b03 hl, hin, fun H4 s4 => ?_⟩
    refine ⟨sz (by decide : 2 ≤ 1000), fun p hp => ?_⟩
    have s5 := same_new hp (.tup [.str x, .non])
    exact k _ _ (b03.trans (Bar.of (s4.trans s5))) ((pa3.same s4).same s5) (.tup (SqT.of upd_same) (.cons (.str _) (.cons .non .nil)))
  | some z =>
    have row : page[n]? = some ⟨true, ["worth", x, numS z]⟩ := e
    have a : nextP page n 1 ["who"] = false := by
      unfold nextP aheadP
      rw [row]
      rfl
    rw [a]
    refine iteF ?_
    obtain ⟨z1, z2⟩ := c2 z rfl
    refine ⟨_, rfl, L, dx, _, rfl, hL1, rfl, sz (by decide : 1 ≤ 1000), fun t2 ht2 => ?_⟩
    have s2 := same_new ht2 (.tup [.str "worth"])
    refine ⟨L, t2, 1, 3, page, ["worth"], _, n, rfl, pa1.same s2, .inr rfl, SqT.of upd_same, row, by simp [nextB], rfl, fun q H3 b3 nq nqL e3 pa3 => ?_⟩
    have b03 := (Bar.of (s01.trans s2)).trans b3
    refine ⟨q, _, rfl, SqL.of e3, rfl, ?_⟩
    refine ⟨_, _, rfl, _, _, rfl, _, _, rfl, rfl, ?_⟩
    obtain ⟨dy, R2, hL3⟩ := pa3.at
    refine ⟨_, rfl, L, dy, _, rfl, hL3, rfl, _, rfl, _, rfl, L, l, x, names, page.map Rw.text, n + 1, rfl, pa3.la, c1, sql_bar hL b03 hl, hin, fun H4 s4 => ?_⟩
    have pa4 := pa3.same s4
    have hL4 := s4 _ _ hL3
    obtain ⟨g1, g2, _⟩ := num_ok (v := z) (by omega) (by omega)
    refine ⟨_, rfl, L, dy, _, rfl, hL4, rfl, _, rfl, L, numS z, z, 2, 5, page.map Rw.text, n + 1, rfl, pa4.la, g1, g2, z1, z2, fun H5 s5 => ?_⟩
    refine ⟨sz (by decide : 2 ≤ 1000), fun p hp => ?_⟩
    have s6 := same_new hp (.tup [.str x, .int z])
    exact k _ _ (b03.trans (Bar.of (s4.trans (s5.trans s6)))) ((pa4.same s5).same s6) (.tup (SqT.of upd_same) (.cons (.str _) (.cons (.int _) .nil)))
/-! ### take_kind -/
def spKind (C : Addr) (K : PySem.W.Frag) : Sp := fun vs H Q _ => ∃ (L a : Addr) (page : List Rw) (n : Nat) (c : KindD) (names : List Str), vs = [.ref L, .ref a] ∧ PageAt C H L page n ∧ At page n c.rows ∧ c.ok ∧ SqL K H a (names.map V.str) ∧ c.x ∉ names ∧ nextP page (n + c.rows.length) 1 ["who", "worth"] = false ∧
  ∀ v H', Bar L H H' → PageAt C H' L page (n + c.rows.length) → Tp K H' v c.d → Q v H'
theorem scKind : FnScope ["lines", "names", "name", "fields", "field"] ["lines", "names"] (defScope sTakeKind) := ⟨rfl, rfl, rfl, by decide +kernel, rfl, by decide +kernel, by decide +kernel⟩
theorem field_next {page : List Rw} {m : Nat} {c : FieldD} (e : page[m]? = some c.row) : nextP page m 1 ["who", "worth"] = true := by
  obtain ⟨x, z⟩ := c
  unfold nextP aheadP
  rw [e]
  cases z <;> rfl
theorem ok_kind {f : Addr} {fd : FuncData} (F : Fun K "take_kind" "take_kind" sTakeKind f fd) (T : Ln P w K mg base C) (TC : DefOk P w K mg base "take_field" 4 ["lines", "names"] (spField C K)) : FnOk P w K mg base CX0 5 f fd ["lines", "names"] (spKind C K) := by
  refine F.ok scKind (fun vs H Q E h => ?_) (fun cdv A outer s H vs Q E hr h => ?_)
  · obtain ⟨L, a, page, n, c, names, rfl, _⟩ := h
    rfl
  obtain ⟨L, a, page, n, ⟨x, cs⟩, names, rfl, pa, at_, ⟨c1, c3, hnd, ok⟩, ha, hin, stop, k⟩ := h
  have nd := scKind.nd
  have hr3 : Room 3 (A.deeper (envOfC "take_kind" (defScope sTakeKind) s.heap.objs.size f cdv)) := hr.mono (by decide)
  have hr2 : Room 2 (A.deeper (envOfC "take_kind" (defScope sTakeKind) s.heap.objs.size f cdv)) := hr.mono (by decide)
  refine ⟨_, pss_cons (ps_set (i := 2) nd rfl (.inl rfl) (pe_M (pv 0) T.T.cl T.newName hr2 (pa_cons (pe_ix ix_list (pe_M (pv 0) T.T.cl T.exactly_ hr3 (pa_cons pe_int (pa_cons (pe_tup (pa_cons pe_str pa_nil)) (pa_cons pe_int pa_nil)))) pe_int (fun _ _ => rfl)) (pa_cons (pv 1) pa_nil))))
    (pss_cons (ps_set (i := 3) nd rfl (.inl rfl) (pe_lst pa_nil))
    (pss_cons (ps_while PassesOwn.never (pt_val (pe_M (pv 0) T.T.cl T.more hr3 (pa_cons pe_int (pa_cons (pe_tup (pa_cons pe_str (pa_cons pe_str pa_nil))) (pa_cons (pv 3) (pa_cons pe_int (pa_cons pe_int pa_nil)))))))
      (pss_one (ps_expr (pe_bm PySem.F.plainAttrs_list PySem.F.slot_list_append PySem.F.type_list_append mt_append (pv 3) (pa_cons (pe_D TC hr rfl (pa_cons (pv 0) (pa_cons
        (pe_lc (own := [("field", 4)]) (g := gName 4) (tt := tYes) rfl nd (pi_list (pv 3)) (blkOk_by (N := ["lines", "names", "name", "fields", "field"]) (sc := defScope sTakeKind) (by decide +kernel)) (fun _ _ _ _ _ => pg_name (i := 4) nd rfl (Or.inl rfl)) (fun _ _ _ _ _ => pts_nil) (fun _ _ _ _ _ => pe_ix (ix_tupK K) (pv 4) pe_int (fun _ _ => rfl))) pa_nil))) pa_nil)))))
    (pss_one (ps_ret (pe_tup (pa_cons (pv 2) (pa_cons (pe_callTy call_tuple_of rfl T.tuple PyProof.Rows.Boot.«tuple» (pa_cons (pv 3) pa_nil)) pa_nil))))))), ?_⟩
  obtain ⟨dx, R, hL⟩ := pa.at
  have c3' : cs.length ≤ 3 := c3
  have head := at_.head
  have rest := at_.tail
  have rlen : (KindD.rows ⟨x, cs⟩).length = cs.length + 1 := by
    show (cs.map FieldD.row).length + 1 = _
    rw [List.length_map]
  rw [rlen] at stop k
  refine ⟨_, rfl, L, dx, _, rfl, hL, rfl, _, rfl, L, dx, _, rfl, hL, rfl, sz (by decide : 1 ≤ 1000), fun t ht => ?_⟩
  have s0 := same_new ht (.tup [.str "kind"])
  refine ⟨L, t, 0, 2, page, ["kind"], _, n, rfl, pa.same s0, .inl rfl, SqT.of upd_same, head, by simp [nextB], rfl, fun q H1 b1 nq nqL e1 pa1 => ?_⟩
  have b01 := (Bar.of s0).trans b1
  refine ⟨q, _, 1, .str x, rfl, rfl, SqL.of e1, atI_nat (j := 1) rfl, _, rfl, ?_⟩
  refine ⟨L, a, x, names, page.map Rw.text, n + 1, rfl, pa1.la, c1, sql_bar hL b01 ha, hin, fun H2 s2 => ?_⟩
  have pa2 := pa1.same s2
  have b02 := b01.trans (Bar.of s2)
  refine ⟨sz (by decide : 0 ≤ 1000), fun l hl => ?_⟩
  have hlL : l ≠ L := fun z => by
    obtain ⟨dx, R, e⟩ := pa2.at
    rw [z, e] at hl
    cases hl
  have s3 := same_new hl (.lst [])
  refine ⟨fun m σ H' => ∃ (j : Nat) (xs : List V), m = cs.length - j ∧ j ≤ cs.length ∧ σ = [some (.ref L), some (.ref a), some (.str x), some (.ref l), none] ∧ Bar L H2 H' ∧ PageAt C H' L page (n + 1 + j) ∧ H' l = some (.lst xs) ∧ TpAll K H' xs ((cs.take j).map FieldD.d), ⟨_, 0, [], rfl, Nat.zero_le _, rfl, Bar.of s3, pa2.same s3, upd_same, .nil⟩, ?_⟩
  rintro m σ H' ⟨j, xs, rfl, hj, rfl, b, pj, el, tx⟩
  obtain ⟨dx2, R2, hL2⟩ := pj.at
  have lx : xs.length = j := by
    rw [tx.length, List.length_map, List.length_take]
    omega
  refine ⟨_, rfl, L, dx2, _, rfl, hL2, rfl, sz (by decide : 2 ≤ 1000), fun t2 ht2 => ?_⟩
  have s4 := same_new ht2 (.tup [.str "who", .str "worth"])
  have el1 := s4 _ _ el
  refine ⟨_, rfl, L, t2, l, 1, page, ["who", "worth"], n + 1 + j, xs, 0, 3, rfl, pj.same s4, .inr rfl, SqT.of upd_same, SqL.of el1, fun H5 s5 => ⟨_, rfl, ?_⟩⟩
  have s45 := s4.trans s5
  have el2 := s5 _ _ el1
  by_cases hlt : j < cs.length
  · have ej : cs[j]? = some cs[j] := List.getElem?_eq_getElem hlt
    have row := rest j cs[j].row (by rw [List.getElem?_map, ej] <;> rfl)
    have yes' : (decide ((xs.length : Int) < 0) || (decide ((xs.length : Int) < 3) && nextP page (n + 1 + j) 1 ["who", "worth"])) = true := by
      rw [field_next row, lx, decide_eq_true (by omega : (j : Int) < 3)]
      simp
    rw [yes']
    refine iteT ⟨fun σ' H3 => ∃ (xs : List V), σ' = [some (.ref L), some (.ref a), some (.str x), some (.ref l), none] ∧ Bar L H2 H3 ∧ PageAt C H3 L page (n + 1 + (j + 1)) ∧ H3 l = some (.lst xs) ∧ TpAll K H3 xs ((cs.take (j + 1)).map FieldD.d), ?_, ?_⟩
    · rintro σ' H3 ⟨ys, rfl, b3, p3, e3, t3⟩
      exact ⟨cs.length - (j + 1), by omega, j + 1, ys, rfl, hlt, rfl, b3, p3, e3, t3⟩
    · refine ⟨_, rfl, .inl ⟨rfl, _, SqL.of el2⟩, _, rfl, ?_⟩
      refine lc_heads (s := 3) (i := 4) rfl (by show 4 < 5; decide) (SqL.of el2) (tx.same s45) (fields_headed _) (by rw [List.length_map, List.length_take]; omega) fun D H6 s6 hD eD => ?_
      rw [fields_hd] at eD
      have p6 := (pj.same s45).same s6
      refine ⟨L, D, page, n + 1 + j, cs[j], _, rfl, p6, row, ok _ (List.getElem_mem hlt), SqL.of eD, not_in_take hnd ej, fun v H7 b7 p7 tv => ?_⟩
      have el7 := b7 l _ hlL (s6 _ _ el2)
      refine ⟨l, xs, v, rfl, rfl, el7, small1000 (by omega), ?_⟩
      have bb : Bar L H2 H7 := (b.trans (Bar.of (s45.trans s6))).trans b7
      obtain ⟨dz, Rz, hL6⟩ := p6.at
      have tx7 := ((tx.same (s45.trans s6)).bar hL6 b7)
      refine ⟨xs ++ [v], rfl, bar_grow hl bb, ?_, upd_same, ?_⟩
      · exact page_lst el7 (ne_rows tx7 (fun d hd => fields_headed cs d (by rw [List.map_take] at hd; exact List.mem_of_mem_take hd)) (page_ne row)) p7
      · have e5 : (cs.take (j + 1)).map FieldD.d = (cs.take j).map FieldD.d ++ [cs[j].d] := by
          rw [List.take_add_one, ej, List.map_append]
          rfl
        rw [e5]
        exact TpAll.append (tx7.lst el7) (.cons (tv.lst el7) .nil)
  · have e : j = cs.length := by omega
    subst e
    have no' : (decide ((xs.length : Int) < 0) || (decide ((xs.length : Int) < 3) && nextP page (n + 1 + cs.length) 1 ["who", "worth"])) = false := by
      rw [show n + 1 + cs.length = n + (cs.length + 1) by omega, stop, lx, decide_eq_false (by omega : ¬ (cs.length : Int) < 0)]
      simp
    rw [no']
    refine iteF ?_
    refine ⟨_, rfl, _, rfl, l, xs, rfl, .inl ⟨SqL.of el2, fun p hp => ?_⟩⟩
    have s6 := same_new hp (.tup xs)
    rw [List.take_length] at tx
    refine ⟨sz (by decide : 2 ≤ 1000), fun p2 hp2 => ?_⟩
    have s7 := same_new hp2 (.tup [.str x, .ref p])
    have pe_ := ((pj.same s45).same s6).same s7
    rw [show n + 1 + cs.length = n + (cs.length + 1) by omega] at pe_
    refine k _ _ ((b02.trans b).trans (Bar.of (s45.trans (s6.trans s7)))) pe_ (.tup (SqT.of upd_same) (.cons (.str _) (.cons (.tup (same_sqt s7 (SqT.of upd_same)) (tx.same (s45.trans (s6.trans s7)))) .nil)))
end
end Hx
set_option maxRecDepth 100000
set_option maxHeartbeats 4000000
namespace Hx
open PySem PySem.Spec PyProof.Rows L2
def kRows (ks : List KindD) : List Rw := ks.flatMap KindD.rows
theorem kRows_take {ks : List KindD} {j : Nat} {c : KindD} (e : ks[j]? = some c) : kRows (ks.take (j + 1)) = kRows (ks.take j) ++ c.rows := by
  unfold kRows
  rw [List.take_add_one, e, List.flatMap_append]
  simp
theorem kRows_split {ks : List KindD} {j : Nat} {c : KindD} (e : ks[j]? = some c) : ∃ B, kRows ks = kRows (ks.take j) ++ (c.rows ++ B) := by
  have hlt := (List.getElem?_eq_some_iff.mp e).1
  refine ⟨kRows (ks.drop (j + 1)), ?_⟩
  rw [← List.append_assoc, ← kRows_take e]
  unfold kRows
  rw [← List.flatMap_append, List.take_append_drop]
/-- a line that does not stand deeper is none of a deeper block's -/
theorem next_flat {page : List Rw} {m : Nat} {ws xs : List Str} (e : page[m]? = some ⟨false, ws⟩) : nextP page m 1 xs = false := by
  unfold nextP aheadP
  rw [e]
  rfl
section
variable {P : Program} {w : World} {K : PySem.W.Frag} {mg : Str → Option Value} {base : Heap} {C : Addr}
/-! ### take_kinds -/
def spKinds (C : Addr) (K : PySem.W.Frag) : Sp := fun vs H Q _ => ∃ (L : Addr) (page : List Rw) (n : Nat) (cs : List KindD), vs = [.ref L] ∧ PageAt C H L page n ∧ At page n (kRows cs) ∧ cs.length ≤ 3 ∧ (∀ c ∈ cs, c.ok) ∧ (cs.map (·.x)).Nodup ∧
  (∃ ws, page[n + (kRows cs).length]? = some ⟨false, ws⟩ ∧ nextB ws ["kind"] = false) ∧ ∀ v H', Bar L H H' → PageAt C H' L page (n + (kRows cs).length) → Tp K H' v (.tuple (cs.map KindD.d)) → Q v H'
theorem scKinds : FnScope ["lines", "kinds", "kind"] ["lines"] (defScope sTakeKinds) := ⟨rfl, rfl, rfl, by decide +kernel, rfl, by decide +kernel, by decide +kernel⟩
theorem ok_kinds {f : Addr} {fd : FuncData} (F : Fun K "take_kinds" "take_kinds" sTakeKinds f fd) (T : Ln P w K mg base C) (TC : DefOk P w K mg base "take_kind" 5 ["lines", "names"] (spKind C K)) : FnOk P w K mg base CX0 6 f fd ["lines"] (spKinds C K) := by
  refine F.ok scKinds (fun vs H Q E h => ?_) (fun cdv A outer s H vs Q E hr h => ?_)
  · obtain ⟨L, page, n, cs, rfl, _⟩ := h
    rfl
  obtain ⟨L, page, n, cs, rfl, pa, at_, c3, ok, hnd, ⟨ws, end1, end2⟩, k⟩ := h
  have nd := scKinds.nd
  have hr3 : Room 3 (A.deeper (envOfC "take_kinds" (defScope sTakeKinds) s.heap.objs.size f cdv)) := hr.mono (by decide)
  refine ⟨_, pss_cons (ps_set (i := 1) nd rfl (.inl rfl) (pe_lst pa_nil))
    (pss_cons (ps_while PassesOwn.never (pt_val (pe_M (pv 0) T.T.cl T.more hr3 (pa_cons pe_int (pa_cons (pe_tup (pa_cons pe_str pa_nil)) (pa_cons (pv 1) (pa_cons pe_int (pa_cons pe_int pa_nil)))))))
      (pss_one (ps_expr (pe_bm PySem.F.plainAttrs_list PySem.F.slot_list_append PySem.F.type_list_append mt_append (pv 1) (pa_cons (pe_D TC hr rfl (pa_cons (pv 0) (pa_cons
        (pe_lc (own := [("kind", 2)]) (g := gName 2) (tt := tYes) rfl nd (pi_list (pv 1)) (blkOk_by (N := ["lines", "kinds", "kind"]) (sc := defScope sTakeKinds) (by decide +kernel)) (fun _ _ _ _ _ => pg_name (i := 2) nd rfl (Or.inl rfl)) (fun _ _ _ _ _ => pts_nil) (fun _ _ _ _ _ => pe_ix (ix_tupK K) (pv 2) pe_int (fun _ _ => rfl))) pa_nil))) pa_nil)))))
    (pss_one (ps_ret (pe_callTy call_tuple_of rfl T.tuple PyProof.Rows.Boot.«tuple» (pa_cons (pv 1) pa_nil))))), ?_⟩
  refine ⟨sz (by decide : 0 ≤ 1000), fun l hl => ?_⟩
  have hlL : l ≠ L := fun z => by
    obtain ⟨dx, R, e⟩ := pa.at
    rw [z, e] at hl
    cases hl
  have s0 := same_new hl (.lst [])
  refine ⟨fun m σ H' => ∃ (j : Nat) (xs : List V), m = cs.length - j ∧ j ≤ cs.length ∧ σ = [some (.ref L), some (.ref l), none] ∧ Bar L H H' ∧ PageAt C H' L page (n + (kRows (cs.take j)).length) ∧ H' l = some (.lst xs) ∧ TpAll K H' xs ((cs.take j).map KindD.d), ⟨_, 0, [], rfl, Nat.zero_le _, rfl, Bar.of s0, pa.same s0, upd_same, .nil⟩, ?_⟩
  rintro m σ H' ⟨j, xs, rfl, hj, rfl, b, pj, el, tx⟩
  obtain ⟨dx, R, hL⟩ := pj.at
  have lx : xs.length = j := by
    rw [tx.length, List.length_map, List.length_take]
    omega
  refine ⟨_, rfl, L, dx, _, rfl, hL, rfl, sz (by decide : 1 ≤ 1000), fun t ht => ?_⟩
  have s1 := same_new ht (.tup [.str "kind"])
  have el1 := s1 _ _ el
  refine ⟨_, rfl, L, t, l, 0, page, ["kind"], n + (kRows (cs.take j)).length, xs, 0, 3, rfl, pj.same s1, .inl rfl, SqT.of upd_same, SqL.of el1, fun H2 s2 => ⟨_, rfl, ?_⟩⟩
  have s12 := s1.trans s2
  have el2 := s2 _ _ el1
  by_cases hlt : j < cs.length
  · have ej : cs[j]? = some cs[j] := List.getElem?_eq_getElem hlt
    obtain ⟨B, eB⟩ := kRows_split ej
    have rows : At page (n + (kRows (cs.take j)).length) (cs[j].rows ++ B) := by
      rw [eB] at at_
      exact at_.right
    have row := rows.left.head
    have yes' : (decide ((xs.length : Int) < 0) || (decide ((xs.length : Int) < 3) && nextP page (n + (kRows (cs.take j)).length) 0 ["kind"])) = true := by
      have a : nextP page (n + (kRows (cs.take j)).length) 0 ["kind"] = true := by
        unfold nextP aheadP
        rw [row]
        rfl
      rw [a, lx, decide_eq_true (by omega : (j : Int) < 3)]
      simp
    rw [yes']
    have e1 : n + (kRows (cs.take j)).length + cs[j].rows.length = n + (kRows (cs.take (j + 1))).length := by
      rw [kRows_take ej, List.length_append, Nat.add_assoc]
    have behind : nextP page (n + (kRows (cs.take j)).length + cs[j].rows.length) 1 ["who", "worth"] = false := by
      rw [e1]
      by_cases h2 : j + 1 < cs.length
      · have ej2 : cs[j + 1]? = some cs[j + 1] := List.getElem?_eq_getElem h2
        obtain ⟨B2, eB2⟩ := kRows_split ej2
        rw [eB2] at at_
        exact next_flat at_.right.left.head
      · have : cs.take (j + 1) = cs := List.take_of_length_le (by omega)
        rw [this]
        exact next_flat end1
    refine iteT ⟨fun σ' H3 => ∃ (xs : List V), σ' = [some (.ref L), some (.ref l), none] ∧ Bar L H H3 ∧ PageAt C H3 L page (n + (kRows (cs.take (j + 1))).length) ∧ H3 l = some (.lst xs) ∧ TpAll K H3 xs ((cs.take (j + 1)).map KindD.d), ?_, ?_⟩
    · rintro σ' H3 ⟨ys, rfl, b3, p3, e3, t3⟩
      exact ⟨cs.length - (j + 1), by omega, j + 1, ys, rfl, hlt, rfl, b3, p3, e3, t3⟩
    · refine ⟨_, rfl, .inl ⟨rfl, _, SqL.of el2⟩, _, rfl, ?_⟩
      refine lc_heads (s := 1) (i := 2) rfl (by show 2 < 3; decide) (SqL.of el2) (tx.same s12) (kinds_headed _) (by rw [List.length_map, List.length_take]; omega) fun D H3 s3 hD eD => ?_
      rw [kinds_hd] at eD
      have p3 := (pj.same s12).same s3
      refine ⟨L, D, page, _, cs[j], _, rfl, p3, rows.left, ok _ (List.getElem_mem hlt), SqL.of eD, not_in_take hnd ej, behind, fun v H4 b4 p4 tv => ?_⟩
      have el4 := b4 l _ hlL (s3 _ _ el2)
      refine ⟨l, xs, v, rfl, rfl, el4, small1000 (by omega), ?_⟩
      have bb : Bar L H H4 := (b.trans (Bar.of (s12.trans s3))).trans b4
      obtain ⟨dz, Rz, hL3⟩ := p3.at
      have tx4 := (tx.same (s12.trans s3)).bar hL3 b4
      rw [e1] at p4
      refine ⟨xs ++ [v], rfl, bar_grow hl bb, ?_, upd_same, ?_⟩
      · exact page_lst el4 (ne_rows tx4 (fun d hd => kinds_headed cs d (by rw [List.map_take] at hd; exact List.mem_of_mem_take hd)) (page_ne row)) p4
      · have e5 : (cs.take (j + 1)).map KindD.d = (cs.take j).map KindD.d ++ [cs[j].d] := by
          rw [List.take_add_one, ej, List.map_append]
          rfl
        rw [e5]
        exact TpAll.append (tx4.lst el4) (.cons (tv.lst el4) .nil)
  · have e : j = cs.length := by omega
    subst e
    rw [List.take_length] at tx pj
    have no' : (decide ((xs.length : Int) < 0) || (decide ((xs.length : Int) < 3) && nextP page (n + (kRows (cs.take cs.length)).length) 0 ["kind"])) = false := by
      have a : nextP page (n + (kRows (cs.take cs.length)).length) 0 ["kind"] = false := by
        rw [List.take_length]
        unfold nextP aheadP
        rw [end1]
        exact end2
      rw [a, decide_eq_false (by omega : ¬ (xs.length : Int) < 0)]
      simp
    rw [no']
    refine iteF ?_
    refine ⟨_, rfl, l, xs, rfl, .inl ⟨SqL.of el2, fun p hp => ?_⟩⟩
    have s3 := same_new hp (.tup xs)
    exact k _ _ (b.trans (Bar.of (s12.trans s3))) ((pj.same s12).same s3) (.tup (SqT.of upd_same) (tx.same (s12.trans s3)))
end
end Hx
set_option maxRecDepth 100000
set_option maxHeartbeats 4000000
namespace Hx
open PySem PySem.Spec PyProof.Rows L2
theorem seq_asg {te : TE} {g : TG} {rest : TS} {D : Ends} {σ : L2.St} {H : Hp} (h : te σ H fun x H1 => g x σ H1 (rest D)) : tSeq (tAsg te g) rest D σ H := h
/-! ### sources -/
inductive Src where
  | it | cell (j : Nat) | who | num (v : Int) | person (x : Str)
def Src.d : Src → PyData
  | .it => .tuple [.str "it", .int 0]
  | .cell j => .tuple [.str "cell", .int j]
  | .who => .tuple [.str "who", .int 0]
  | .num v => .tuple [.str "plain", .int v]
  | .person x => .tuple [.str "plain", .str x]
def Src.w (cs : List CellD) : Src → Str
  | .it => "it"
  | .cell j => (cs[j]?.map (·.x)).getD Str.empty
  | .who => "who"
  | .num v => numS v
  | .person x => x
/-- it fits where worths are below size -/
def Src.fits (cs : List CellD) (size pick : Int) : Src → Prop
  | .it => pick ≤ size
  | .cell j => ∃ c, cs[j]? = some c ∧ c.z ≤ size
  | .num v => 0 ≤ v ∧ v < size ∧ size < 10
  | _ => False
def Src.person? (people : List Str) : Src → Prop
  | .who => True
  | .person x => x ∈ people ∧ x ≠ "who"
  | _ => False
abbrev sSrcWorth : Stmt := top 13
abbrev sSrcPerson : Stmt := top 14
abbrev sTakeBy : Stmt := top 15
abbrev sTakeTest : Stmt := top 16
abbrev sTakePick : Stmt := top 17
abbrev sTakeChange : Stmt := top 18
structure TestD where
  j : Nat
  same : Bool
  v : Int
def sign (b : Bool) : Str := if b = true then "=" else "!="
def TestD.d (t : TestD) : PyData := .tuple [.int t.j, .bool t.same, .int t.v]
def TestD.row (cs : List CellD) (t : TestD) : Rw := ⟨true, ["if", (cs[t.j]?.map (·.x)).getD Str.empty, sign t.same, numS t.v]⟩
def TestD.ok (cs : List CellD) (t : TestD) : Prop := ∃ c, cs[t.j]? = some c ∧ 0 ≤ t.v ∧ t.v < c.z
structure ChangeD where
  add : Bool
  j : Nat
  s : Src
def verb (b : Bool) : Str := if b = true then "add" else "set"
def ChangeD.d (t : ChangeD) : PyData := .tuple [.str (verb t.add), .int t.j, t.s.d]
def ChangeD.row (cs : List CellD) (t : ChangeD) : Rw := ⟨true, [verb t.add, (cs[t.j]?.map (·.x)).getD Str.empty, t.s.w cs]⟩
def ChangeD.ok (cs : List CellD) (pick : Int) (t : ChangeD) : Prop := ∃ c, cs[t.j]? = some c ∧ t.s.fits cs c.z pick
/-- the cells of a house -/
def CellsOk (cs : List CellD) : Prop := cs.length ≤ 3 ∧ (∀ c ∈ cs, c.ok) ∧ (cs.map (·.x)).Nodup
theorem num_no {v : Int} (h0 : 0 ≤ v) (h : v < 10) : nameB (numS v) = false ∧ numS v ≠ "it" := by
  have e : v = 0 ∨ v = 1 ∨ v = 2 ∨ v = 3 ∨ v = 4 ∨ v = 5 ∨ v = 6 ∨ v = 7 ∨ v = 8 ∨ v = 9 := by omega
  rcases e with rfl | rfl | rfl | rfl | rfl | rfl | rfl | rfl | rfl | rfl <;> decide +kernel
theorem cell_at {K : PySem.W.Frag} {H : Hp} {a : Addr} {cs : List CellD} {j : Nat} {c : CellD} (hc : Tp K H (.ref a) (.tuple (cs.map CellD.d))) (e : cs[j]? = some c) : ∃ xs p ys, SqT K H a xs ∧ atI xs (j : Nat) = some (.ref p) ∧ SqT K H p ys ∧ atI ys 1 = some (.int c.z) := by
  obtain ⟨a', xs, ea, hs, ht⟩ := tp_tup hc
  cases ea
  obtain ⟨x, ex, tx⟩ := ht.at (i := j) (d := c.d) (by rw [List.getElem?_map, e] <;> rfl)
  obtain ⟨p, ys, rfl, hp, hy⟩ := tp_tup tx
  cases hy with
  | cons h0 h1 =>
    cases h1 with
    | cons h1 h2 =>
      have e1 := tp_int h1
      subst e1
      exact ⟨xs, p, _, hs, atI_nat ex, hp, atI_nat (j := 1) rfl⟩
section
variable {P : Program} {w : World} {K : PySem.W.Frag} {mg : Str → Option Value} {base : Heap} {C : Addr}
def spSrcW (C : Addr) (K : PySem.W.Frag) : Sp := fun vs H Q _ => ∃ (L a : Addr) (page : List Rw) (n : Nat) (cs : List CellD) (s : Src) (size pick : Int), vs = [.ref L, .str (s.w cs), .int size, .ref a, .int pick] ∧ PageAt C H L page n ∧ CellsOk cs ∧ Tp K H (.ref a) (.tuple (cs.map CellD.d)) ∧ s.fits cs size pick ∧
  ∀ v H', Same H H' → Tp K H' v s.d → Q v H'
theorem scSrcW : FnScope ["lines", "word", "size", "cells", "pick", "names", "place", "number", "cell"] ["lines", "word", "size", "cells", "pick"] (defScope sSrcWorth) := ⟨rfl, rfl, rfl, by decide +kernel, rfl, by decide +kernel, by decide +kernel⟩
theorem ok_srcW {f : Addr} {fd : FuncData} (F : Fun K "source_of_worth" "source_of_worth" sSrcWorth f fd) (T : Ln P w K mg base C) : FnOk P w K mg base CX0 2 f fd ["lines", "word", "size", "cells", "pick"] (spSrcW C K) := by
  refine F.ok scSrcW (fun vs H Q E h => ?_) (fun cdv A outer s H vs Q E hr h => ?_)
  · obtain ⟨L, a, page, n, cs, s, size, pick, rfl, _⟩ := h
    rfl
  obtain ⟨L, a, page, n, cs, s, size, pick, rfl, pa, ⟨c3, cok, cnd⟩, hc, fit, k⟩ := h
  have nd := scSrcW.nd
  refine ⟨_, pss_cons (ps_setLc (i := 5) (own := [("cell", 8)]) (g := gName 8) (tt := tYes) rfl nd rfl rfl (sw_true rfl rfl rfl (by decide +kernel)) (pi_tup (pv 3)) (blkOk_by (N := ["lines", "word", "size", "cells", "pick", "names", "place", "number", "cell"]) (sc := defScope sSrcWorth) (by decide +kernel)) (fun _ _ _ _ _ => pg_name (i := 8) nd rfl (Or.inl rfl)) (fun _ _ _ _ _ => pts_nil) (fun _ _ _ _ _ => pe_ix (ix_tupK K) (pv 8) pe_int (fun _ _ => rfl)))
    (pss_cons (ps_if (pt_cmpR op_eq (pv 1) pe_str (nomark _)) (pss_cons (ps_expr (pe_M (pv 0) T.T.cl T.need hr (pa_cons (pe_cmpR op_le (pv 4) (pv 2) (nomark _)) pa_nil))) (pss_one (ps_ret (pe_tup (pa_cons pe_str (pa_cons pe_int pa_nil)))))) pss_nil)
    (pss_cons (ps_if (pt_cmpR op_in_seq (pv 1) (pv 5) (by rfl)) (pss_cons (ps_set (i := 6) nd rfl (.inl rfl) (pe_bm PySem.F.plainAttrs_list PySem.F.slot_list_index PySem.F.type_list_index mt_index (pv 5) (pa_cons (pv 1) pa_nil)))
        (pss_cons (ps_expr (pe_M (pv 0) T.T.cl T.need hr (pa_cons (pe_cmpR op_le (pe_ix ix_tup (pe_ix ix_tup (pv 3) (pv 6) (fun _ _ => rfl)) pe_int (fun _ _ => rfl)) (pv 2) (nomark _)) pa_nil))) (pss_one (ps_ret (pe_tup (pa_cons pe_str (pa_cons (pv 6) pa_nil))))))) pss_nil)
    (pss_cons (ps_set (i := 7) nd rfl (.inl rfl) (pe_D T.numOf hr rfl (pa_cons (pv 1) pa_nil)))
    (pss_cons (ps_expr (pe_M (pv 0) T.T.cl T.need hr (pa_cons (pe_chain op_le op_lt pe_int (pv 7) (pv 2)) pa_nil)))
    (pss_one (ps_ret (pe_tup (pa_cons pe_str (pa_cons (pv 7) pa_nil)))))))))
    , ?_⟩
  obtain ⟨a', xs, ea, hs, ht⟩ := tp_tup hc
  cases ea
  refine seq_asg ?_
  refine lc_headsT (s := 3) (i := 8) rfl (by show 8 < 9; decide) hs ht (cells_headed _) (by rw [List.length_map]; omega) fun D H1 s1 hD eD => ?_
  rw [cells_hd] at eD
  have pa1 := pa.same s1
  have hc1 := hc.same s1
  obtain ⟨dx, R, hL1⟩ := pa1.at
  refine ⟨_, rfl, rfl, _, rfl, ?_⟩
  cases s with
  | who => exact fit.elim
  | person x => exact fit.elim
  | it =>
    have fit' : pick ≤ size := fit
    have e : decide (V.str (Src.w cs .it) = V.str "it") = true := decide_eq_true rfl
    rw [e]
    refine iteT ?_
    refine ⟨_, rfl, L, dx, _, rfl, hL1, rfl, _, rfl, _, rfl, _, _, rfl, rfl, ?_⟩
    refine ⟨L, ne_ (decide_eq_true fit'), sz (by decide : 2 ≤ 1000), fun p hp => ?_⟩
    have s2 := same_new hp (.tup [.str "it", .int 0])
    exact k _ _ (s1.trans s2) (.tup (SqT.of upd_same) (.cons (.str _) (.cons (.int _) .nil)))
  | cell j =>
    obtain ⟨c, ec, fz⟩ := fit
    have ew : Src.w cs (.cell j) = c.x := by
      show (cs[j]?.map (·.x)).getD Str.empty = c.x
      rw [ec]
      rfl
    have cin := List.mem_of_getElem? ec
    obtain ⟨k1, k2, k3, k4, k5, k6⟩ := cok c cin
    rw [ew]
    have e : decide (V.str c.x = V.str "it") = false := decide_eq_false fun z => k2 (V.str.inj z)
    rw [e]
    refine iteF ?_
    have xin : c.x ∈ cs.map (·.x) := List.mem_map.mpr ⟨c, cin, rfl⟩
    refine ⟨_, rfl, _, rfl, D, _, rfl, .inl (SqL.of eD), rfl, flat_words _, _, rfl, ?_⟩
    rw [if_neg (by decide), in_words, decide_eq_true xin]
    refine iteT ?_
    have ej : (cs.map (·.x))[j]? = some c.x := by
      rw [List.getElem?_map, ec]
      rfl
    refine ⟨_, rfl, .inl ⟨rfl, _, SqL.of eD⟩, _, rfl, D, _, .str c.x, j, .str c.x, rfl, rfl, SqL.of eD, rfl, flat_words _, by rw [List.getElem?_map, ej] <;> rfl, by rw [eqV_str]; exact decide_eq_true rfl, first_of cnd ej, ?_⟩
    obtain ⟨xs1, p1, ys, hx1, e1, hp1, e2⟩ := cell_at hc1 ec
    refine ⟨_, rfl, L, dx, _, rfl, hL1, rfl, _, rfl, _, rfl, a, _, _, _, rfl, rfl, hx1, e1, p1, _, _, _, rfl, rfl, hp1, e2, _, rfl, _, _, rfl, rfl, ?_⟩
    refine ⟨L, ne_ (decide_eq_true fz), _, rfl, sz (by decide : 2 ≤ 1000), fun p hp => ?_⟩
    have s2 := same_new hp (.tup [.str "cell", .int (j : Nat)])
    exact k _ _ (s1.trans s2) (.tup (SqT.of upd_same) (.cons (.str _) (.cons (.int _) .nil)))
  | num v =>
    obtain ⟨v0, v1, v2⟩ := fit
    have ew : Src.w cs (.num v) = numS v := rfl
    rw [ew]
    obtain ⟨n1, n2⟩ := num_no v0 (by omega)
    obtain ⟨g1, g2, _⟩ := num_ok (v := v) v0 (by omega)
    have e : decide (V.str (numS v) = V.str "it") = false := decide_eq_false fun z => n2 (V.str.inj z)
    rw [e]
    refine iteF ?_
    have nin : numS v ∉ cs.map (·.x) := fun z => by
      obtain ⟨c, hc, ex⟩ := List.mem_map.mp z
      have := (cok c hc).1
      rw [ex, n1] at this
      cases this
    refine ⟨_, rfl, _, rfl, D, _, rfl, .inl (SqL.of eD), rfl, flat_words _, _, rfl, ?_⟩
    rw [if_neg (by decide), in_words, decide_eq_false nin]
    refine iteF ?_
    refine ⟨_, rfl, numS v, v, rfl, g1, g2, fun H2 s2 => ?_⟩
    have hL2 := s2 _ _ hL1
    refine ⟨_, rfl, L, dx, _, rfl, hL2, rfl, _, rfl, _, _, rfl, rfl, _, rfl, ?_⟩
    rw [decide_eq_true v0]
    refine iteT ⟨_, rfl, _, _, rfl, rfl, ?_⟩
    refine ⟨L, ne_ (decide_eq_true v1), _, rfl, sz (by decide : 2 ≤ 1000), fun p hp => ?_⟩
    have s3 := same_new hp (.tup [.str "plain", .int v])
    exact k _ _ (s1.trans (s2.trans s3)) (.tup (SqT.of upd_same) (.cons (.str _) (.cons (.int _) .nil)))
/-! ### source_of_person -/
def spSrcP (C : Addr) (K : PySem.W.Frag) : Sp := fun vs H Q _ => ∃ (L a : Addr) (page : List Rw) (n : Nat) (people : List Str) (s : Src), vs = [.ref L, .str (s.w []), .ref a] ∧ PageAt C H L page n ∧ SqT K H a (people.map V.str) ∧ s.person? people ∧ ∀ v H', Same H H' → Tp K H' v s.d → Q v H'
theorem scSrcP : FnScope ["lines", "word", "people"] ["lines", "word", "people"] (defScope sSrcPerson) := ⟨rfl, rfl, rfl, by decide +kernel, rfl, by decide +kernel, by decide +kernel⟩
theorem ok_srcP {f : Addr} {fd : FuncData} (F : Fun K "source_of_person" "source_of_person" sSrcPerson f fd) (T : Ln P w K mg base C) : FnOk P w K mg base CX0 2 f fd ["lines", "word", "people"] (spSrcP C K) := by
  refine F.ok scSrcP (fun vs H Q E h => ?_) (fun cdv A outer s H vs Q E hr h => ?_)
  · obtain ⟨L, a, page, n, people, s, rfl, _⟩ := h
    rfl
  obtain ⟨L, a, page, n, people, s, rfl, pa, hp, fit, k⟩ := h
  obtain ⟨dx, R, hL⟩ := pa.at
  refine ⟨_, pss_cons (ps_if (pt_cmpR op_eq (pv 1) pe_str (nomark _)) (pss_one (ps_ret (pe_tup (pa_cons pe_str (pa_cons pe_int pa_nil))))) pss_nil)
    (pss_cons (ps_expr (pe_M (pv 0) T.T.cl T.need hr (pa_cons (pe_cmpR op_in_seq (pv 1) (pv 2) (by rfl)) pa_nil)))
    (pss_one (ps_ret (pe_tup (pa_cons pe_str (pa_cons (pv 1) pa_nil)))))), ?_⟩
  refine ⟨_, rfl, rfl, _, rfl, ?_⟩
  cases s with
  | it => exact fit.elim
  | cell j => exact fit.elim
  | num v => exact fit.elim
  | who =>
    have e : decide (V.str (Src.w [] .who) = V.str "who") = true := decide_eq_true rfl
    rw [e]
    refine iteT ⟨sz (by decide : 2 ≤ 1000), fun p hp => ?_⟩
    exact k _ _ (same_new hp (.tup [.str "who", .int 0])) (.tup (SqT.of upd_same) (.cons (.str _) (.cons (.int _) .nil)))
  | person x =>
    obtain ⟨f1, f2⟩ := fit
    have e : decide (V.str (Src.w [] (.person x)) = V.str "who") = false := decide_eq_false fun z => f2 (V.str.inj z)
    rw [e]
    refine iteF ?_
    have e2 : inV (.str x) (people.map V.str) = true := by rw [in_words, decide_eq_true f1]
    refine ⟨_, rfl, L, dx, _, rfl, hL, rfl, _, rfl, _, rfl, a, _, rfl, .inr hp, rfl, flat_words _, ?_⟩
    refine ⟨L, ne_ e2, _, rfl, sz (by decide : 2 ≤ 1000), fun p hp => ?_⟩
    exact k _ _ (same_new hp (.tup [.str "plain", .str x])) (.tup (SqT.of upd_same) (.cons (.str _) (.cons (.str _) .nil)))
end
end Hx
set_option maxRecDepth 100000
set_option maxHeartbeats 4000000
namespace Hx
open PySem PySem.Spec PyProof.Rows L2
theorem sqt_refs {K : PySem.W.Frag} {H : Hp} {a : Addr} {ds : List PyData} (h : Tp K H (.ref a) (.tuple ds)) : ∃ xs, SqT K H a xs ∧ TpAll K H xs ds := by
  obtain ⟨a', xs, ea, hs, ht⟩ := tp_tup h
  cases ea
  exact ⟨xs, hs, ht⟩
section
variable {P : Program} {w : World} {K : PySem.W.Frag} {mg : Str → Option Value} {base : Heap} {C : Addr}
/-! ### take_test -/
def spTest (C : Addr) (K : PySem.W.Frag) : Sp := fun vs H Q _ => ∃ (L a : Addr) (page : List Rw) (n : Nat) (cs : List CellD) (t : TestD), vs = [.ref L, .ref a] ∧ PageAt C H L page n ∧ CellsOk cs ∧ Tp K H (.ref a) (.tuple (cs.map CellD.d)) ∧ t.ok cs ∧ page[n]? = some (t.row cs) ∧
  ∀ v H', Bar L H H' → PageAt C H' L page (n + 1) → Tp K H' v t.d → Q v H'
theorem scTest : FnScope ["lines", "cells", "_", "cell", "sign", "worth", "place", "known"] ["lines", "cells"] (defScope sTakeTest) := ⟨rfl, rfl, rfl, by decide +kernel, rfl, by decide +kernel, by decide +kernel⟩
theorem ok_test {f : Addr} {fd : FuncData} (F : Fun K "take_test" "take_test" sTakeTest f fd) (T : Ln P w K mg base C) : FnOk P w K mg base CX0 4 f fd ["lines", "cells"] (spTest C K) := by
  refine F.ok scTest (fun vs H Q E h => ?_) (fun cdv A outer s H vs Q E hr h => ?_)
  · obtain ⟨L, a, page, n, cs, t, rfl, _⟩ := h
    rfl
  obtain ⟨L, a, page, n, cs, t, rfl, pa, ⟨c3, cok, cnd⟩, hc, ⟨c, ec, t0, t1⟩, row, k⟩ := h
  have nd := scTest.nd
  have hr2 : Room 2 (A.deeper (envOfC "take_test" (defScope sTakeTest) s.heap.objs.size f cdv)) := hr.mono (by decide)
  have hr1 : Room 1 (A.deeper (envOfC "take_test" (defScope sTakeTest) s.heap.objs.size f cdv)) := hr.mono (by decide)
  refine ⟨_, pss_cons (ps_asg (pe_M (pv 0) T.T.cl T.exactly_ hr (pa_cons pe_int (pa_cons (pe_tup (pa_cons pe_str pa_nil)) (pa_cons pe_int pa_nil)))) (pg_unl rfl (pgs_cons (pg_name (i := 2) nd rfl (.inl rfl)) (pgs_cons (pg_name (i := 3) nd rfl (.inl rfl)) (pgs_cons (pg_name (i := 4) nd rfl (.inl rfl)) (pgs_cons (pg_name (i := 5) nd rfl (.inl rfl)) pgs_nil))))))
    (pss_cons (ps_set (i := 6) nd rfl (.inl rfl) (pe_M (pv 0) T.T.cl T.place hr2 (pa_cons (pv 3) (pa_cons
      (pe_lc (own := [("known", 7)]) (g := gName 7) (tt := tYes) rfl nd (pi_tup (pv 1)) (blkOk_by (N := ["lines", "cells", "_", "cell", "sign", "worth", "place", "known"]) (sc := defScope sTakeTest) (by decide +kernel)) (fun _ _ _ _ _ => pg_name (i := 7) nd rfl (Or.inl rfl)) (fun _ _ _ _ _ => pts_nil) (fun _ _ _ _ _ => pe_ix (ix_tupK K) (pv 7) pe_int (fun _ _ => rfl))) pa_nil))))
    (pss_cons (ps_expr (pe_M (pv 0) T.T.cl T.need hr1 (pa_cons (pe_cmpR op_in_seq (pv 4) (pe_tup (pa_cons pe_str (pa_cons pe_str pa_nil))) (by rfl)) pa_nil)))
    (pss_one (ps_ret (pe_tup (pa_cons (pv 6) (pa_cons (pe_cmpR op_eq (pv 4) pe_str (nomark _)) (pa_cons (pe_M (pv 0) T.T.cl T.numFrom hr2 (pa_cons (pv 5) (pa_cons pe_int (pa_cons (pe_ix ix_tup (pe_ix ix_tup (pv 1) (pv 6) (fun _ _ => rfl)) pe_int (fun _ _ => rfl)) pa_nil)))) pa_nil)))))))), ?_⟩
  obtain ⟨dx, R, hL⟩ := pa.at
  refine ⟨_, rfl, L, dx, _, rfl, hL, rfl, sz (by decide : 1 ≤ 1000), fun u hu => ?_⟩
  have s0 := same_new hu (.tup [.str "if"])
  refine ⟨L, u, 1, 4, page, ["if"], _, n, rfl, pa.same s0, .inr rfl, SqT.of upd_same, row, by simp [nextB], rfl, fun q H1 b1 nq nqL e1 pa1 => ?_⟩
  have b01 := (Bar.of s0).trans b1
  have hc1 := hc.bar hL b01
  refine ⟨q, _, rfl, SqL.of e1, rfl, ?_⟩
  refine ⟨_, _, rfl, _, _, rfl, _, _, rfl, _, _, rfl, rfl, ?_⟩
  obtain ⟨dy, R2, hL1⟩ := pa1.at
  obtain ⟨xs, hs, ht⟩ := sqt_refs hc1
  refine ⟨_, rfl, L, dy, _, rfl, hL1, rfl, _, rfl, ?_⟩
  refine lc_headsT (s := 1) (i := 7) rfl (by show 7 < 8; decide) hs ht (cells_headed _) (by rw [List.length_map]; omega) fun D H2 s2 hD eD => ?_
  rw [cells_hd] at eD
  have pa2 := pa1.same s2
  have hL2 := s2 _ _ hL1
  have hc2 := hc1.same s2
  have ew : (cs[t.j]?.map (·.x)).getD Str.empty = c.x := by
    rw [ec]
    rfl
  have ej : (cs.map (·.x))[t.j]? = some ((cs[t.j]?.map (·.x)).getD Str.empty) := by
    rw [List.getElem?_map, ec]
    rfl
  refine ⟨L, D, _, _, page.map Rw.text, n + 1, t.j, rfl, pa2.la, SqL.of eD, ej, cnd, ?_⟩
  refine ⟨_, rfl, L, dy, _, rfl, hL2, rfl, _, rfl, sz (by decide : 2 ≤ 1000), fun u2 hu2 => ?_⟩
  have s3 := same_new hu2 (.tup [.str "=", .str "!="])
  have pa3 := pa2.same s3
  have hL3 := s3 _ _ hL2
  have hc3 := hc2.same s3
  refine ⟨u2, _, rfl, .inr (SqT.of upd_same), rfl, rfl, ?_⟩
  have es : inV (.str (sign t.same)) [.str "=", .str "!="] = true := by
    cases t.same <;> decide +kernel
  refine ⟨L, ne_ es, ?_⟩
  obtain ⟨xs1, p1, ys, hx1, g1, hp1, g2⟩ := cell_at hc3 ec
  obtain ⟨n1, n2, _⟩ := num_ok (v := t.v) t0 (by have := (cok c (List.mem_of_getElem? ec)).2.2.2.1; omega)
  refine ⟨_, rfl, _, rfl, rfl, _, rfl, L, dy, _, rfl, hL3, rfl, _, rfl, _, rfl, _, rfl, a, _, _, _, rfl, rfl, hx1, g1, p1, _, _, _, rfl, rfl, hp1, g2, ?_⟩
  refine ⟨L, numS t.v, t.v, 0, c.z, page.map Rw.text, n + 1, rfl, pa3.la, n1, n2, t0, t1, fun H4 s4 => ?_⟩
  refine ⟨sz (by decide : 3 ≤ 1000), fun p hp => ?_⟩
  have e5 : decide (V.str (sign t.same) = V.str "=") = t.same := by
    cases t.same <;> decide +kernel
  have s5 := same_new hp (.tup [.int (t.j : Nat), .bl (decide (V.str (sign t.same) = V.str "=")), .int t.v])
  refine k _ _ (b01.trans (Bar.of (s2.trans (s3.trans (s4.trans s5))))) ((pa3.same s4).same s5) (.tup (SqT.of upd_same) ?_)
  rw [e5]
  exact .cons (.int _) (.cons (.bl _) (.cons (.int _) .nil))
/-! ### take_pick -/
def pickRows (pick : Int) : List Rw := if pick = 1 then [] else [⟨true, ["pick", numS pick]⟩]
def spPick (C : Addr) : Sp := fun vs H Q _ => ∃ (L : Addr) (page : List Rw) (n : Nat) (pick : Int), vs = [.ref L] ∧ PageAt C H L page n ∧ 1 ≤ pick ∧ pick < 5 ∧ At page n (pickRows pick) ∧ (pick = 1 → nextP page n 1 ["pick"] = false) ∧
  ∀ H', Bar L H H' → PageAt C H' L page (n + (pickRows pick).length) → Q (.int pick) H'
theorem scPick : FnScope ["lines"] ["lines"] (defScope sTakePick) := ⟨rfl, rfl, rfl, by decide +kernel, rfl, by decide +kernel, by decide +kernel⟩
theorem ok_pick {f : Addr} {fd : FuncData} (F : Fun K "take_pick" "take_pick" sTakePick f fd) (T : Ln P w K mg base C) : FnOk P w K mg base CX0 4 f fd ["lines"] (spPick C) := by
  refine F.ok scPick (fun vs H Q E h => ?_) (fun cdv A outer s H vs Q E hr h => ?_)
  · obtain ⟨L, page, n, pick, rfl, _⟩ := h
    rfl
  obtain ⟨L, page, n, pick, rfl, pa, p1, p5, at_, stop, k⟩ := h
  have hr2 : Room 2 (A.deeper (envOfC "take_pick" (defScope sTakePick) s.heap.objs.size f cdv)) := hr.mono (by decide)
  refine ⟨_, pss_cons (ps_if (pt_not (pt_val (pe_M (pv 0) T.T.cl T.next hr2 (pa_cons pe_int (pa_cons (pe_tup (pa_cons pe_str pa_nil)) pa_nil))))) (pss_one (ps_ret pe_int)) pss_nil)
    (pss_one (ps_ret (pe_M (pv 0) T.T.cl T.numFrom hr2 (pa_cons (pe_ix ix_list (pe_M (pv 0) T.T.cl T.exactly_ hr (pa_cons pe_int (pa_cons (pe_tup (pa_cons pe_str pa_nil)) (pa_cons pe_int pa_nil)))) pe_int (fun _ _ => rfl)) (pa_cons pe_int (pa_cons pe_int pa_nil)))))), ?_⟩
  obtain ⟨dx, R, hL⟩ := pa.at
  refine ⟨_, rfl, L, dx, _, rfl, hL, rfl, sz (by decide : 1 ≤ 1000), fun t ht => ?_⟩
  have s0 := same_new ht (.tup [.str "pick"])
  refine ⟨L, t, 1, page, ["pick"], n, rfl, pa.same s0, .inr rfl, SqT.of upd_same, fun H1 s1 => ⟨_, rfl, ?_⟩⟩
  have s01 := s0.trans s1
  have pa1 := pa.same s01
  have hL1 := s01 _ _ hL
  by_cases e : pick = 1
  · subst e
    rw [stop rfl]
    refine iteT ?_
    exact k H1 (Bar.of s01) pa1
  · have er : pickRows pick = [⟨true, ["pick", numS pick]⟩] := if_neg e
    rw [er] at at_ k
    have row := at_.head
    have a : nextP page n 1 ["pick"] = true := by
      unfold nextP aheadP
      rw [row]
      rfl
    rw [a]
    refine iteF ?_
    refine ⟨_, rfl, L, dx, _, rfl, hL1, rfl, _, rfl, L, dx, _, rfl, hL1, rfl, sz (by decide : 1 ≤ 1000), fun t2 ht2 => ?_⟩
    have s2 := same_new ht2 (.tup [.str "pick"])
    refine ⟨L, t2, 1, 2, page, ["pick"], _, n, rfl, pa1.same s2, .inr rfl, SqT.of upd_same, row, by simp [nextB], rfl, fun q H3 b3 nq nqL e3 pa3 => ?_⟩
    have b03 := (Bar.of (s01.trans s2)).trans b3
    obtain ⟨g1, g2, _⟩ := num_ok (v := pick) (by omega) (by omega)
    refine ⟨q, _, 1, .str (numS pick), rfl, rfl, SqL.of e3, atI_nat (j := 1) rfl, ?_⟩
    refine ⟨L, numS pick, pick, 2, 5, page.map Rw.text, n + 1, rfl, pa3.la, g1, g2, by omega, p5, fun H4 s4 => ?_⟩
    exact k H4 (b03.trans (Bar.of s4)) (pa3.same s4)
/-! ### take_change -/
def spChange (C : Addr) (K : PySem.W.Frag) : Sp := fun vs H Q _ => ∃ (L a : Addr) (page : List Rw) (n : Nat) (cs : List CellD) (t : ChangeD) (pick : Int), vs = [.ref L, .ref a, .int pick] ∧ PageAt C H L page n ∧ CellsOk cs ∧ Tp K H (.ref a) (.tuple (cs.map CellD.d)) ∧ t.ok cs pick ∧ page[n]? = some (t.row cs) ∧
  ∀ v H', Bar L H H' → PageAt C H' L page (n + 1) → Tp K H' v t.d → Q v H'
theorem scChange : FnScope ["lines", "cells", "pick", "word", "cell", "worth", "place", "known"] ["lines", "cells", "pick"] (defScope sTakeChange) := ⟨rfl, rfl, rfl, by decide +kernel, rfl, by decide +kernel, by decide +kernel⟩
theorem ok_change {f : Addr} {fd : FuncData} (F : Fun K "take_change" "take_change" sTakeChange f fd) (T : Ln P w K mg base C) (TS : DefOk P w K mg base "source_of_worth" 2 ["lines", "word", "size", "cells", "pick"] (spSrcW C K)) : FnOk P w K mg base CX0 4 f fd ["lines", "cells", "pick"] (spChange C K) := by
  refine F.ok scChange (fun vs H Q E h => ?_) (fun cdv A outer s H vs Q E hr h => ?_)
  · obtain ⟨L, a, page, n, cs, t, pick, rfl, _⟩ := h
    rfl
  obtain ⟨L, a, page, n, cs, t, pick, rfl, pa, ⟨c3, cok, cnd⟩, hc, ⟨c, ec, fit⟩, row, k⟩ := h
  have nd := scChange.nd
  have hr2 : Room 2 (A.deeper (envOfC "take_change" (defScope sTakeChange) s.heap.objs.size f cdv)) := hr.mono (by decide)
  refine ⟨_, pss_cons (ps_asg (pe_M (pv 0) T.T.cl T.exactly_ hr (pa_cons pe_int (pa_cons (pe_tup (pa_cons pe_str (pa_cons pe_str pa_nil))) (pa_cons pe_int pa_nil)))) (pg_unl rfl (pgs_cons (pg_name (i := 3) nd rfl (.inl rfl)) (pgs_cons (pg_name (i := 4) nd rfl (.inl rfl)) (pgs_cons (pg_name (i := 5) nd rfl (.inl rfl)) pgs_nil)))))
    (pss_cons (ps_set (i := 6) nd rfl (.inl rfl) (pe_M (pv 0) T.T.cl T.place hr2 (pa_cons (pv 4) (pa_cons
      (pe_lc (own := [("known", 7)]) (g := gName 7) (tt := tYes) rfl nd (pi_tup (pv 1)) (blkOk_by (N := ["lines", "cells", "pick", "word", "cell", "worth", "place", "known"]) (sc := defScope sTakeChange) (by decide +kernel)) (fun _ _ _ _ _ => pg_name (i := 7) nd rfl (Or.inl rfl)) (fun _ _ _ _ _ => pts_nil) (fun _ _ _ _ _ => pe_ix (ix_tupK K) (pv 7) pe_int (fun _ _ => rfl))) pa_nil))))
    (pss_one (ps_ret (pe_tup (pa_cons (pv 3) (pa_cons (pv 6) (pa_cons (pe_D TS hr2 rfl (pa_cons (pv 0) (pa_cons (pv 5) (pa_cons (pe_ix ix_tup (pe_ix ix_tup (pv 1) (pv 6) (fun _ _ => rfl)) pe_int (fun _ _ => rfl)) (pa_cons (pv 1) (pa_cons (pv 2) pa_nil)))))) pa_nil))))))), ?_⟩
  obtain ⟨dx, R, hL⟩ := pa.at
  refine ⟨_, rfl, L, dx, _, rfl, hL, rfl, sz (by decide : 2 ≤ 1000), fun u hu => ?_⟩
  have s0 := same_new hu (.tup [.str "set", .str "add"])
  have hv : nextB [verb t.add, (cs[t.j]?.map (·.x)).getD Str.empty, t.s.w cs] ["set", "add"] = true := by
    show decide (verb t.add ∈ (["set", "add"] : List Str)) = true
    cases t.add <;> decide +kernel
  refine ⟨L, u, 1, 3, page, ["set", "add"], _, n, rfl, pa.same s0, .inr rfl, SqT.of upd_same, row, hv, rfl, fun q H1 b1 nq nqL e1 pa1 => ?_⟩
  have b01 := (Bar.of s0).trans b1
  have hc1 := hc.bar hL b01
  refine ⟨q, _, rfl, SqL.of e1, rfl, ?_⟩
  refine ⟨_, _, rfl, _, _, rfl, _, _, rfl, rfl, ?_⟩
  obtain ⟨dy, R2, hL1⟩ := pa1.at
  obtain ⟨xs, hs, ht⟩ := sqt_refs hc1
  refine ⟨_, rfl, L, dy, _, rfl, hL1, rfl, _, rfl, ?_⟩
  refine lc_headsT (s := 1) (i := 7) rfl (by show 7 < 8; decide) hs ht (cells_headed _) (by rw [List.length_map]; omega) fun D H2 s2 hD eD => ?_
  rw [cells_hd] at eD
  have pa2 := pa1.same s2
  have hc2 := hc1.same s2
  have ej : (cs.map (·.x))[t.j]? = some ((cs[t.j]?.map (·.x)).getD Str.empty) := by
    rw [List.getElem?_map, ec]
    rfl
  refine ⟨L, D, _, _, page.map Rw.text, n + 1, t.j, rfl, pa2.la, SqL.of eD, ej, cnd, ?_⟩
  obtain ⟨xs1, p1, ys, hx1, g1, hp1, g2⟩ := cell_at hc2 ec
  refine ⟨_, rfl, _, rfl, _, rfl, _, rfl, _, rfl, _, rfl, a, _, _, _, rfl, rfl, hx1, g1, p1, _, _, _, rfl, rfl, hp1, g2, _, rfl, _, rfl, ?_⟩
  refine ⟨L, a, page, n + 1, cs, t.s, c.z, pick, rfl, pa2, ⟨c3, cok, cnd⟩, hc2, fit, fun v H3 s3 tv => ?_⟩
  refine ⟨sz (by decide : 3 ≤ 1000), fun p hp => ?_⟩
  have s4 := same_new hp (.tup [.str (verb t.add), .int (t.j : Nat), v])
  exact k _ _ (b01.trans (Bar.of (s2.trans (s3.trans s4)))) ((pa2.same s3).same s4) (.tup (SqT.of upd_same) (.cons (.str _) (.cons (.int _) (.cons (tv.same s4) .nil))))
end
end Hx
set_option maxRecDepth 100000
set_option maxHeartbeats 4000000
namespace Hx
open PySem PySem.Spec PyProof.Rows L2
def byRows : Option (List Str) → List Rw
  | none => []
  | some ns => [⟨true, "by" :: ns⟩]
def byOf (people : List Str) : Option (List Str) → List Str
  | none => people
  | some ns => people.filter fun x => decide (x ∈ ns)
def ByOk (people : List Str) : Option (List Str) → Prop
  | none => True
  | some ns => 1 ≤ ns.length ∧ ns.length ≤ 3 ∧ ns.Nodup ∧ ∀ x ∈ ns, x ∈ people
theorem str_at {xs : List Str} {i : Nat} {x : V} (h : (xs.map V.str)[i]? = some x) : ∃ y, xs[i]? = some y ∧ x = .str y := by
  rw [List.getElem?_map] at h
  cases e : xs[i]? with
  | none =>
    rw [e] at h
    cases h
  | some y =>
    rw [e] at h
    exact ⟨y, rfl, (Option.some.inj h).symm⟩
section
variable {P : Program} {w : World} {K : PySem.W.Frag} {mg : Str → Option Value} {base : Heap} {C : Addr}
def spBy (C : Addr) (K : PySem.W.Frag) : Sp := fun vs H Q _ => ∃ (L a : Addr) (page : List Rw) (n : Nat) (people : List Str) (by_ : Option (List Str)), vs = [.ref L, .ref a] ∧ PageAt C H L page n ∧ SqT K H a (people.map V.str) ∧ people.length ≤ 3 ∧ ByOk people by_ ∧ At page n (byRows by_) ∧
  (by_ = none → nextP page n 1 ["by"] = false) ∧ ∀ v H', Bar L H H' → PageAt C H' L page (n + (byRows by_).length) → Tp K H' v (.tuple ((byOf people by_).map PyData.str)) → Q v H'
theorem scBy : FnScope ["lines", "people", "names", "name"] ["lines", "people"] (defScope sTakeBy) := ⟨rfl, rfl, rfl, by decide +kernel, rfl, by decide +kernel, by decide +kernel⟩
theorem ok_by {f : Addr} {fd : FuncData} (F : Fun K "take_by" "take_by" sTakeBy f fd) (T : Ln P w K mg base C) : FnOk P w K mg base CX0 3 f fd ["lines", "people"] (spBy C K) := by
  refine F.ok scBy (fun vs H Q E h => ?_) (fun cdv A outer s H vs Q E hr h => ?_)
  · obtain ⟨L, a, page, n, people, by_, rfl, _⟩ := h
    rfl
  obtain ⟨L, a, page, n, people, by_, rfl, pa, hp, p3, bok, at_, stop, k⟩ := h
  have nd := scBy.nd
  have hr1 : Room 1 (A.deeper (envOfC "take_by" (defScope sTakeBy) s.heap.objs.size f cdv)) := hr.mono (by decide)
  refine ⟨_, pss_cons (ps_if (pt_not (pt_val (pe_M (pv 0) T.T.cl T.next hr (pa_cons pe_int (pa_cons (pe_tup (pa_cons pe_str pa_nil)) pa_nil))))) (pss_one (ps_ret (pv 1))) pss_nil)
    (pss_cons (ps_set (i := 2) nd rfl (.inr rfl) (pe_slice sl_list (pe_M (pv 0) T.T.cl T.take hr (pa_cons pe_int (pa_cons (pe_tup (pa_cons pe_str pa_nil)) pa_nil))) (po_some pe_int) po_none))
    (pss_cons (ps_expr (pe_M (pv 0) T.T.cl T.need hr1 (pa_cons (pe_and (pe_cmpR op_gt (pe_callB call_len_seq rfl T.T.len PySem.boot_len (pa_cons (pv 2) pa_nil)) pe_int (nomark _))
        (pe_one (pe_cmpR op_eq (pe_lenSetS rfl T.T.len rfl T.set (pv 2)) (pe_callB call_len_seq rfl T.T.len PySem.boot_len (pa_cons (pv 2) pa_nil)) (nomark _)))) pa_nil)))
    (pss_cons (ps_expr (pe_M (pv 0) T.T.cl T.need hr1 (pa_cons (pe_callB (cr_all rfl) rfl T.T.all PyProof.Rows.boot_all (pa_cons
      (pe_lc (own := [("name", 3)]) (g := gName 3) (tt := tYes) rfl nd (pi_list (pv 2)) (blkOk_by (N := ["lines", "people", "names", "name"]) (sc := defScope sTakeBy) (by decide +kernel)) (fun _ _ _ _ _ => pg_name (i := 3) nd rfl (Or.inl rfl)) (fun _ _ _ _ _ => pts_nil)
        (fun _ _ _ _ _ => pe_cmpR (op_in_seqK K) (pv 3) (pv 1) (by rfl))) pa_nil)) pa_nil)))
    (pss_one (ps_ret (pe_callTy call_tuple_of rfl T.tuple PyProof.Rows.Boot.«tuple» (pa_cons
      (pe_lc (own := [("name", 3)]) (g := gName 3) (tt := tTest (tOp (rIn K false) (tVar 3) (tVar 2))) rfl nd (pi_tup (pv 1)) (blkOk_by (N := ["lines", "people", "names", "name"]) (sc := defScope sTakeBy) (by decide +kernel)) (fun _ _ _ _ _ => pg_name (i := 3) nd rfl (Or.inl rfl)) (fun _ _ _ _ _ => pts_one (pt_cmpR (op_in_seqK K) (pv 3) (pv 2) (by rfl)))
        (fun _ _ _ _ _ => pv 3)) pa_nil))))))), ?_⟩
  obtain ⟨dx, R, hL⟩ := pa.at
  refine ⟨_, rfl, L, dx, _, rfl, hL, rfl, sz (by decide : 1 ≤ 1000), fun t ht => ?_⟩
  have s0 := same_new ht (.tup [.str "by"])
  refine ⟨L, t, 1, page, ["by"], n, rfl, pa.same s0, .inr rfl, SqT.of upd_same, fun H1 s1 => ⟨_, rfl, ?_⟩⟩
  have s01 := s0.trans s1
  have pa1 := pa.same s01
  have hL1 := s01 _ _ hL
  cases by_ with
  | none =>
    rw [stop rfl]
    refine iteT ⟨_, rfl, ?_⟩
    exact k _ H1 (Bar.of s01) pa1 (.tup (same_sqt s01 hp) (tpa_of_strs _))
  | some ns =>
    obtain ⟨n1, n3, hnd, sub⟩ := bok
    have row : page[n]? = some ⟨true, "by" :: ns⟩ := at_.head
    have a1 : nextP page n 1 ["by"] = true := by
      unfold nextP aheadP
      rw [row]
      rfl
    rw [a1]
    refine iteF ?_
    refine ⟨_, rfl, L, dx, _, rfl, hL1, rfl, sz (by decide : 1 ≤ 1000), fun t2 ht2 => ?_⟩
    have s2 := same_new ht2 (.tup [.str "by"])
    refine ⟨L, t2, 1, page, ["by"], "by" :: ns, n, rfl, pa1.same s2, .inr rfl, SqT.of upd_same, row, by simp [nextB], fun q H3 b3 nq nqL e3 pa3 => ?_⟩
    refine ⟨_, rfl, q, _, rfl, SqL.of e3, fun l hl => ?_⟩
    rw [cut_tailS]
    have b4 := ((Bar.of (s01.trans s2)).trans b3).trans (Bar.of (same_new hl (.lst (ns.map V.str))))
    have pa4 := pa3.same (same_new hl (.lst (ns.map V.str)))
    have el : upd H3 l (.lst (ns.map V.str)) l = some (.lst (ns.map V.str)) := upd_same
    generalize upd H3 l (.lst (ns.map V.str)) = H4 at *
    have hp4 := sqt_bar hL b4 hp
    obtain ⟨dy, R2, hL4⟩ := pa4.at
    refine ⟨_, rfl, L, dy, _, rfl, hL4, rfl, _, rfl, l, _, rfl, .inl (SqL.of el), _, _, rfl, rfl, _, rfl, ?_⟩
    rw [List.length_map, decide_eq_true (by omega)]
    refine iteT ⟨_, rfl, l, ns, rfl, SqL.of el, hnd, by omega, _, rfl, l, _, rfl, .inl (SqL.of el), rfl, ?_⟩
    have e5 : decide (V.int (ns.length : Nat) = V.int ((ns.map V.str).length : Nat)) = true := by rw [List.length_map]; exact decide_eq_true rfl
    refine ⟨L, ne_ e5, _, rfl, L, dy, _, rfl, hL4, rfl, ?_⟩
    refine ⟨_, rfl, l, rfl, ⟨_, SqL.of el⟩, fun D hD => lc_list (xs := ns.map V.str) (fun i H' => Same H4 H' ∧ H' D = some (.lst ((List.replicate i true).map V.bl))) ⟨same_new hD _, upd_same⟩ (fun i H' _ z => SqL.of (z.1 _ _ el)) ?_ ?_⟩
    · rintro i x H' hi ⟨sm, eD⟩
      obtain ⟨y, ey, rfl⟩ := str_at hi
      have hil := (List.getElem?_eq_some_iff.mp ey).1
      refine ⟨set2, yes ⟨_, get_same (by show 3 < 4; decide), _, rfl, a, _, rfl, .inr (same_sqt sm hp4), rfl, flat_words _, _, eD, ?_, same_grow hD sm, ?_⟩⟩
      · rw [List.length_map, List.length_replicate]
        exact small1000 (by omega)
      · rw [upd_same, if_neg (by decide), in_words, decide_eq_true (sub y (List.mem_of_getElem? ey)), List.replicate_succ', List.map_append]
        rfl
    · rintro H' ⟨sm, eD⟩
      refine ⟨D, _, rfl, SqL.of eD, ?_⟩
      refine ⟨L, ne_ (replicate_all _), ?_⟩
      have pa5 := pa4.same sm
      have hp5 := same_sqt sm hp4
      have el5 := sm _ _ el
      refine ⟨_, rfl, a, rfl, ⟨_, hp5⟩, fun G hG => lc_tup (xs := people.map V.str) (fun i H6 => Same H' H6 ∧ H6 G = some (.lst (((people.take i).filter fun x => decide (x ∈ ns)).map V.str))) ⟨same_new hG _, by rw [upd_same]; rfl⟩ (fun i H6 _ z => same_sqt z.1 hp5) ?_ ?_⟩
      · rintro i x H6 hi ⟨sm6, eG⟩
        obtain ⟨y, ey, rfl⟩ := str_at hi
        have hil := (List.getElem?_eq_some_iff.mp ey).1
        refine ⟨set2, ?_⟩
        refine ⟨_, get_same (by show 3 < 4; decide), _, rfl, l, _, rfl, .inl (SqL.of (sm6 _ _ el5)), rfl, flat_words _, _, rfl, ?_⟩
        rw [if_neg (by decide), in_words]
        have step : (people.take (i + 1)).filter (fun x => decide (x ∈ ns)) = (people.take i).filter (fun x => decide (x ∈ ns)) ++ if decide (y ∈ ns) = true then [y] else [] := by
          rw [List.take_add_one, ey, List.filter_append]
          by_cases h : y ∈ ns <;> simp [h]
        refine L2.ite2 (fun c => ?_) (fun c => ?_)
        · refine ⟨_, get_same (by show 3 < 4; decide), _, eG, ?_, same_grow hG sm6, ?_⟩
          · rw [List.length_map]
            have := List.length_filter_le (fun x => decide (x ∈ ns)) (people.take i)
            rw [List.length_take] at this
            exact small1000 (by omega)
          · rw [upd_same, step, if_pos c, List.map_append]
            rfl
        · refine ⟨sm6, ?_⟩
          rw [step, if_neg c, List.append_nil]
          exact eG
      · rintro H6 ⟨sm6, eG⟩
        rw [List.length_map, List.take_length] at eG
        refine ⟨G, _, rfl, .inl ⟨SqL.of eG, fun r hr' => ?_⟩⟩
        have s7 := same_new hr' (.tup ((people.filter fun x => decide (x ∈ ns)).map V.str))
        exact k _ _ (b4.trans (Bar.of (sm.trans (sm6.trans s7)))) ((pa5.same sm6).same s7) (.tup (SqT.of upd_same) (tpa_of_strs _))
end
end Hx
set_option maxRecDepth 100000
set_option maxHeartbeats 4000000
namespace Hx
open PySem PySem.Spec PyProof.Rows L2
abbrev sTakeRow : Stmt := top 19
structure RowD where
  j : Nat
  ss : List Src
def RowD.d (ks : List KindD) (r : RowD) : PyData := .tuple [.str ((ks[r.j]?.map (·.x)).getD Str.empty), .tuple (r.ss.map Src.d)]
def RowD.row (cs : List CellD) (ks : List KindD) (r : RowD) : Rw := ⟨true, "row" :: (ks[r.j]?.map (·.x)).getD Str.empty :: r.ss.map (Src.w cs)⟩
def srcOk (people : List Str) (cs : List CellD) (pick : Int) (f : FieldD) (s : Src) : Prop := match f.z with
  | none => s.person? people
  | some z => s.fits cs z pick
def RowD.ok (people : List Str) (cs : List CellD) (ks : List KindD) (pick : Int) (r : RowD) : Prop := ∃ k, ks[r.j]? = some k ∧ r.ss.length = k.fs.length ∧ k.fs.length ≤ 3 ∧ ∀ (i : Nat) (f : FieldD) (s : Src), k.fs[i]? = some f → r.ss[i]? = some s → srcOk people cs pick f s
theorem srcs_headed (ss : List Src) : ∀ d ∈ ss.map Src.d, headed d := by
  intro d hd
  obtain ⟨c, _, rfl⟩ := List.mem_map.mp hd
  cases c <;> trivial
theorem person_w {people : List Str} {cs : List CellD} {s : Src} (h : s.person? people) : s.w cs = s.w [] := by
  cases s with
  | cell j => exact h.elim
  | _ => rfl
theorem cut_twoS (x y : Str) (r : List Str) : cutV (List.map V.str (x :: y :: r)) (some 2) none = List.map V.str r := by
  unfold cutV
  have e : HT.sIx (List.map V.str (x :: y :: r)).length 0 (some (2 : Int)) = 2 := by
    have := HT.sIx_nat (List.map V.str (x :: y :: r)).length 0 2
    rw [Nat.min_eq_left (by simp)] at this
    exact this
  rw [e, HT.sIx_none]
  show (List.map V.str r).take ((List.map V.str (x :: y :: r)).length - 2) = List.map V.str r
  rw [show (List.map V.str (x :: y :: r)).length - 2 = (List.map V.str r).length by simp, List.take_length]
section
variable {P : Program} {w : World} {K : PySem.W.Frag} {mg : Str → Option Value} {base : Heap} {C : Addr}
def spRow (C : Addr) (K : PySem.W.Frag) : Sp := fun vs H Q _ => ∃ (L ap ac ak : Addr) (page : List Rw) (n : Nat) (people : List Str) (cs : List CellD) (ks : List KindD) (r : RowD) (pick : Int), vs = [.ref L, .ref ap, .ref ac, .ref ak, .int pick] ∧ PageAt C H L page n ∧ CellsOk cs ∧
  SqT K H ap (people.map V.str) ∧ Tp K H (.ref ac) (.tuple (cs.map CellD.d)) ∧ Tp K H (.ref ak) (.tuple (ks.map KindD.d)) ∧ ks.length ≤ 3 ∧ (ks.map (·.x)).Nodup ∧ r.ok people cs ks pick ∧ page[n]? = some (r.row cs ks) ∧
  ∀ v H', Bar L H H' → PageAt C H' L page (n + 1) → Tp K H' v (r.d ks) → Q v H'
theorem scRow : FnScope ["lines", "people", "cells", "kinds", "pick", "words", "kind", "fields", "sources", "word", "_", "size", "known"] ["lines", "people", "cells", "kinds", "pick"] (defScope sTakeRow) := ⟨rfl, rfl, rfl, by decide +kernel, rfl, by decide +kernel, by decide +kernel⟩
theorem ok_row {f : Addr} {fd : FuncData} (F : Fun K "take_row" "take_row" sTakeRow f fd) (T : Ln P w K mg base C) (mz : mg "zip" = none) (TW : DefOk P w K mg base "source_of_worth" 2 ["lines", "word", "size", "cells", "pick"] (spSrcW C K)) (TP : DefOk P w K mg base "source_of_person" 2 ["lines", "word", "people"] (spSrcP C K)) :
    FnOk P w K mg base CX0 3 f fd ["lines", "people", "cells", "kinds", "pick"] (spRow C K) := by
  refine F.ok scRow (fun vs H Q E h => ?_) (fun cdv A outer s H vs Q E hr h => ?_)
  · obtain ⟨L, ap, ac, ak, page, n, people, cs, ks, r, pick, rfl, _⟩ := h
    rfl
  obtain ⟨L, ap, ac, ak, page, n, people, cs, ks, r, pick, rfl, pa, cok, hp, hc, hk, k3, knd, ⟨kd, ek, el, e3, each⟩, row, k⟩ := h
  have nd := scRow.nd
  have hr1 : Room 1 (A.deeper (envOfC "take_row" (defScope sTakeRow) s.heap.objs.size f cdv)) := hr.mono (by decide)
  have hu := hr.units
  refine ⟨_, pss_cons (ps_set (i := 5) nd rfl (.inl rfl) (pe_M (pv 0) T.T.cl T.take hr (pa_cons pe_int (pa_cons (pe_tup (pa_cons pe_str pa_nil)) pa_nil))))
    (pss_cons (ps_expr (pe_M (pv 0) T.T.cl T.need hr1 (pa_cons (pe_cmpR op_gt (pe_callB call_len_seq rfl T.T.len PySem.boot_len (pa_cons (pv 5) pa_nil)) pe_int (nomark _)) pa_nil)))
    (pss_cons (ps_asg (pe_ix ix_tup (pv 3) (pe_M (pv 0) T.T.cl T.place hr (pa_cons (pe_ix ix_list (pv 5) pe_int (fun _ _ => rfl)) (pa_cons
        (pe_lc (own := [("known", 12)]) (g := gName 12) (tt := tYes) rfl nd (pi_tup (pv 3)) (blkOk_by (N := ["lines", "people", "cells", "kinds", "pick", "words", "kind", "fields", "sources", "word", "_", "size", "known"]) (sc := defScope sTakeRow) (by decide +kernel)) (fun _ _ _ _ _ => pg_name (i := 12) nd rfl (Or.inl rfl)) (fun _ _ _ _ _ => pts_nil) (fun _ _ _ _ _ => pe_ix (ix_tupK K) (pv 12) pe_int (fun _ _ => rfl))) pa_nil))) (fun _ _ => rfl))
        (pg_tup rfl (pgs_cons (pg_name (i := 6) nd rfl (.inl rfl)) (pgs_cons (pg_name (i := 7) nd rfl (.inl rfl)) pgs_nil))))
    (pss_cons (ps_expr (pe_M (pv 0) T.T.cl T.need hr1 (pa_cons (pe_cmpR op_eq (pe_callB call_len_seq rfl T.T.len PySem.boot_len (pa_cons (pv 5) pa_nil)) (pe_op op_add pe_int (pe_callB call_len_seq rfl T.T.len PySem.boot_len (pa_cons (pv 7) pa_nil))) (nomark _)) pa_nil)))
    (pss_cons (ps_set (i := 8) nd rfl (.inl rfl) (pe_lst pa_nil))
    (pss_cons (ps_for PassesOwn.never rfl (pi_zipM rfl mz (pa_cons (pe_slice sl_list (pv 5) (po_some pe_int) po_none) (pa_cons (pv 7) pa_nil)))
        (pg_tup rfl (pgs_cons (pg_name (i := 9) nd rfl (.inl rfl)) (pgs_cons (pg_tup rfl (pgs_cons (pg_name (i := 10) nd rfl (.inl rfl)) (pgs_cons (pg_name (i := 11) nd rfl (.inl rfl)) pgs_nil))) pgs_nil)))
      (pss_one (ps_if (pt_cmpR op_isN (pv 11) pe_non (nomark _))
        (pss_one (ps_expr (pe_bm PySem.F.plainAttrs_list PySem.F.slot_list_append PySem.F.type_list_append mt_append (pv 8) (pa_cons (pe_D TP hr rfl (pa_cons (pv 0) (pa_cons (pv 9) (pa_cons (pv 1) pa_nil)))) pa_nil))))
        (pss_one (ps_expr (pe_bm PySem.F.plainAttrs_list PySem.F.slot_list_append PySem.F.type_list_append mt_append (pv 8) (pa_cons (pe_D TW hr rfl (pa_cons (pv 0) (pa_cons (pv 9) (pa_cons (pv 11) (pa_cons (pv 2) (pa_cons (pv 4) pa_nil)))))) pa_nil)))))))
    (pss_one (ps_ret (pe_tup (pa_cons (pv 6) (pa_cons (pe_callTy call_tuple_of rfl T.tuple PyProof.Rows.Boot.«tuple» (pa_cons (pv 8) pa_nil)) pa_nil)))))))))), ?_⟩
  obtain ⟨dx, R, hL⟩ := pa.at
  have kin := List.mem_of_getElem? ek
  have ex : (ks[r.j]?.map (·.x)).getD Str.empty = kd.x := by
    rw [ek]
    rfl
  have row' : page[n]? = some ⟨true, "row" :: kd.x :: r.ss.map (Src.w cs)⟩ := by
    rw [row]
    unfold RowD.row
    rw [ex]
  refine ⟨_, rfl, L, dx, _, rfl, hL, rfl, sz (by decide : 1 ≤ 1000), fun t ht => ?_⟩
  have s0 := same_new ht (.tup [.str "row"])
  refine ⟨L, t, 1, page, ["row"], _, n, rfl, pa.same s0, .inr rfl, SqT.of upd_same, row', by simp [nextB], fun q H1 b1 nq nqL e1 pa1 => ?_⟩
  have b01 := (Bar.of s0).trans b1
  have hp1 := sqt_bar hL b01 hp
  have hc1 := hc.bar hL b01
  have hk1 := hk.bar hL b01
  obtain ⟨dy, R1, hL1⟩ := pa1.at
  have len1 : (decide ((1 : Int) < ((List.map V.str ("row" :: kd.x :: r.ss.map (Src.w cs))).length : Nat))) = true := by
    rw [List.length_map]
    exact decide_eq_true (by show (1 : Int) < ((r.ss.map (Src.w cs)).length + 1 + 1 : Nat); omega)
  refine ⟨_, rfl, L, dy, _, rfl, hL1, rfl, _, rfl, q, _, rfl, .inl (SqL.of e1), _, _, rfl, rfl, L, ne_ len1, ?_⟩
  obtain ⟨xs, hs, ht1⟩ := sqt_refs hk1
  refine ⟨_, rfl, _, rfl, L, dy, _, rfl, hL1, rfl, _, rfl, q, _, 1, .str kd.x, rfl, rfl, SqL.of e1, atI_nat (j := 1) rfl, ?_⟩
  refine lc_headsT (s := 3) (i := 12) rfl (by show 12 < 13; decide) hs ht1 (kinds_headed _) (by rw [List.length_map]; omega) fun D H2 s2 hD eD => ?_
  rw [kinds_hd] at eD
  have pa2 := pa1.same s2
  have hL2 := s2 _ _ hL1
  have hk2 := hk1.same s2
  have e2 := s2 _ _ e1
  refine ⟨L, D, kd.x, _, page.map Rw.text, n + 1, r.j, rfl, pa2.la, SqL.of eD, by rw [List.getElem?_map, ek]; rfl, knd, ?_⟩
  obtain ⟨xs2, hs2, ht2⟩ := sqt_refs hk2
  obtain ⟨kv, ekv, tkv⟩ := ht2.at (i := r.j) (d := kd.d) (by rw [List.getElem?_map, ek] <;> rfl)
  obtain ⟨kp, ys, rfl, hkp, hys⟩ := tp_tup tkv
  cases hys with
  | cons h0 h1 =>
  cases h1 with
  | cons h1 h2 =>
  cases h2
  have e0 := tp_str h0
  subst e0
  obtain ⟨fa, fxs, rfl, hfa, hfs⟩ := tp_tup h1
  have flen : fxs.length = kd.fs.length := by rw [hfs.length, List.length_map]
  refine ⟨ak, xs2, _, _, rfl, rfl, hs2, atI_nat ekv, kp, _, rfl, hkp, rfl, _, _, rfl, _, _, rfl, rfl, ?_⟩
  have len2 : decide (V.int ((List.map V.str ("row" :: kd.x :: r.ss.map (Src.w cs))).length : Nat) = V.int (2 + (fxs.length : Nat))) = true := by
    rw [List.length_map, flen, ← el]
    exact decide_eq_true (by show V.int (((r.ss.map (Src.w cs)).length + 1 + 1 : Nat)) = _; rw [List.length_map]; congr 1; omega)
  refine ⟨_, rfl, L, dy, _, rfl, hL2, rfl, _, rfl, q, _, rfl, .inl (SqL.of e2), _, rfl, fa, fxs, rfl, .inr hfa, _, _, rfl, rfl, rfl, L, ne_ len2, ?_⟩
  refine ⟨sz (by decide : 0 ≤ 1000), fun l hl => ?_⟩
  have s3 := same_new hl (.lst [])
  have hlL : l ≠ L := fun z => by
    rw [z, hL2] at hl
    cases hl
  refine ⟨_, rfl, _, rfl, q, _, rfl, SqL.of (s3 _ _ e2), fun z hz => ?_⟩
  rw [cut_twoS]
  have s4 := same_new hz (.lst ((r.ss.map (Src.w cs)).map V.str))
  have s34 := s3.trans s4
  have nzl : l ≠ z := ne_of_none upd_same hz
  have ez : upd (upd H2 l (.lst [])) z (.lst ((r.ss.map (Src.w cs)).map V.str)) z = some (.lst ((r.ss.map (Src.w cs)).map V.str)) := upd_same
  have el0 : upd (upd H2 l (.lst [])) z (.lst ((r.ss.map (Src.w cs)).map V.str)) l = some (.lst []) := by rw [upd_ne nzl]; exact upd_same
  have pa4 := pa2.same s34
  have hp4 := same_sqt (s2.trans s34) hp1
  have hc4 := (hc1.same s2).same s34
  have hfa4 := same_sqt s34 hfa
  have hfs4 := hfs.same s34
  have b4 : Bar L H (upd (upd H2 l (.lst [])) z (.lst ((r.ss.map (Src.w cs)).map V.str))) := b01.trans (Bar.of (s2.trans s34))
  have nl : H l = none := by
    cases e : H l with
    | none => rfl
    | some o => exact absurd (s2 _ _ (b01 l o hlL e)) (by rw [hl]; exact fun z => nomatch z)
  generalize upd (upd H2 l (.lst [])) z (.lst ((r.ss.map (Src.w cs)).map V.str)) = H4 at *
  have many : (r.ss.map (Src.w cs)).length = kd.fs.length := by rw [List.length_map, el]
  refine ⟨_, rfl, z, fa, _, _, rfl, SqL.of ez, hfa4, for_it (walk_zipM (xs := (r.ss.map (Src.w cs)).map V.str) (ys := fxs) (n := kd.fs.length) (by rw [List.length_map, many]) flen)
    (fun i σ H' => ∃ (t1 t2 t3 : Option V) (xs : List V), σ = [some (.ref L), some (.ref ap), some (.ref ac), some (.ref ak), some (.int pick), some (.ref q), some (.str kd.x), some (.ref fa), some (.ref l), t1, t2, t3, none] ∧ Bar L H H' ∧ PageAt C H' L page (n + 1) ∧ SqT K H' ap (people.map V.str) ∧ Tp K H' (.ref ac) (.tuple (cs.map CellD.d)) ∧
      H' z = some (.lst ((r.ss.map (Src.w cs)).map V.str)) ∧ SqT K H' fa fxs ∧ TpAll K H' fxs (kd.fs.map FieldD.d) ∧ H' l = some (.lst xs) ∧ TpAll K H' xs ((r.ss.take i).map Src.d))
    ⟨none, none, none, [], rfl, b4, pa4, hp4, hc4, ez, hfa4, hfs4, el0, .nil⟩ ?_ ?_ ?_⟩
  · rintro i σ H' _ ⟨_, _, _, xs, _, _, _, _, _, g1, g2, _⟩
    exact ⟨SqL.of g1, g2⟩
  · rintro i x σ H' H'' hi ⟨t1, t2, t3, xs, rfl, b5, p5, hp5, hc5, ez5, hfa5, hfs5, el5, tx⟩ ⟨T', u, v, rfl, hT, rfl, eu, ev⟩
    obtain ⟨y, ey, rfl⟩ := str_at eu
    rw [List.getElem?_map] at ey
    obtain ⟨sr, esr, rfl⟩ : ∃ sr, r.ss[i]? = some sr ∧ y = sr.w cs := by
      cases e : r.ss[i]? with
      | none =>
        rw [e] at ey
        cases ey
      | some sr =>
        rw [e] at ey
        exact ⟨sr, rfl, (Option.some.inj ey).symm⟩
    obtain ⟨fdd, efd, tfd⟩ := hfs5.get ev
    rw [List.getElem?_map] at efd
    obtain ⟨fl, efl, rfl⟩ : ∃ fl, kd.fs[i]? = some fl ∧ fdd = fl.d := by
      cases e : kd.fs[i]? with
      | none =>
        rw [e] at efd
        cases efd
      | some fl =>
        rw [e] at efd
        exact ⟨fl, rfl, (Option.some.inj efd).symm⟩
    have good := each i fl sr efl esr
    obtain ⟨ta, tys, rfl, hta, htys⟩ := tp_tup tfd
    cases htys with
    | cons g0 g1 =>
    cases g1 with
    | cons g1 g2 =>
    cases g2
    have s6 := same_new hT (.tup [.str (sr.w cs), .ref ta])
    have p6 := p5.same s6
    have el6 := s6 _ _ el5
    have lx : xs.length ≤ 3 := by
      rw [tx.length, List.length_map, List.length_take]
      omega
    have fin : ∀ (t1 t2 t3 : V) (v : V) (H7 : Hp), Same (upd H' T' (.tup [.str (sr.w cs), .ref ta])) H7 → Tp K H7 v sr.d → ∃ (t1' t2' t3' : Option V) (xs' : List V), ([some (.ref L), some (.ref ap), some (.ref ac), some (.ref ak), some (.int pick), some (.ref q), some (.str kd.x), some (.ref fa), some (.ref l), some t1, some t2, some t3, none] : L2.St) = [some (.ref L), some (.ref ap), some (.ref ac), some (.ref ak), some (.int pick), some (.ref q), some (.str kd.x), some (.ref fa), some (.ref l), t1', t2', t3', none] ∧ Bar L H (upd H7 l (.lst (xs ++ [v]))) ∧
        PageAt C (upd H7 l (.lst (xs ++ [v]))) L page (n + 1) ∧ SqT K (upd H7 l (.lst (xs ++ [v]))) ap (people.map V.str) ∧ Tp K (upd H7 l (.lst (xs ++ [v]))) (.ref ac) (.tuple (cs.map CellD.d)) ∧ upd H7 l (.lst (xs ++ [v])) z = some (.lst ((r.ss.map (Src.w cs)).map V.str)) ∧ SqT K (upd H7 l (.lst (xs ++ [v]))) fa fxs ∧ TpAll K (upd H7 l (.lst (xs ++ [v]))) fxs (kd.fs.map FieldD.d) ∧
        upd H7 l (.lst (xs ++ [v])) l = some (.lst xs') ∧ TpAll K (upd H7 l (.lst (xs ++ [v]))) xs' ((r.ss.take (i + 1)).map Src.d) := by
      intro t1 t2 t3 v H7 s7 tv
      have s67 := s6.trans s7
      have el7 := s7 _ _ el6
      have tx7 := tx.same s67
      refine ⟨some t1, some t2, some t3, xs ++ [v], rfl, bar_grow nl (b5.trans (Bar.of s67)), ?_, sqt_lst el7 (same_sqt s67 hp5), (hc5.same s67).lst el7, by rw [upd_ne nzl.symm]; exact s67 _ _ ez5, sqt_lst el7 (same_sqt s67 hfa5), (hfs5.same s67).lst el7, upd_same, ?_⟩
      · exact page_lst el7 (ne_rows tx7 (fun d hd => srcs_headed r.ss d (by rw [List.map_take] at hd; exact List.mem_of_mem_take hd)) (page_ne row)) (p5.same s67)
      · have e8 : (r.ss.take (i + 1)).map Src.d = (r.ss.take i).map Src.d ++ [sr.d] := by
          rw [List.take_add_one, esr, List.map_append]
          rfl
        rw [e8]
        exact TpAll.append (tx7.lst el7) (.cons (tv.lst el7) .nil)
    obtain ⟨fx, fz⟩ := fl
    have e0 := tp_str g0
    subst e0
    cases fz with
    | none =>
      have e1' := tp_non g1
      subst e1'
      have gp : sr.person? people := good
      refine ⟨_, _, rfl, SqT.of upd_same, rfl, _, _, rfl, _, _, rfl, ⟨ta, _, rfl, same_sqt s6 hta, rfl, _, _, rfl, _, _, rfl, rfl, rfl, ?_⟩⟩
      refine ⟨_, rfl, rfl, _, rfl, iteT ?_⟩
      refine ⟨_, rfl, .inl ⟨rfl, _, SqL.of el6⟩, _, rfl, _, rfl, _, rfl, ?_⟩
      refine ⟨L, ap, page, n + 1, people, sr, congrArg (fun y => [V.ref L, V.str y, V.ref ap]) (person_w gp), p6, same_sqt s6 hp5, gp, fun v H7 s7 tv => ?_⟩
      exact ⟨l, xs, v, rfl, rfl, s7 _ _ el6, small1000 (by omega), fin _ _ _ v H7 s7 tv⟩
    | some fz =>
      have e1' := tp_int g1
      subst e1'
      have gp : sr.fits cs fz pick := good
      refine ⟨_, _, rfl, SqT.of upd_same, rfl, _, _, rfl, _, _, rfl, ⟨ta, _, rfl, same_sqt s6 hta, rfl, _, _, rfl, _, _, rfl, rfl, rfl, ?_⟩⟩
      refine ⟨_, rfl, rfl, _, rfl, iteF ?_⟩
      refine ⟨_, rfl, .inl ⟨rfl, _, SqL.of el6⟩, _, rfl, _, rfl, _, rfl, _, rfl, _, rfl, ?_⟩
      refine ⟨L, ac, page, n + 1, cs, sr, fz, pick, rfl, p6, cok, hc5.same s6, gp, fun v H7 s7 tv => ?_⟩
      exact ⟨l, xs, v, rfl, rfl, s7 _ _ el6, small1000 (by omega), fin _ _ _ v H7 s7 tv⟩
  · rintro σ H' ⟨t1, t2, t3, xs, rfl, b5, p5, hp5, hc5, ez5, hfa5, hfs5, el5, tx⟩
    rw [← el, List.take_length] at tx
    refine ⟨_, rfl, _, rfl, l, xs, rfl, .inl ⟨SqL.of el5, fun p hp' => ?_⟩⟩
    have s6 := same_new hp' (.tup xs)
    refine ⟨sz (by decide : 2 ≤ 1000), fun p2 hp2 => ?_⟩
    have s7 := same_new hp2 (.tup [.str kd.x, .ref p])
    refine k _ _ (b5.trans (Bar.of (s6.trans s7))) ((p5.same s6).same s7) ?_
    unfold RowD.d
    rw [ex]
    exact .tup (SqT.of upd_same) (.cons (.str _) (.cons (.tup (same_sqt s7 (SqT.of upd_same)) (tx.same (s6.trans s7))) .nil))
end
end Hx
set_option maxRecDepth 100000
set_option maxHeartbeats 4000000
namespace Hx
open PySem PySem.Spec PyProof.Rows L2
abbrev sDeedInit : Stmt := inClass (top 11) 0
abbrev sTakeDeed : Stmt := top 20
abbrev sTakeDeeds : Stmt := top 45
structure DeedD where
  x : Str
  by_ : Option (List Str)
  ts : List TestD
  pick : Int
  chs : List ChangeD
  rs : List RowD
def deedF (x : Str) (ab at_ : Addr) (pick : Int) (ac ar : Addr) : List (Str × V) := [("name", .str x), ("by", .ref ab), ("tests", .ref at_), ("pick", .int pick), ("changes", .ref ac), ("rows", .ref ar)]
structure DTxt (K : PySem.W.Frag) (mg : Str → Option Value) (D fI : Addr) : Prop where
  cl : L2.Cls K D
  nN : NoAttr K D "name"
  nB : NoAttr K D "by"
  nT : NoAttr K D "tests"
  nP : NoAttr K D "pick"
  nC : NoAttr K D "changes"
  nR : NoAttr K D "rows"
  mgD : mg "Deed" = some (.ref D)
  maker : Mk K D fI
section
variable {P : Program} {w : World} {K : PySem.W.Frag} {mg : Str → Option Value} {base : Heap} {C D fI : Addr}
def spDeedI (D : Addr) : Sp := fun vs H Q _ => ∃ (p dx ab : Addr) (x : Str), vs = [.ref p, .str x, .ref ab] ∧ H p = some (.ins D dx []) ∧ ∀ (at_ ac ar : Addr) (H' : Hp), H at_ = none → H ac = none → H ar = none → at_ ≠ ac → at_ ≠ ar → ac ≠ ar →
  H' p = some (.ins D dx (deedF x ab at_ 1 ac ar)) → H' at_ = some (.lst []) → H' ac = some (.lst []) → H' ar = some (.lst []) → Bar p H H' → Q .non H'
theorem scDeedI : FnScope ["self", "name", "by"] ["self", "name", "by"] (defScope sDeedInit) := ⟨rfl, rfl, rfl, by decide +kernel, rfl, by decide +kernel, by decide +kernel⟩
theorem ok_deedI {f : Addr} {fd : FuncData} (F : Fun K "__init__" "Deed.__init__" sDeedInit f fd) (T : DTxt K mg D fI) : FnOk P w K mg base CX0 1 f fd ["self", "name", "by"] (spDeedI D) := by
  refine F.ok scDeedI (fun vs H Q E h => ?_) (fun cdv A outer s H vs Q E hr h => ?_)
  · obtain ⟨p, dx, ab, x, rfl, _⟩ := h
    rfl
  obtain ⟨p, dx, ab, x, rfl, hp, k⟩ := h
  refine ⟨_, pss_cons (ps_fld (pv 0) (pv 1) rfl) (pss_cons (ps_fld (pv 0) (pv 2) rfl) (pss_cons (ps_fld (pv 0) (pe_lst pa_nil) rfl) (pss_cons (ps_fld (pv 0) pe_int rfl) (pss_cons (ps_fld (pv 0) (pe_lst pa_nil) rfl) (pss_one (ps_fld (pv 0) (pe_lst pa_nil) rfl)))))), ?_⟩
  refine ⟨_, rfl, _, rfl, p, D, dx, _, rfl, hp, T.cl, T.nN, (by show 0 < 1000; decide), ?_⟩
  refine ⟨_, rfl, _, rfl, p, D, dx, _, rfl, upd_same, T.cl, T.nB, (by show 1 < 1000; decide), ?_⟩
  refine ⟨sz (by decide : 0 ≤ 1000), fun a1 h1 => ?_⟩
  have n1 : p ≠ a1 := ne_of_none upd_same h1
  refine ⟨_, rfl, p, D, dx, _, rfl, (by rw [upd_ne n1]; exact upd_same), T.cl, T.nT, (by show 2 < 1000; decide), ?_⟩
  refine ⟨_, rfl, p, D, dx, _, rfl, upd_same, T.cl, T.nP, (by show 3 < 1000; decide), ?_⟩
  refine ⟨sz (by decide : 0 ≤ 1000), fun a2 h2 => ?_⟩
  have n2 : p ≠ a2 := ne_of_none upd_same h2
  refine ⟨_, rfl, p, D, dx, _, rfl, (by rw [upd_ne n2]; exact upd_same), T.cl, T.nC, (by show 4 < 1000; decide), ?_⟩
  refine ⟨sz (by decide : 0 ≤ 1000), fun a3 h3 => ?_⟩
  have n3 : p ≠ a3 := ne_of_none upd_same h3
  refine ⟨_, rfl, p, D, dx, _, rfl, (by rw [upd_ne n3]; exact upd_same), T.cl, T.nR, (by show 5 < 1000; decide), ?_⟩
  -- what is new
  have z1 : H a1 = none := by
    rw [upd_ne n1.symm, upd_ne n1.symm] at h1
    exact h1
  have z2 : a1 ≠ a2 ∧ H a2 = none := by
    have e : a1 ≠ a2 := fun z => by
      rw [← z, upd_ne n1.symm, upd_ne n1.symm, upd_same] at h2
      cases h2
    refine ⟨e, ?_⟩
    rw [upd_ne n2.symm, upd_ne n2.symm, upd_ne e.symm, upd_ne n2.symm, upd_ne n2.symm] at h2
    exact h2
  have z3 : a1 ≠ a3 ∧ a2 ≠ a3 ∧ H a3 = none := by
    have e2 : a2 ≠ a3 := fun z => by
      rw [← z, upd_ne n2.symm, upd_same] at h3
      cases h3
    have e1 : a1 ≠ a3 := fun z => by
      rw [← z, upd_ne n1.symm, upd_ne z2.1, upd_ne n1.symm, upd_ne n1.symm, upd_same] at h3
      cases h3
    refine ⟨e1, e2, ?_⟩
    rw [upd_ne n3.symm, upd_ne e2.symm, upd_ne n3.symm, upd_ne n3.symm, upd_ne e1.symm, upd_ne n3.symm, upd_ne n3.symm] at h3
    exact h3
  refine k a1 a2 a3 _ z1 z2.2 z3.2.2 z2.1 z3.1 z3.2.1 upd_same ?_ ?_ ?_ ?_
  · rw [upd_ne n1.symm, upd_ne z3.1, upd_ne n1.symm, upd_ne z2.1, upd_ne n1.symm, upd_ne n1.symm]
    exact upd_same
  · rw [upd_ne n2.symm, upd_ne z3.2.1, upd_ne n2.symm]
    exact upd_same
  · rw [upd_ne n3.symm]
    exact upd_same
  · intro b o nb e
    rw [upd_ne nb, upd_ne (ne_of_none e z3.2.2), upd_ne nb, upd_ne (ne_of_none e z2.2), upd_ne nb, upd_ne nb, upd_ne (ne_of_none e z1), upd_ne nb, upd_ne nb]
    exact e
end
theorem page_ins {C E dx L x : Addr} {H : Hp} {fs : List (Str × V)} {o : HO} {page : List Rw} {n : Nat} (e : H x = some (.ins E dx fs)) (nx : x ≠ L) (h : PageAt C H L page n) : PageAt C (upd H x o) L page n := by
  obtain ⟨⟨⟨dy, R, e1, e2⟩, f, g⟩, ok, le⟩ := h
  have n2 : R ≠ x := fun z => by
    rw [z, e] at e2
    cases e2
  exact ⟨⟨⟨dy, R, by rw [upd_ne nx.symm]; exact e1, by rw [upd_ne n2]; exact e2⟩, f, g⟩, ok, le⟩
/-! ### a deed while its lines are taken -/
structure DS (K : PySem.W.Frag) (C D : Addr) (H H' : Hp) (L x ap ac ak : Addr) (page : List Rw) (n : Nat) (people : List Str) (cs : List CellD) (ks : List KindD) (nm : Str) (by_ : List Str) (ts : List TestD) (pick : Int) (chs : List ChangeD) (rs : List RowD) (dx ab at_ ach ar : Addr) : Prop where
  bar : Bar L H H'
  pg : PageAt C H' L page n
  hp : SqT K H' ap (people.map V.str)
  hc : Tp K H' (.ref ac) (.tuple (cs.map CellD.d))
  hk : Tp K H' (.ref ak) (.tuple (ks.map KindD.d))
  ob : H' x = some (.ins D dx (deedF nm ab at_ pick ach ar))
  hb : Tp K H' (.ref ab) (.tuple (by_.map PyData.str))
  tests : ∃ xs, H' at_ = some (.lst xs) ∧ TpAll K H' xs (ts.map TestD.d)
  changes : ∃ xs, H' ach = some (.lst xs) ∧ TpAll K H' xs (chs.map ChangeD.d)
  rows : ∃ xs, H' ar = some (.lst xs) ∧ TpAll K H' xs (rs.map (RowD.d ks))
structure DN (H : Hp) (L x at_ ach ar : Addr) : Prop where
  n1 : H at_ = none
  n2 : H ach = none
  n3 : H ar = none
  nx : H x = none
  d1 : at_ ≠ ach
  d2 : at_ ≠ ar
  d3 : ach ≠ ar
  lx : x ≠ L
section
variable {K : PySem.W.Frag} {C D : Addr} {H H' H'' : Hp} {L x ap ac ak : Addr} {page : List Rw} {n m : Nat} {people : List Str} {cs : List CellD} {ks : List KindD} {nm : Str} {by_ : List Str} {ts : List TestD} {pick : Int} {chs : List ChangeD} {rs : List RowD} {dx ab at_ ach ar : Addr}
theorem DS.step (N : DN H L x at_ ach ar) (b : Bar L H' H'') (pg : PageAt C H'' L page m) (S : DS K C D H H' L x ap ac ak page n people cs ks nm by_ ts pick chs rs dx ab at_ ach ar) : DS K C D H H'' L x ap ac ak page m people cs ks nm by_ ts pick chs rs dx ab at_ ach ar := by
  obtain ⟨dy, R, hL⟩ := S.pg.at
  have keep : ∀ {a : Addr} {xs : List V}, H' a = some (.lst xs) → H'' a = some (.lst xs) := fun {a xs} e => b a _ (fun z => by rw [z, hL] at e; cases e) e
  obtain ⟨x1, e1, t1⟩ := S.tests
  obtain ⟨x2, e2, t2⟩ := S.changes
  obtain ⟨x3, e3, t3⟩ := S.rows
  exact ⟨S.bar.trans b, pg, sqt_bar hL b S.hp, S.hc.bar hL b, S.hk.bar hL b, b x _ N.lx S.ob, S.hb.bar hL b, ⟨x1, keep e1, t1.bar hL b⟩, ⟨x2, keep e2, t2.bar hL b⟩, ⟨x3, keep e3, t3.bar hL b⟩⟩
theorem tests_headed (ts : List TestD) : ∀ d ∈ ts.map TestD.d, ¬ ∃ s, d = .str s := by
  intro d hd
  obtain ⟨c, _, rfl⟩ := List.mem_map.mp hd
  rintro ⟨s, e⟩
  cases e
/-- data that are no texts stand in no list of lines -/
theorem ne_rows2 {H : Hp} {xs : List V} {ds : List PyData} {page : List Rw} (hx : TpAll K H xs ds) (hd : ∀ d ∈ ds, ∃ es, d = .tuple es) (hp : page ≠ []) : xs ≠ (page.map Rw.text).map V.str := by
  intro z
  obtain ⟨r, rs, rfl⟩ := List.exists_cons_of_ne_nil hp
  cases hx with
  | nil => cases z
  | cons h t =>
    have e := (List.cons.inj z).1
    subst e
    obtain ⟨es, rfl⟩ := hd _ (List.mem_cons_self ..)
    cases h
theorem DS.tst (N : DN H L x at_ ach ar) (hp : page ≠ []) (S : DS K C D H H' L x ap ac ak page n people cs ks nm by_ ts pick chs rs dx ab at_ ach ar) {xs : List V} (e : H' at_ = some (.lst xs)) {v : V} {t : TestD} (tv : Tp K H' v t.d) :
    DS K C D H (upd H' at_ (.lst (xs ++ [v]))) L x ap ac ak page n people cs ks nm by_ (ts ++ [t]) pick chs rs dx ab at_ ach ar := by
  obtain ⟨x1, e1, t1⟩ := S.tests
  rw [e] at e1
  cases e1
  obtain ⟨x2, e2, t2⟩ := S.changes
  obtain ⟨x3, e3, t3⟩ := S.rows
  have nx : x ≠ at_ := fun z => by
    have := S.ob
    rw [z, e] at this
    cases this
  refine ⟨bar_grow N.n1 S.bar, page_lst e (ne_rows2 t1 (fun d hd => by obtain ⟨c, _, rfl⟩ := List.mem_map.mp hd; exact ⟨_, rfl⟩) hp) S.pg, sqt_lst e S.hp, S.hc.lst e, S.hk.lst e, by rw [upd_ne nx]; exact S.ob, S.hb.lst e,
    ⟨_, upd_same, ?_⟩, ⟨x2, by rw [upd_ne N.d1.symm]; exact e2, t2.lst e⟩, ⟨x3, by rw [upd_ne N.d2.symm]; exact e3, t3.lst e⟩⟩
  rw [List.map_append]
  exact TpAll.append (t1.lst e) (.cons (tv.lst e) .nil)
theorem DS.chg (N : DN H L x at_ ach ar) (hp : page ≠ []) (S : DS K C D H H' L x ap ac ak page n people cs ks nm by_ ts pick chs rs dx ab at_ ach ar) {xs : List V} (e : H' ach = some (.lst xs)) {v : V} {t : ChangeD} (tv : Tp K H' v t.d) :
    DS K C D H (upd H' ach (.lst (xs ++ [v]))) L x ap ac ak page n people cs ks nm by_ ts pick (chs ++ [t]) rs dx ab at_ ach ar := by
  obtain ⟨x1, e1, t1⟩ := S.tests
  obtain ⟨x2, e2, t2⟩ := S.changes
  rw [e] at e2
  cases e2
  obtain ⟨x3, e3, t3⟩ := S.rows
  have nx : x ≠ ach := fun z => by
    have := S.ob
    rw [z, e] at this
    cases this
  refine ⟨bar_grow N.n2 S.bar, page_lst e (ne_rows2 t2 (fun d hd => by obtain ⟨c, _, rfl⟩ := List.mem_map.mp hd; exact ⟨_, rfl⟩) hp) S.pg, sqt_lst e S.hp, S.hc.lst e, S.hk.lst e, by rw [upd_ne nx]; exact S.ob, S.hb.lst e,
    ⟨x1, by rw [upd_ne N.d1]; exact e1, t1.lst e⟩, ⟨_, upd_same, ?_⟩, ⟨x3, by rw [upd_ne N.d3.symm]; exact e3, t3.lst e⟩⟩
  rw [List.map_append]
  exact TpAll.append (t2.lst e) (.cons (tv.lst e) .nil)
theorem DS.rw (N : DN H L x at_ ach ar) (hp : page ≠ []) (S : DS K C D H H' L x ap ac ak page n people cs ks nm by_ ts pick chs rs dx ab at_ ach ar) {xs : List V} (e : H' ar = some (.lst xs)) {v : V} {t : RowD} (tv : Tp K H' v (t.d ks)) :
    DS K C D H (upd H' ar (.lst (xs ++ [v]))) L x ap ac ak page n people cs ks nm by_ ts pick chs (rs ++ [t]) dx ab at_ ach ar := by
  obtain ⟨x1, e1, t1⟩ := S.tests
  obtain ⟨x2, e2, t2⟩ := S.changes
  obtain ⟨x3, e3, t3⟩ := S.rows
  rw [e] at e3
  cases e3
  have nx : x ≠ ar := fun z => by
    have := S.ob
    rw [z, e] at this
    cases this
  refine ⟨bar_grow N.n3 S.bar, page_lst e (ne_rows2 t3 (fun d hd => by obtain ⟨c, _, rfl⟩ := List.mem_map.mp hd; exact ⟨_, rfl⟩) hp) S.pg, sqt_lst e S.hp, S.hc.lst e, S.hk.lst e, by rw [upd_ne nx]; exact S.ob, S.hb.lst e,
    ⟨x1, by rw [upd_ne N.d2]; exact e1, t1.lst e⟩, ⟨x2, by rw [upd_ne N.d3]; exact e2, t2.lst e⟩, ⟨_, upd_same, ?_⟩⟩
  rw [List.map_append]
  exact TpAll.append (t3.lst e) (.cons (tv.lst e) .nil)
end
end Hx
set_option maxRecDepth 100000
set_option maxHeartbeats 8000000
namespace Hx
open PySem PySem.Spec PyProof.Rows L2
def DeedD.ok (people : List Str) (cs : List CellD) (ks : List KindD) (d : DeedD) : Prop := nameB d.x = true ∧ ByOk people d.by_ ∧ d.ts.length ≤ 2 ∧ (∀ t ∈ d.ts, t.ok cs) ∧ 1 ≤ d.pick ∧ d.pick < 5 ∧ d.chs.length ≤ 3 ∧ (∀ t ∈ d.chs, t.ok cs d.pick) ∧ d.rs.length ≤ 2 ∧ ∀ t ∈ d.rs, t.ok people cs ks d.pick
def DeedD.rows (cs : List CellD) (ks : List KindD) (d : DeedD) : List Rw := ⟨false, ["deed", d.x]⟩ :: (byRows d.by_ ++ (d.ts.map (TestD.row cs) ++ (pickRows d.pick ++ (d.chs.map (ChangeD.row cs) ++ d.rs.map (RowD.row cs ks)))))
/-- a deed stands at p -/
structure DeedAt (K : PySem.W.Frag) (D : Addr) (H : Hp) (p : Addr) (people : List Str) (ks : List KindD) (d : DeedD) (N : Addr → Prop) : Prop where
  ex : ∃ dx ab at_ ach ar, (N at_ ∧ N ach ∧ N ar) ∧ H p = some (.ins D dx (deedF d.x ab at_ d.pick ach ar)) ∧ Tp K H (.ref ab) (.tuple ((byOf people d.by_).map PyData.str)) ∧ (∃ xs, H at_ = some (.lst xs) ∧ TpAll K H xs (d.ts.map TestD.d)) ∧ (∃ xs, H ach = some (.lst xs) ∧ TpAll K H xs (d.chs.map ChangeD.d)) ∧
    ∃ xs, H ar = some (.lst xs) ∧ TpAll K H xs (d.rs.map (RowD.d ks))
theorem next_no {page : List Rw} {m : Nat} {R : List Rw} {ws xs : List Str} (h : At page m (R ++ [⟨false, ws⟩])) (hR : ∀ r ∈ R, nextB r.ws xs = false) : nextP page m 1 xs = false := by
  cases R with
  | nil => exact next_flat h.head
  | cons r rs =>
    have e := h.head
    unfold nextP aheadP
    rw [e]
    have := hR r (List.mem_cons_self ..)
    obtain ⟨rd, rws⟩ := r
    cases rd with
    | false => rfl
    | true => exact this
theorem test_next {cs : List CellD} {t : TestD} : nextB (t.row cs).ws ["if"] = true ∧ ∀ xs : List Str, ("if" : Str) ∉ xs → nextB (t.row cs).ws xs = false := ⟨by simp [TestD.row, nextB], fun xs h => decide_eq_false h⟩
theorem pick_next {pick : Int} : ∀ r ∈ pickRows pick, ∀ xs : List Str, ("pick" : Str) ∉ xs → nextB r.ws xs = false := by
  intro r hr xs h
  unfold pickRows at hr
  split at hr
  · cases hr
  · rw [List.mem_singleton.mp hr]
    exact decide_eq_false h
theorem change_next {cs : List CellD} {t : ChangeD} : nextB (t.row cs).ws ["set", "add"] = true ∧ ∀ xs : List Str, ("set" : Str) ∉ xs → ("add" : Str) ∉ xs → nextB (t.row cs).ws xs = false := by
  obtain ⟨a, j, s⟩ := t
  refine ⟨?_, fun xs h1 h2 => ?_⟩
  · show decide (verb a ∈ (["set", "add"] : List Str)) = true
    cases a <;> decide +kernel
  · show decide (verb a ∈ xs) = false
    cases a
    · exact decide_eq_false h1
    · exact decide_eq_false h2
theorem row_next {cs : List CellD} {ks : List KindD} {t : RowD} : nextB (t.row cs ks).ws ["row"] = true ∧ ∀ xs : List Str, ("row" : Str) ∉ xs → nextB (t.row cs ks).ws xs = false := ⟨by simp [RowD.row, nextB], fun xs h => decide_eq_false h⟩
theorem At.cast {page : List Rw} {n m : Nat} {rs : List Rw} (h : At page n rs) (e : n = m) : At page m rs := e ▸ h
section
variable {P : Program} {w : World} {K : PySem.W.Frag} {mg : Str → Option Value} {base : Heap} {C D fI : Addr}
def spDeed (C D : Addr) (K : PySem.W.Frag) : Sp := fun vs H Q _ => ∃ (L ap ac ak aN : Addr) (page : List Rw) (n : Nat) (people : List Str) (cs : List CellD) (ks : List KindD) (names : List Str) (d : DeedD) (ws : List Str), vs = [.ref L, .ref ap, .ref ac, .ref ak, .ref aN] ∧ PageAt C H L page n ∧ CellsOk cs ∧
  SqT K H ap (people.map V.str) ∧ people.length ≤ 3 ∧ Tp K H (.ref ac) (.tuple (cs.map CellD.d)) ∧ Tp K H (.ref ak) (.tuple (ks.map KindD.d)) ∧ ks.length ≤ 3 ∧ (ks.map (·.x)).Nodup ∧ d.ok people cs ks ∧ SqL K H aN (names.map V.str) ∧ d.x ∉ names ∧ At page n (d.rows cs ks ++ [⟨false, ws⟩]) ∧
  ∀ p H', Bar L H H' → PageAt C H' L page (n + (d.rows cs ks).length) → DeedAt K D H' p people ks d (fun a => H a = none) → H p = none → Q (.ref p) H'
theorem scDeed : FnScope ["lines", "people", "cells", "kinds", "names", "name", "deed"] ["lines", "people", "cells", "kinds", "names"] (defScope sTakeDeed) := ⟨rfl, rfl, rfl, by decide +kernel, rfl, by decide +kernel, by decide +kernel⟩
theorem ok_deed {f : Addr} {fd fdI : FuncData} (F : Fun K "take_deed" "take_deed" sTakeDeed f fd) (T : Ln P w K mg base C) (DT : DTxt K mg D fI) (GI : FnOk P w K mg base CX0 1 fI fdI ["self", "name", "by"] (spDeedI D)) (bI : Binds K fdI ["self", "name", "by"] [])
    (TB : DefOk P w K mg base "take_by" 3 ["lines", "people"] (spBy C K)) (TT : DefOk P w K mg base "take_test" 4 ["lines", "cells"] (spTest C K)) (TPk : DefOk P w K mg base "take_pick" 4 ["lines"] (spPick C)) (TCh : DefOk P w K mg base "take_change" 4 ["lines", "cells", "pick"] (spChange C K))
    (TR : DefOk P w K mg base "take_row" 3 ["lines", "people", "cells", "kinds", "pick"] (spRow C K)) : FnOk P w K mg base CX0 5 f fd ["lines", "people", "cells", "kinds", "names"] (spDeed C D K) := by
  refine F.ok scDeed (fun vs H Q E h => ?_) (fun cdv A outer s H vs Q E hr h => ?_)
  · obtain ⟨L, ap, ac, ak, aN, page, n, people, cs, ks, names, d, ws, rfl, _⟩ := h
    rfl
  obtain ⟨L, ap, ac, ak, aN, page, n, people, cs, ks, names, ⟨nm, by_, ts, pick, chs, rs⟩, ws, rfl, pa, cok, hp, p3, hc, hk, k3, knd, ⟨o1, o2, o3, o4, o5, o6, o7, o8, o9, o10⟩, hN, hin, at_, k⟩ := h
  have nd := scDeed.nd
  have hr3 : Room 3 (A.deeper (envOfC "take_deed" (defScope sTakeDeed) s.heap.objs.size f cdv)) := hr.mono (by decide)
  have hr2 : Room 2 (A.deeper (envOfC "take_deed" (defScope sTakeDeed) s.heap.objs.size f cdv)) := hr.mono (by decide)
  refine ⟨_, pss_cons (ps_set (i := 5) nd rfl (.inl rfl) (pe_M (pv 0) T.T.cl T.newName hr2 (pa_cons (pe_ix ix_list (pe_M (pv 0) T.T.cl T.exactly_ hr3 (pa_cons pe_int (pa_cons (pe_tup (pa_cons pe_str pa_nil)) (pa_cons pe_int pa_nil)))) pe_int (fun _ _ => rfl)) (pa_cons (pv 4) pa_nil))))
    (pss_cons (ps_set (i := 6) nd rfl (.inl rfl) (pe_make DT.maker GI hr2 rfl DT.mgD bI .nil pass0 (pa_cons (pv 5) (pa_cons (pe_D TB hr3 rfl (pa_cons (pv 0) (pa_cons (pv 1) pa_nil))) pa_nil))))
    (pss_cons (ps_while PassesOwn.never (pt_val (pe_M (pv 0) T.T.cl T.more hr3 (pa_cons pe_int (pa_cons (pe_tup (pa_cons pe_str pa_nil)) (pa_cons (pe_fld (pv 6) rfl) (pa_cons pe_int (pa_cons pe_int pa_nil)))))))
      (pss_one (ps_expr (pe_bm PySem.F.plainAttrs_list PySem.F.slot_list_append PySem.F.type_list_append mt_append (pe_fld (pv 6) rfl) (pa_cons (pe_D TT hr rfl (pa_cons (pv 0) (pa_cons (pv 2) pa_nil))) pa_nil)))))
    (pss_cons (ps_fld (pv 6) (pe_D TPk hr rfl (pa_cons (pv 0) pa_nil)) rfl)
    (pss_cons (ps_while PassesOwn.never (pt_val (pe_M (pv 0) T.T.cl T.more hr3 (pa_cons pe_int (pa_cons (pe_tup (pa_cons pe_str (pa_cons pe_str pa_nil))) (pa_cons (pe_fld (pv 6) rfl) (pa_cons pe_int (pa_cons pe_int pa_nil)))))))
      (pss_one (ps_expr (pe_bm PySem.F.plainAttrs_list PySem.F.slot_list_append PySem.F.type_list_append mt_append (pe_fld (pv 6) rfl) (pa_cons (pe_D TCh hr rfl (pa_cons (pv 0) (pa_cons (pv 2) (pa_cons (pe_fld (pv 6) rfl) pa_nil)))) pa_nil)))))
    (pss_cons (ps_while PassesOwn.never (pt_val (pe_M (pv 0) T.T.cl T.more hr3 (pa_cons pe_int (pa_cons (pe_tup (pa_cons pe_str pa_nil)) (pa_cons (pe_fld (pv 6) rfl) (pa_cons pe_int (pa_cons pe_int pa_nil)))))))
      (pss_one (ps_expr (pe_bm PySem.F.plainAttrs_list PySem.F.slot_list_append PySem.F.type_list_append mt_append (pe_fld (pv 6) rfl) (pa_cons (pe_D TR hr3 rfl (pa_cons (pv 0) (pa_cons (pv 1) (pa_cons (pv 2) (pa_cons (pv 3) (pa_cons (pe_fld (pv 6) rfl) pa_nil)))))) pa_nil)))))
    (pss_one (ps_ret (pv 6)))))))), ?_⟩
  -- what stands where
  have pne : page ≠ [] := page_ne at_.head
  have at1 : At page (n + 1) (byRows by_ ++ (ts.map (TestD.row cs) ++ (pickRows pick ++ (chs.map (ChangeD.row cs) ++ (rs.map (RowD.row cs ks) ++ [⟨false, ws⟩]))))) := by
    have z := at_.tail
    have e : byRows by_ ++ (ts.map (TestD.row cs) ++ (pickRows pick ++ (chs.map (ChangeD.row cs) ++ rs.map (RowD.row cs ks)))) ++ [(⟨false, ws⟩ : Rw)] = byRows by_ ++ (ts.map (TestD.row cs) ++ (pickRows pick ++ (chs.map (ChangeD.row cs) ++ (rs.map (RowD.row cs ks) ++ [⟨false, ws⟩])))) := by simp only [List.append_assoc]
    rw [← e]
    exact z
  have at2 := at1.right
  have at3 := at2.right
  have at4 := at3.right
  have at5 := at4.right
  rw [List.length_map] at at3 at4 at5
  rw [List.length_map] at at5
  have n_by : by_ = none → nextP page (n + 1) 1 ["by"] = false := fun z => by
    subst z
    have q : At page (n + 1) ((ts.map (TestD.row cs) ++ (pickRows pick ++ (chs.map (ChangeD.row cs) ++ rs.map (RowD.row cs ks)))) ++ [⟨false, ws⟩]) := by
      have z : At page (n + 1) (ts.map (TestD.row cs) ++ (pickRows pick ++ (chs.map (ChangeD.row cs) ++ (rs.map (RowD.row cs ks) ++ [⟨false, ws⟩])))) := at2
      simpa only [List.append_assoc] using z
    refine next_no q fun r hr => ?_
    rcases List.mem_append.mp hr with h | h
    · obtain ⟨t, _, rfl⟩ := List.mem_map.mp h
      exact test_next.2 _ (by decide +kernel)
    · rcases List.mem_append.mp h with h | h
      · exact pick_next r h _ (by decide +kernel)
      · rcases List.mem_append.mp h with h | h
        · obtain ⟨t, _, rfl⟩ := List.mem_map.mp h
          exact change_next.2 _ (by decide +kernel) (by decide +kernel)
        · obtain ⟨t, _, rfl⟩ := List.mem_map.mp h
          exact row_next.2 _ (by decide +kernel)
  have n_if : nextP page (n + 1 + (byRows by_).length + ts.length) 1 ["if"] = false := by
    have q : At page (n + 1 + (byRows by_).length + ts.length) ((pickRows pick ++ (chs.map (ChangeD.row cs) ++ rs.map (RowD.row cs ks))) ++ [⟨false, ws⟩]) := by
      simpa only [List.append_assoc] using at3
    refine next_no q fun r hr => ?_
    rcases List.mem_append.mp hr with h | h
    · exact pick_next r h _ (by decide +kernel)
    · rcases List.mem_append.mp h with h | h
      · obtain ⟨t, _, rfl⟩ := List.mem_map.mp h
        exact change_next.2 _ (by decide +kernel) (by decide +kernel)
      · obtain ⟨t, _, rfl⟩ := List.mem_map.mp h
        exact row_next.2 _ (by decide +kernel)
  have n_pick : pick = 1 → nextP page (n + 1 + (byRows by_).length + ts.length) 1 ["pick"] = false := fun z => by
    subst z
    have q : At page (n + 1 + (byRows by_).length + ts.length) ((chs.map (ChangeD.row cs) ++ rs.map (RowD.row cs ks)) ++ [⟨false, ws⟩]) := by
      have z : At page (n + 1 + (byRows by_).length + ts.length) (chs.map (ChangeD.row cs) ++ (rs.map (RowD.row cs ks) ++ [⟨false, ws⟩])) := at3
      simpa only [List.append_assoc] using z
    refine next_no q fun r hr => ?_
    rcases List.mem_append.mp hr with h | h
    · obtain ⟨t, _, rfl⟩ := List.mem_map.mp h
      exact change_next.2 _ (by decide +kernel) (by decide +kernel)
    · obtain ⟨t, _, rfl⟩ := List.mem_map.mp h
      exact row_next.2 _ (by decide +kernel)
  have n_set : nextP page (n + 1 + (byRows by_).length + ts.length + (pickRows pick).length + chs.length) 1 ["set", "add"] = false := by
    refine next_no at5 fun r h => ?_
    obtain ⟨t, _, rfl⟩ := List.mem_map.mp h
    exact row_next.2 _ (by decide +kernel)
  have n_row : nextP page (n + 1 + (byRows by_).length + ts.length + (pickRows pick).length + chs.length + rs.length) 1 ["row"] = false := by
    have q := at5.right
    rw [List.length_map] at q
    exact next_flat q.head
  have total : n + (DeedD.rows cs ks ⟨nm, by_, ts, pick, chs, rs⟩).length = n + 1 + (byRows by_).length + ts.length + (pickRows pick).length + chs.length + rs.length := by
    show n + ((byRows by_ ++ (ts.map (TestD.row cs) ++ (pickRows pick ++ (chs.map (ChangeD.row cs) ++ rs.map (RowD.row cs ks))))).length + 1) = _
    simp only [List.length_append, List.length_map]
    omega
  rw [total] at k
  clear total
  -- the name
  obtain ⟨dx0, R, hL⟩ := pa.at
  refine ⟨_, rfl, L, dx0, _, rfl, hL, rfl, _, rfl, L, dx0, _, rfl, hL, rfl, sz (by decide : 1 ≤ 1000), fun t ht => ?_⟩
  have s0 := same_new ht (.tup [.str "deed"])
  refine ⟨L, t, 0, 2, page, ["deed"], _, n, rfl, pa.same s0, .inl rfl, SqT.of upd_same, at_.head, by simp [nextB], rfl, fun q H1 b1 nq nqL e1 pa1 => ?_⟩
  have b01 := (Bar.of s0).trans b1
  refine ⟨q, _, 1, .str nm, rfl, rfl, SqL.of e1, atI_nat (j := 1) rfl, _, rfl, ?_⟩
  refine ⟨L, aN, nm, names, page.map Rw.text, n + 1, rfl, pa1.la, o1, sql_bar hL b01 hN, hin, fun H2 s2 => ?_⟩
  have pa2 := pa1.same s2
  have b02 := b01.trans (Bar.of s2)
  -- by
  refine ⟨_, rfl, _, rfl, _, rfl, ?_⟩
  refine ⟨L, ap, page, n + 1, people, by_, rfl, pa2, sqt_bar hL b02 hp, p3, o2, at1.left, n_by, fun v H3 b3 pa3 tv => ?_⟩
  obtain ⟨ab, bxs, rfl, _, _⟩ := tp_tup tv
  have b03 := b02.trans b3
  -- the deed
  obtain ⟨dy, R3, hL3⟩ := pa3.at
  intro x dx hx hdx ndx
  have nxL : x ≠ L := fun z => by
    rw [z, hL3] at hx
    cases hx
  have s3 : Same H3 (upd (upd H3 dx (.own x)) x (.ins D dx [])) := fun b o e => by
    rw [upd_ne (ne_of_none e hx), upd_ne (ne_of_none e hdx)]
    exact e
  refine ⟨x, dx, ab, nm, rfl, upd_same, fun a1 a2 a3 H4 z1 z2 z3 d1 d2 d3 ob e1 e2 e3 b4 => ⟨rfl, ?_⟩⟩
  have old : ∀ {b : Addr}, b ≠ L → (upd (upd H3 dx (.own x)) x (.ins D dx [])) b = none → H b = none := fun {b} nb e => by
    cases q : H b with
    | none => rfl
    | some o =>
      have := s3 _ _ (b03 b o nb q)
      rw [e] at this
      cases this
  have x0 : H x = none := by
    cases q : H x with
    | none => rfl
    | some o =>
      have := b03 x o nxL q
      rw [hx] at this
      cases this
  have neL : ∀ {a : Addr}, (upd (upd H3 dx (.own x)) x (.ins D dx [])) a = none → a ≠ L := fun {a} e z => by
    have := s3 _ _ hL3
    rw [← z, e] at this
    cases this
  have N : DN H L x a1 a2 a3 := ⟨old (neL z1) z1, old (neL z2) z2, old (neL z3) z3, x0, d1, d2, d3, nxL⟩
  have b34 : Same H3 H4 := fun b o e => b4 b o (ne_of_none e hx) (s3 _ _ e)
  have S0 : DS K C D H H4 L x ap ac ak page (n + 1 + (byRows by_).length) people cs ks nm (byOf people by_) [] 1 [] [] dx ab a1 a2 a3 :=
    ⟨b03.trans (Bar.of b34), pa3.same b34, same_sqt b34 (sqt_bar hL b03 hp), (hc.bar hL b03).same b34, (hk.bar hL b03).same b34, ob, tv.same b34, ⟨[], e1, .nil⟩, ⟨[], e2, .nil⟩, ⟨[], e3, .nil⟩⟩
  -- tests
  refine ⟨fun m σ H' => ∃ (j : Nat), m = ts.length - j ∧ j ≤ ts.length ∧ σ = [some (.ref L), some (.ref ap), some (.ref ac), some (.ref ak), some (.ref aN), some (.str nm), some (.ref x)] ∧ DS K C D H H' L x ap ac ak page (n + 1 + (byRows by_).length + j) people cs ks nm (byOf people by_) (ts.take j) 1 [] [] dx ab a1 a2 a3, ⟨_, 0, rfl, Nat.zero_le _, rfl, S0⟩, ?_⟩
  rintro m σ H5 ⟨j, rfl, hj, rfl, S⟩
  obtain ⟨dy, R5, hL5⟩ := S.pg.at
  obtain ⟨xs, el, tx⟩ := S.tests
  have lx : xs.length = j := by
    rw [tx.length, List.length_map, List.length_take]
    omega
  refine ⟨_, rfl, L, dy, _, rfl, hL5, rfl, sz (by decide : 1 ≤ 1000), fun t5 ht5 => ?_⟩
  have s5 := same_new ht5 (.tup [.str "if"])
  refine ⟨_, rfl, x, D, dx, _, _, rfl, s5 _ _ S.ob, DT.cl, DT.nT, rfl, ?_⟩
  refine ⟨L, t5, a1, 1, page, ["if"], _, xs, 0, 2, rfl, S.pg.same s5, .inr rfl, SqT.of upd_same, SqL.of (s5 _ _ el), fun H6 s6 => ⟨_, rfl, ?_⟩⟩
  have s56 := s5.trans s6
  have S6 := DS.step N (Bar.of s56) (S.pg.same s56) S
  by_cases hlt : j < ts.length
  · have ej : ts[j]? = some ts[j] := List.getElem?_eq_getElem hlt
    have row : page[n + 1 + (byRows by_).length + j]? = some (ts[j].row cs) := at2.left j _ (by rw [List.getElem?_map, ej] <;> rfl)
    have yes' : (decide ((xs.length : Int) < 0) || (decide ((xs.length : Int) < 2) && nextP page (n + 1 + (byRows by_).length + j) 1 ["if"])) = true := by
      have a : nextP page (n + 1 + (byRows by_).length + j) 1 ["if"] = true := by
        unfold nextP aheadP
        rw [row]
        exact test_next.1
      have o3' : ts.length ≤ 2 := o3
      rw [a, lx, decide_eq_true (by omega : (j : Int) < 2)]
      simp
    rw [yes']
    refine iteT ⟨fun σ' H' => σ' = [some (.ref L), some (.ref ap), some (.ref ac), some (.ref ak), some (.ref aN), some (.str nm), some (.ref x)] ∧ DS K C D H H' L x ap ac ak page (n + 1 + (byRows by_).length + (j + 1)) people cs ks nm (byOf people by_) (ts.take (j + 1)) 1 [] [] dx ab a1 a2 a3, ?_, ?_⟩
    · rintro σ' H' ⟨rfl, S'⟩
      exact ⟨ts.length - (j + 1), by omega, j + 1, rfl, hlt, rfl, S'⟩
    · refine ⟨_, rfl, x, D, dx, _, _, rfl, S6.ob, DT.cl, DT.nT, rfl, .inl ⟨rfl, _, SqL.of (s56 _ _ el)⟩, _, rfl, _, rfl, ?_⟩
      refine ⟨L, ac, page, _, cs, ts[j], rfl, S6.pg, cok, S6.hc, o4 _ (List.getElem_mem hlt), row, fun v H7 b7 p7 tv7 => ?_⟩
      have S7 := DS.step N b7 p7 S6
      obtain ⟨xs7, el7, tx7⟩ := S7.tests
      have lx7 : xs7.length ≤ 1000 := by
        rw [tx7.length, List.length_map, List.length_take]
        have o3' : ts.length ≤ 2 := o3
        omega
      refine ⟨a1, xs7, v, rfl, rfl, el7, small1000 lx7, rfl, ?_⟩
      have := DS.tst N pne S7 el7 tv7
      rw [List.take_add_one, ej]
      exact this
  · have e : j = ts.length := by omega
    subst e
    have no' : (decide ((xs.length : Int) < 0) || (decide ((xs.length : Int) < 2) && nextP page (n + 1 + (byRows by_).length + ts.length) 1 ["if"])) = false := by
      rw [n_if, decide_eq_false (by omega : ¬ (xs.length : Int) < 0)]
      simp
    rw [no']
    refine iteF ?_
    rw [List.take_length] at S6
    -- pick
    refine ⟨_, rfl, ?_⟩
    refine ⟨L, page, _, pick, rfl, S6.pg, o5, o6, at3.left, n_pick, fun H7 b7 p7 => ?_⟩
    have S7 := DS.step N b7 p7 S6
    refine ⟨_, rfl, x, D, dx, _, rfl, S7.ob, DT.cl, DT.nP, (by show 6 < 1000; decide), ?_⟩
    have S8 : DS K C D H (upd H7 x (.ins D dx (deedF nm ab a1 pick a2 a3))) L x ap ac ak page (n + 1 + (byRows by_).length + ts.length + (pickRows pick).length) people cs ks nm (byOf people by_) ts pick [] [] dx ab a1 a2 a3 := by
      have nlst : ∀ {a : Addr} {ys : List V}, H7 a = some (.lst ys) → a ≠ x := fun {a ys} e z => by
        have := S7.ob
        rw [← z, e] at this
        cases this
      obtain ⟨y1, f1, u1⟩ := S7.tests
      obtain ⟨y2, f2, u2⟩ := S7.changes
      obtain ⟨y3, f3, u3⟩ := S7.rows
      have t7 : ∀ {a : Addr} {ys : List V}, SqT K H7 a ys → SqT K (upd H7 x (.ins D dx (deedF nm ab a1 pick a2 a3))) a ys := fun h => sqt_upd S7.ob h
      refine ⟨bar_grow N.nx S7.bar, page_ins S7.ob nxL S7.pg, t7 S7.hp, S7.hc.map t7, S7.hk.map t7, upd_same, S7.hb.map t7, ⟨y1, by rw [upd_ne (nlst f1)]; exact f1, u1.map t7⟩, ⟨y2, by rw [upd_ne (nlst f2)]; exact f2, u2.map t7⟩, ⟨y3, by rw [upd_ne (nlst f3)]; exact f3, u3.map t7⟩⟩
    -- changes
    refine ⟨fun m σ H' => ∃ (j : Nat), m = chs.length - j ∧ j ≤ chs.length ∧ σ = [some (.ref L), some (.ref ap), some (.ref ac), some (.ref ak), some (.ref aN), some (.str nm), some (.ref x)] ∧ DS K C D H H' L x ap ac ak page (n + 1 + (byRows by_).length + ts.length + (pickRows pick).length + j) people cs ks nm (byOf people by_) ts pick (chs.take j) [] dx ab a1 a2 a3, ⟨_, 0, rfl, Nat.zero_le _, rfl, S8⟩, ?_⟩
    clear S0 S S6 S7 S8 el tx
    rintro m σ H9 ⟨j, rfl, hj, rfl, S⟩
    obtain ⟨dy, R9, hL9⟩ := S.pg.at
    obtain ⟨xs, el, tx⟩ := S.changes
    have lx : xs.length = j := by
      rw [tx.length, List.length_map, List.length_take]
      omega
    refine ⟨_, rfl, L, dy, _, rfl, hL9, rfl, sz (by decide : 2 ≤ 1000), fun t9 ht9 => ?_⟩
    have s9 := same_new ht9 (.tup [.str "set", .str "add"])
    refine ⟨_, rfl, x, D, dx, _, _, rfl, s9 _ _ S.ob, DT.cl, DT.nC, rfl, ?_⟩
    refine ⟨L, t9, a2, 1, page, ["set", "add"], _, xs, 0, 3, rfl, S.pg.same s9, .inr rfl, SqT.of upd_same, SqL.of (s9 _ _ el), fun H10 s10 => ⟨_, rfl, ?_⟩⟩
    have s910 := s9.trans s10
    have S10 := DS.step N (Bar.of s910) (S.pg.same s910) S
    have o7' : chs.length ≤ 3 := o7
    by_cases hlt : j < chs.length
    · have ej : chs[j]? = some chs[j] := List.getElem?_eq_getElem hlt
      have row : page[n + 1 + (byRows by_).length + ts.length + (pickRows pick).length + j]? = some (chs[j].row cs) := at4.left j _ (by rw [List.getElem?_map, ej] <;> rfl)
      have yes' : (decide ((xs.length : Int) < 0) || (decide ((xs.length : Int) < 3) && nextP page (n + 1 + (byRows by_).length + ts.length + (pickRows pick).length + j) 1 ["set", "add"])) = true := by
        have a : nextP page (n + 1 + (byRows by_).length + ts.length + (pickRows pick).length + j) 1 ["set", "add"] = true := by
          unfold nextP aheadP
          rw [row]
          exact change_next.1
        rw [a, lx, decide_eq_true (by omega : (j : Int) < 3)]
        simp
      rw [yes']
      refine iteT ⟨fun σ' H' => σ' = [some (.ref L), some (.ref ap), some (.ref ac), some (.ref ak), some (.ref aN), some (.str nm), some (.ref x)] ∧ DS K C D H H' L x ap ac ak page (n + 1 + (byRows by_).length + ts.length + (pickRows pick).length + (j + 1)) people cs ks nm (byOf people by_) ts pick (chs.take (j + 1)) [] dx ab a1 a2 a3, ?_, ?_⟩
      · rintro σ' H' ⟨rfl, S'⟩
        exact ⟨chs.length - (j + 1), by omega, j + 1, rfl, hlt, rfl, S'⟩
      · refine ⟨_, rfl, x, D, dx, _, _, rfl, S10.ob, DT.cl, DT.nC, rfl, .inl ⟨rfl, _, SqL.of (s910 _ _ el)⟩, _, rfl, _, rfl, _, rfl, x, D, dx, _, _, rfl, S10.ob, DT.cl, DT.nP, rfl, ?_⟩
        refine ⟨L, ac, page, _, cs, chs[j], pick, rfl, S10.pg, cok, S10.hc, o8 _ (List.getElem_mem hlt), row, fun v H11 b11 p11 tv11 => ?_⟩
        have S11 := DS.step N b11 p11 S10
        obtain ⟨xs7, el7, tx7⟩ := S11.changes
        have lx7 : xs7.length ≤ 1000 := by
          rw [tx7.length, List.length_map, List.length_take]
          omega
        refine ⟨a2, xs7, v, rfl, rfl, el7, small1000 lx7, rfl, ?_⟩
        have := DS.chg N pne S11 el7 tv11
        rw [List.take_add_one, ej]
        exact this
    · have e : j = chs.length := by omega
      subst e
      have no' : (decide ((xs.length : Int) < 0) || (decide ((xs.length : Int) < 3) && nextP page (n + 1 + (byRows by_).length + ts.length + (pickRows pick).length + chs.length) 1 ["set", "add"])) = false := by
        rw [n_set, decide_eq_false (by omega : ¬ (xs.length : Int) < 0)]
        simp
      rw [no']
      refine iteF ?_
      rw [List.take_length] at S10
      -- rows
      refine ⟨fun m σ H' => ∃ (j : Nat), m = rs.length - j ∧ j ≤ rs.length ∧ σ = [some (.ref L), some (.ref ap), some (.ref ac), some (.ref ak), some (.ref aN), some (.str nm), some (.ref x)] ∧ DS K C D H H' L x ap ac ak page (n + 1 + (byRows by_).length + ts.length + (pickRows pick).length + chs.length + j) people cs ks nm (byOf people by_) ts pick chs (rs.take j) dx ab a1 a2 a3, ⟨_, 0, rfl, Nat.zero_le _, rfl, S10⟩, ?_⟩
      clear S S10 el tx
      rintro m σ H12 ⟨j, rfl, hj, rfl, S⟩
      obtain ⟨dy, R12, hL12⟩ := S.pg.at
      obtain ⟨xs, el, tx⟩ := S.rows
      have lx : xs.length = j := by
        rw [tx.length, List.length_map, List.length_take]
        omega
      refine ⟨_, rfl, L, dy, _, rfl, hL12, rfl, sz (by decide : 1 ≤ 1000), fun tC htC => ?_⟩
      have s12 := same_new htC (.tup [.str "row"])
      refine ⟨_, rfl, x, D, dx, _, _, rfl, s12 _ _ S.ob, DT.cl, DT.nR, rfl, ?_⟩
      refine ⟨L, tC, a3, 1, page, ["row"], _, xs, 0, 2, rfl, S.pg.same s12, .inr rfl, SqT.of upd_same, SqL.of (s12 _ _ el), fun H13 s13 => ⟨_, rfl, ?_⟩⟩
      have s1213 := s12.trans s13
      have S13 := DS.step N (Bar.of s1213) (S.pg.same s1213) S
      have o9' : rs.length ≤ 2 := o9
      by_cases hlt : j < rs.length
      · have ej : rs[j]? = some rs[j] := List.getElem?_eq_getElem hlt
        have row : page[n + 1 + (byRows by_).length + ts.length + (pickRows pick).length + chs.length + j]? = some (rs[j].row cs ks) := at5.left j _ (by rw [List.getElem?_map, ej] <;> rfl)
        have yes' : (decide ((xs.length : Int) < 0) || (decide ((xs.length : Int) < 2) && nextP page (n + 1 + (byRows by_).length + ts.length + (pickRows pick).length + chs.length + j) 1 ["row"])) = true := by
          have a : nextP page (n + 1 + (byRows by_).length + ts.length + (pickRows pick).length + chs.length + j) 1 ["row"] = true := by
            unfold nextP aheadP
            rw [row]
            exact row_next.1
          rw [a, lx, decide_eq_true (by omega : (j : Int) < 2)]
          simp
        rw [yes']
        refine iteT ⟨fun σ' H' => σ' = [some (.ref L), some (.ref ap), some (.ref ac), some (.ref ak), some (.ref aN), some (.str nm), some (.ref x)] ∧ DS K C D H H' L x ap ac ak page (n + 1 + (byRows by_).length + ts.length + (pickRows pick).length + chs.length + (j + 1)) people cs ks nm (byOf people by_) ts pick chs (rs.take (j + 1)) dx ab a1 a2 a3, ?_, ?_⟩
        · rintro σ' H' ⟨rfl, S'⟩
          exact ⟨rs.length - (j + 1), by omega, j + 1, rfl, hlt, rfl, S'⟩
        · refine ⟨_, rfl, x, D, dx, _, _, rfl, S13.ob, DT.cl, DT.nR, rfl, .inl ⟨rfl, _, SqL.of (s1213 _ _ el)⟩, _, rfl, _, rfl, _, rfl, _, rfl, _, rfl, x, D, dx, _, _, rfl, S13.ob, DT.cl, DT.nP, rfl, ?_⟩
          refine ⟨L, ap, ac, ak, page, _, people, cs, ks, rs[j], pick, rfl, S13.pg, cok, S13.hp, S13.hc, S13.hk, k3, knd, o10 _ (List.getElem_mem hlt), row, fun v H14 b14 p14 tv14 => ?_⟩
          have S14 := DS.step N b14 p14 S13
          obtain ⟨xs7, el7, tx7⟩ := S14.rows
          have lx7 : xs7.length ≤ 1000 := by
            rw [tx7.length, List.length_map, List.length_take]
            omega
          refine ⟨a3, xs7, v, rfl, rfl, el7, small1000 lx7, rfl, ?_⟩
          have := DS.rw N pne S14 el7 tv14
          rw [List.take_add_one, ej]
          exact this
      · have e : j = rs.length := by omega
        subst e
        have no' : (decide ((xs.length : Int) < 0) || (decide ((xs.length : Int) < 2) && nextP page (n + 1 + (byRows by_).length + ts.length + (pickRows pick).length + chs.length + rs.length) 1 ["row"])) = false := by
          rw [n_row, decide_eq_false (by omega : ¬ (xs.length : Int) < 0)]
          simp
        rw [no']
        refine iteF ?_
        rw [List.take_length] at S13
        refine ⟨_, rfl, k x H13 S13.bar S13.pg ⟨dx, ab, a1, a2, a3, ⟨N.n1, N.n2, N.n3⟩, S13.ob, S13.hb, S13.tests, S13.changes, S13.rows⟩ x0⟩
end
end Hx
set_option maxRecDepth 100000
set_option maxHeartbeats 8000000
namespace Hx
open PySem PySem.Spec PyProof.Rows L2
theorem pe_fldK {X : Cx} (K : PySem.W.Frag) {e : Expr} {ta : TE} {f : Str} {pos : Pos} (he : PE X e ta) (hK : X.K = K := by rfl) (hb : attributeBase e f X.env (eval e X.env) = eval e X.env := by rfl) : PE X (.Attribute e f pos) (tFld K ta f) := by
  subst hK
  exact pe_fld he hb
section
variable {K : PySem.W.Frag} {D : Addr} {H H' : Hp} {p L : Addr} {people : List Str} {ks : List KindD} {d : DeedD} {N N' : Addr → Prop}
theorem DeedAt.imp (h : DeedAt K D H p people ks d N) (hn : ∀ a, N a → N' a) : DeedAt K D H p people ks d N' := by
  obtain ⟨dx, ab, a1, a2, a3, ⟨n1, n2, n3⟩, r⟩ := h.ex
  exact ⟨dx, ab, a1, a2, a3, ⟨hn _ n1, hn _ n2, hn _ n3⟩, r⟩
theorem DeedAt.same (s : Same H H') (h : DeedAt K D H p people ks d N) : DeedAt K D H' p people ks d N := by
  obtain ⟨dx, ab, a1, a2, a3, n, e, t, ⟨x1, e1, t1⟩, ⟨x2, e2, t2⟩, ⟨x3, e3, t3⟩⟩ := h.ex
  exact ⟨dx, ab, a1, a2, a3, n, s _ _ e, t.same s, ⟨x1, s _ _ e1, t1.same s⟩, ⟨x2, s _ _ e2, t2.same s⟩, ⟨x3, s _ _ e3, t3.same s⟩⟩
theorem DeedAt.bar {C dy : Addr} {fs : List (Str × V)} (eL : H L = some (.ins C dy fs)) (np : p ≠ L) (b : Bar L H H') (h : DeedAt K D H p people ks d N) : DeedAt K D H' p people ks d N := by
  obtain ⟨dx, ab, a1, a2, a3, n, e, t, ⟨x1, e1, t1⟩, ⟨x2, e2, t2⟩, ⟨x3, e3, t3⟩⟩ := h.ex
  have keep : ∀ {a : Addr} {xs : List V}, H a = some (.lst xs) → H' a = some (.lst xs) := fun {a xs} e => b a _ (fun z => by rw [z, eL] at e; cases e) e
  exact ⟨dx, ab, a1, a2, a3, n, b _ _ np e, t.bar eL b, ⟨x1, keep e1, t1.bar eL b⟩, ⟨x2, keep e2, t2.bar eL b⟩, ⟨x3, keep e3, t3.bar eL b⟩⟩
theorem DeedAt.lst {l : Addr} {ys : List V} {o : HO} (el : H l = some (.lst ys)) (h : DeedAt K D H p people ks d (· ≠ l)) : DeedAt K D (upd H l o) p people ks d (· ≠ l) := by
  obtain ⟨dx, ab, a1, a2, a3, ⟨n1, n2, n3⟩, e, t, ⟨x1, e1, t1⟩, ⟨x2, e2, t2⟩, ⟨x3, e3, t3⟩⟩ := h.ex
  have np : p ≠ l := fun z => by
    rw [z, el] at e
    cases e
  exact ⟨dx, ab, a1, a2, a3, ⟨n1, n2, n3⟩, by rw [upd_ne np]; exact e, t.lst el, ⟨x1, by rw [upd_ne n1]; exact e1, t1.lst el⟩, ⟨x2, by rw [upd_ne n2]; exact e2, t2.lst el⟩, ⟨x3, by rw [upd_ne n3]; exact e3, t3.lst el⟩⟩
end
/-- these deeds stand at these addresses -/
def Deeds (K : PySem.W.Frag) (D : Addr) (H : Hp) (L : Addr) (people : List Str) (ks : List KindD) (N : Addr → Prop) : List Addr → List DeedD → Prop
  | [], [] => True
  | p :: ps, d :: ds => DeedAt K D H p people ks d N ∧ p ≠ L ∧ Deeds K D H L people ks N ps ds
  | _, _ => False
section
variable {K : PySem.W.Frag} {D : Addr} {H H' : Hp} {L : Addr} {people : List Str} {ks : List KindD} {N : Addr → Prop}
theorem Deeds.map {N' : Addr → Prop} (f : ∀ p d, p ≠ L → DeedAt K D H p people ks d N → DeedAt K D H' p people ks d N') : ∀ {ps : List Addr} {ds : List DeedD}, Deeds K D H L people ks N ps ds → Deeds K D H' L people ks N' ps ds
  | [], [], _ => trivial
  | p :: ps, d :: ds, h => ⟨f p d h.2.1 h.1, h.2.1, Deeds.map f h.2.2⟩
theorem Deeds.len : ∀ {ps : List Addr} {ds : List DeedD}, Deeds K D H L people ks N ps ds → ps.length = ds.length
  | [], [], _ => rfl
  | _ :: _, _ :: _, h => congrArg (· + 1) (Deeds.len h.2.2)
theorem Deeds.app : ∀ {ps : List Addr} {ds : List DeedD} {p : Addr} {d : DeedD}, Deeds K D H L people ks N ps ds → DeedAt K D H p people ks d N → p ≠ L → Deeds K D H L people ks N (ps ++ [p]) (ds ++ [d])
  | [], [], _, _, _, h, n => ⟨h, n, trivial⟩
  | _ :: _, _ :: _, _, _, h, h', n => ⟨h.1, h.2.1, Deeds.app h.2.2 h' n⟩
theorem Deeds.at : ∀ {ps : List Addr} {ds : List DeedD} {i : Nat} {p : Addr}, Deeds K D H L people ks N ps ds → ps[i]? = some p → ∃ d, ds[i]? = some d ∧ DeedAt K D H p people ks d N ∧ p ≠ L
  | _ :: _, d :: _, 0, _, h, e => ⟨d, rfl, by cases e; exact h.1, by cases e; exact h.2.1⟩
  | _ :: _, _ :: _, i + 1, _, h, e => Deeds.at (i := i) h.2.2 (by simpa using e)
end
def dRows (cs : List CellD) (ks : List KindD) (ds : List DeedD) : List Rw := ds.flatMap (DeedD.rows cs ks)
theorem dRows_take {cs : List CellD} {ks : List KindD} {ds : List DeedD} {j : Nat} {d : DeedD} (e : ds[j]? = some d) : dRows cs ks (ds.take (j + 1)) = dRows cs ks (ds.take j) ++ d.rows cs ks := by
  unfold dRows
  rw [List.take_add_one, e, List.flatMap_append]
  simp
theorem dRows_split {cs : List CellD} {ks : List KindD} {ds : List DeedD} {j : Nat} {d : DeedD} (e : ds[j]? = some d) : dRows cs ks ds = dRows cs ks (ds.take j) ++ (d.rows cs ks ++ dRows cs ks (ds.drop (j + 1))) := by
  rw [← List.append_assoc, ← dRows_take e]
  unfold dRows
  rw [← List.flatMap_append, List.take_append_drop]
theorem ref_at {ps : List Addr} {i : Nat} {x : V} (h : (ps.map V.ref)[i]? = some x) : ∃ p, ps[i]? = some p ∧ x = .ref p := by
  rw [List.getElem?_map] at h
  cases e : ps[i]? with
  | none =>
    rw [e] at h
    cases h
  | some y =>
    rw [e] at h
    exact ⟨y, rfl, (Option.some.inj h).symm⟩
theorem ne_refs {ps : List Addr} {page : List Rw} (hp : page ≠ []) : ps.map V.ref ≠ (page.map Rw.text).map V.str := by
  intro z
  obtain ⟨r, rs, rfl⟩ := List.exists_cons_of_ne_nil hp
  cases ps with
  | nil => cases z
  | cons p ps =>
    have := (List.cons.inj z).1
    cases this
section
variable {P : Program} {w : World} {K : PySem.W.Frag} {mg : Str → Option Value} {base : Heap} {C D fI : Addr}
def spDeeds (C D : Addr) (K : PySem.W.Frag) : Sp := fun vs H Q _ => ∃ (L ap ac ak : Addr) (page : List Rw) (n : Nat) (people : List Str) (cs : List CellD) (ks : List KindD) (ds : List DeedD) (ws : List Str), vs = [.ref L, .ref ap, .ref ac, .ref ak] ∧ PageAt C H L page n ∧ CellsOk cs ∧
  SqT K H ap (people.map V.str) ∧ people.length ≤ 3 ∧ Tp K H (.ref ac) (.tuple (cs.map CellD.d)) ∧ Tp K H (.ref ak) (.tuple (ks.map KindD.d)) ∧ ks.length ≤ 3 ∧ (ks.map (·.x)).Nodup ∧ 1 ≤ ds.length ∧ ds.length ≤ 4 ∧ (∀ d ∈ ds, d.ok people cs ks) ∧ (ds.map (·.x)).Nodup ∧ At page n (dRows cs ks ds ++ [⟨false, ws⟩]) ∧ nextB ws ["deed"] = false ∧
  ∀ l ps H', Bar L H H' → PageAt C H' L page (n + (dRows cs ks ds).length) → H' l = some (.lst (ps.map V.ref)) → Deeds K D H' L people ks (fun _ => True) ps ds → Q (.ref l) H'
theorem scDeeds : FnScope ["lines", "people", "cells", "kinds", "deeds", "deed"] ["lines", "people", "cells", "kinds"] (defScope sTakeDeeds) := ⟨rfl, rfl, rfl, by decide +kernel, rfl, by decide +kernel, by decide +kernel⟩
theorem ok_deeds {f : Addr} {fd : FuncData} (F : Fun K "take_deeds" "take_deeds" sTakeDeeds f fd) (T : Ln P w K mg base C) (DT : DTxt K mg D fI) (TD : DefOk P w K mg base "take_deed" 5 ["lines", "people", "cells", "kinds", "names"] (spDeed C D K)) : FnOk P w K mg base CX0 6 f fd ["lines", "people", "cells", "kinds"] (spDeeds C D K) := by
  refine F.ok scDeeds (fun vs H Q E h => ?_) (fun cdv A outer s H vs Q E hr h => ?_)
  · obtain ⟨L, ap, ac, ak, page, n, people, cs, ks, ds, ws, rfl, _⟩ := h
    rfl
  obtain ⟨L, ap, ac, ak, page, n, people, cs, ks, ds, ws, rfl, pa, cok, hp, p3, hc, hk, k3, knd, d1, d4, dok, dnd, at_, endw, k⟩ := h
  have nd := scDeeds.nd
  have hr3 : Room 3 (A.deeper (envOfC "take_deeds" (defScope sTakeDeeds) s.heap.objs.size f cdv)) := hr.mono (by decide)
  refine ⟨_, pss_cons (ps_set (i := 4) nd rfl (.inl rfl) (pe_lst pa_nil))
    (pss_cons (ps_while PassesOwn.never (pt_val (pe_M (pv 0) T.T.cl T.more hr3 (pa_cons pe_int (pa_cons (pe_tup (pa_cons pe_str pa_nil)) (pa_cons (pv 4) (pa_cons pe_int (pa_cons pe_int pa_nil)))))))
      (pss_one (ps_expr (pe_bm PySem.F.plainAttrs_list PySem.F.slot_list_append PySem.F.type_list_append mt_append (pv 4) (pa_cons (pe_D TD hr rfl (pa_cons (pv 0) (pa_cons (pv 1) (pa_cons (pv 2) (pa_cons (pv 3) (pa_cons
        (pe_lc (own := [("deed", 5)]) (g := gName 5) (tt := tYes) rfl nd (pi_list (pv 4)) (blkOk_by (N := ["lines", "people", "cells", "kinds", "deeds", "deed"]) (sc := defScope sTakeDeeds) (by decide +kernel)) (fun _ _ _ _ _ => pg_name (i := 5) nd rfl (Or.inl rfl)) (fun _ _ _ _ _ => pts_nil) (fun _ _ _ _ _ => pe_fldK K (pv 5))) pa_nil)))))) pa_nil)))))
    (pss_one (ps_ret (pv 4)))), ?_⟩
  refine ⟨sz (by decide : 0 ≤ 1000), fun l hl => ?_⟩
  have hlL : l ≠ L := fun z => by
    obtain ⟨dx, R, e⟩ := pa.at
    rw [z, e] at hl
    cases hl
  have s0 := same_new hl (.lst [])
  have pne : page ≠ [] := by
    cases dss : ds with
    | nil =>
      rw [dss] at d1
      cases d1
    | cons d r =>
      rw [dss] at at_
      exact page_ne (show page[n]? = some ⟨false, ["deed", d.x]⟩ from at_.head)
  refine ⟨fun m σ H' => ∃ (j : Nat) (ps : List Addr), m = ds.length - j ∧ j ≤ ds.length ∧ σ = [some (.ref L), some (.ref ap), some (.ref ac), some (.ref ak), some (.ref l), none] ∧ Bar L H H' ∧ PageAt C H' L page (n + (dRows cs ks (ds.take j)).length) ∧ SqT K H' ap (people.map V.str) ∧ Tp K H' (.ref ac) (.tuple (cs.map CellD.d)) ∧ Tp K H' (.ref ak) (.tuple (ks.map KindD.d)) ∧
    H' l = some (.lst (ps.map V.ref)) ∧ Deeds K D H' L people ks (· ≠ l) ps (ds.take j), ⟨_, 0, [], rfl, Nat.zero_le _, rfl, Bar.of s0, pa.same s0, same_sqt s0 hp, hc.same s0, hk.same s0, upd_same, trivial⟩, ?_⟩
  rintro m σ H' ⟨j, ps, rfl, hj, rfl, b, pj, hp', hc', hk', el, tx⟩
  obtain ⟨dx, R, hL⟩ := pj.at
  have lx : (ps.map V.ref).length = j := by
    rw [List.length_map, tx.len, List.length_take]
    omega
  refine ⟨_, rfl, L, dx, _, rfl, hL, rfl, sz (by decide : 1 ≤ 1000), fun t ht => ?_⟩
  have s1 := same_new ht (.tup [.str "deed"])
  have el1 := s1 _ _ el
  refine ⟨_, rfl, L, t, l, 0, page, ["deed"], _, _, 1, 4, rfl, pj.same s1, .inl rfl, SqT.of upd_same, SqL.of el1, fun H2 s2 => ⟨_, rfl, ?_⟩⟩
  have s12 := s1.trans s2
  have el2 := s2 _ _ el1
  by_cases hlt : j < ds.length
  · have ej : ds[j]? = some ds[j] := List.getElem?_eq_getElem hlt
    have eB := dRows_split (cs := cs) (ks := ks) ej
    have rows : At page (n + (dRows cs ks (ds.take j)).length) (ds[j].rows cs ks ++ (dRows cs ks (ds.drop (j + 1)) ++ [⟨false, ws⟩])) := by
      rw [eB, List.append_assoc, List.append_assoc] at at_
      exact at_.right
    have row : page[n + (dRows cs ks (ds.take j)).length]? = some ⟨false, ["deed", ds[j].x]⟩ := rows.left.head
    have yes' : (decide (((ps.map V.ref).length : Int) < 1) || (decide (((ps.map V.ref).length : Int) < 4) && nextP page (n + (dRows cs ks (ds.take j)).length) 0 ["deed"])) = true := by
      have a : nextP page (n + (dRows cs ks (ds.take j)).length) 0 ["deed"] = true := by
        unfold nextP aheadP
        rw [row]
        rfl
      rw [a, lx, decide_eq_true (by omega : (j : Int) < 4)]
      simp
    rw [yes']
    have e1 : n + (dRows cs ks (ds.take j)).length + (ds[j].rows cs ks).length = n + (dRows cs ks (ds.take (j + 1))).length := by
      rw [dRows_take ej, List.length_append, Nat.add_assoc]
    -- the line behind this deed does not stand deeper
    obtain ⟨ws2, behind⟩ : ∃ ws2, At page (n + (dRows cs ks (ds.take j)).length) (ds[j].rows cs ks ++ [⟨false, ws2⟩]) := by
      have two : ∃ ws2 rest, dRows cs ks (ds.drop (j + 1)) ++ [(⟨false, ws⟩ : Rw)] = [⟨false, ws2⟩] ++ rest := by
        cases q : ds.drop (j + 1) with
        | nil => exact ⟨ws, [], rfl⟩
        | cons d r => exact ⟨["deed", d.x], _, rfl⟩
      obtain ⟨ws2, rest, e⟩ := two
      rw [e, ← List.append_assoc] at rows
      exact ⟨ws2, rows.left⟩
    refine iteT ⟨fun σ' H3 => ∃ (ps : List Addr), σ' = [some (.ref L), some (.ref ap), some (.ref ac), some (.ref ak), some (.ref l), none] ∧ Bar L H H3 ∧ PageAt C H3 L page (n + (dRows cs ks (ds.take (j + 1))).length) ∧ SqT K H3 ap (people.map V.str) ∧ Tp K H3 (.ref ac) (.tuple (cs.map CellD.d)) ∧ Tp K H3 (.ref ak) (.tuple (ks.map KindD.d)) ∧
      H3 l = some (.lst (ps.map V.ref)) ∧ Deeds K D H3 L people ks (· ≠ l) ps (ds.take (j + 1)), ?_, ?_⟩
    · rintro σ' H3 ⟨qs, rfl, b3, p3', h3, c3, k3', e3, t3⟩
      exact ⟨ds.length - (j + 1), by omega, j + 1, qs, rfl, hlt, rfl, b3, p3', h3, c3, k3', e3, t3⟩
    · refine ⟨_, rfl, .inl ⟨rfl, _, SqL.of el2⟩, _, rfl, _, rfl, _, rfl, _, rfl, ?_⟩
      have tx2 : Deeds K D H2 L people ks (· ≠ l) ps (ds.take j) := tx.map fun p d _ h => h.same s12
      refine ⟨_, rfl, l, rfl, ⟨_, SqL.of el2⟩, fun G hG => lc_list (xs := ps.map V.ref) (fun i H3 => Same H2 H3 ∧ H3 G = some (.lst (((ds.take i).map (·.x)).map V.str))) ⟨same_new hG _, by rw [upd_same]; rfl⟩ (fun i H3 _ z => SqL.of (z.1 _ _ el2)) ?_ ?_⟩
      · rintro i x H3 hi ⟨sm, eG⟩
        obtain ⟨p, ep, rfl⟩ := ref_at hi
        obtain ⟨d, ed, da, _⟩ := tx2.at ep
        have da3 := da.same sm
        obtain ⟨dx3, ab, a1, a2, a3, _, ob, _⟩ := da3.ex
        rw [List.getElem?_take] at ed
        have hij : i < j := by
          by_cases z : i < j
          · exact z
          · rw [if_neg z] at ed
            cases ed
        rw [if_pos hij] at ed
        refine ⟨set2, yes ⟨_, get_same (by show 5 < 6; decide), p, D, dx3, _, _, rfl, ob, DT.cl, DT.nN, rfl, _, eG, ?_, same_grow hG sm, ?_⟩⟩
        · rw [List.length_map, List.length_map, List.length_take]
          exact small1000 (by omega)
        · rw [upd_same, List.take_add_one, ed, List.map_append, List.map_append]
          rfl
      · rintro H3 ⟨sm, eG⟩
        rw [lx] at eG
        have p3' := (pj.same s12).same sm
        have nin : ds[j].x ∉ (ds.take j).map (·.x) := not_in_take (f := fun d : DeedD => d.x) dnd ej
        refine ⟨L, ap, ac, ak, G, page, _, people, cs, ks, _, ds[j], ws2, rfl, p3', cok, same_sqt (s12.trans sm) hp', p3, hc'.same (s12.trans sm), hk'.same (s12.trans sm), k3, knd, dok _ (List.getElem_mem hlt), SqL.of eG, nin, behind, fun p H4 b4 p4 da np => ?_⟩
        have el3 := sm _ _ el2
        have el4 := b4 l _ hlL el3
        obtain ⟨dz, Rz, hL3⟩ := p3'.at
        have npL : p ≠ L := fun z => by
          rw [z, hL3] at np
          cases np
        have bb : Bar L H H4 := (b.trans (Bar.of (s12.trans sm))).trans b4
        rw [e1] at p4
        have tx4 : Deeds K D H4 L people ks (· ≠ l) ps (ds.take j) := tx2.map fun p d n h => (h.same sm).bar hL3 n b4
        have da4 : DeedAt K D H4 p people ks ds[j] (· ≠ l) := da.imp fun a z e => by
          rw [e, el3] at z
          cases z
        refine ⟨l, ps.map V.ref, .ref p, rfl, rfl, el4, small1000 (by omega), ?_⟩
        have sq4 : ∀ {a : Addr} {xs : List V}, SqT K H2 a xs → SqT K (upd H4 l (.lst (ps.map V.ref ++ [.ref p]))) a xs := fun h => sqt_lst el4 (sqt_bar hL3 b4 (same_sqt sm h))
        refine ⟨ps ++ [p], rfl, bar_grow hl bb, page_lst el4 (ne_refs pne) p4, sq4 (same_sqt s12 hp'), (hc'.same s12).map sq4, (hk'.same s12).map sq4, ?_, ?_⟩
        · rw [List.map_append]
          exact upd_same
        · rw [List.take_add_one, ej]
          exact (tx4.map fun p d _ h => h.lst el4).app (da4.lst el4) npL
  · have e : j = ds.length := by omega
    subst e
    rw [List.take_length] at tx
    have no' : (decide (((ps.map V.ref).length : Int) < 1) || (decide (((ps.map V.ref).length : Int) < 4) && nextP page (n + (dRows cs ks (ds.take ds.length)).length) 0 ["deed"])) = false := by
      have a : nextP page (n + (dRows cs ks (ds.take ds.length)).length) 0 ["deed"] = false := by
        rw [List.take_length]
        have z := at_.right.head
        unfold nextP aheadP
        rw [z]
        exact endw
      rw [a, lx, decide_eq_false (by omega : ¬ (ds.length : Int) < 1)]
      simp
    rw [no']
    refine iteF ?_
    rw [List.take_length] at pj
    exact ⟨_, rfl, k l ps H2 (b.trans (Bar.of s12)) (pj.same s12) el2 (tx.map fun p d _ h => (h.same s12).imp fun _ _ => trivial)⟩
end
end Hx
set_option maxRecDepth 100000
set_option maxHeartbeats 4000000
/-! sorted, of a list of rows of numbers and texts of any lengths. -/
namespace Hx
open PySem PySem.Spec PyProof.Rows L2
/-- lists one before the other, place by place -/
def lexL {α : Type} (lt : α → α → Bool) : List α → List α → Bool
  | [], [] => false
  | [], _ :: _ => true
  | _ :: _, [] => false
  | x :: xs, y :: ys => lt x y || (!lt y x && lexL lt xs ys)
theorem lexL_asym {α : Type} {lt : α → α → Bool} (O : SrtO.Swo lt) : ∀ xs ys : List α, lexL lt xs ys = true → lexL lt ys xs = false
  | [], [], h => by cases h
  | [], _ :: _, _ => rfl
  | _ :: _, [], h => by cases h
  | x :: xs, y :: ys, h => by
    unfold lexL at h ⊢
    cases e : lt x y with
    | true => rw [O.asym x y e]; rfl
    | false =>
      rw [e] at h
      cases e2 : lt y x with
      | true => rw [e2] at h; cases h
      | false =>
        rw [e2] at h
        have := lexL_asym O xs ys (by simpa using h)
        rw [this]
        rfl
theorem lexL_no {α : Type} {lt : α → α → Bool} {x y : α} {xs ys : List α} : lexL lt (x :: xs) (y :: ys) = false ↔ lt x y = false ∧ (lt y x = true ∨ lexL lt xs ys = false) := by
  show (lt x y || (!lt y x && lexL lt xs ys)) = false ↔ _
  cases lt x y <;> cases lt y x <;> simp
theorem lexL_tr {α : Type} {lt : α → α → Bool} (O : SrtO.Swo lt) : ∀ xs ys zs : List α, lexL lt ys xs = false → lexL lt zs ys = false → lexL lt zs xs = false
  | [], _, [], _, _ => rfl
  | [], _, _ :: _, _, _ => rfl
  | _ :: _, [], _, h, _ => by cases h
  | _ :: _, _ :: _, [], _, h => by cases h
  | a :: x, b :: y, c :: z, h1, h2 => by
    obtain ⟨p1, p2⟩ := lexL_no.mp h1
    obtain ⟨q1, q2⟩ := lexL_no.mp h2
    refine lexL_no.mpr ⟨O.tr a b c p1 q1, ?_⟩
    rcases p2 with p2 | p2
    · exact .inl (O.ltle p2 q1)
    · rcases q2 with q2 | q2
      · exact .inl (O.lelt p1 q2)
      · exact .inr (lexL_tr O x y z p2 q2)
theorem lexL_swo {α : Type} {lt : α → α → Bool} (O : SrtO.Swo lt) : SrtO.Swo (lexL lt) := ⟨lexL_asym O, lexL_tr O⟩
theorem swo_by {α β : Type} {lt : β → β → Bool} (O : SrtO.Swo lt) (f : α → β) : SrtO.Swo fun x y => lt (f x) (f y) := ⟨fun x y => O.asym (f x) (f y), fun x y z => O.tr (f x) (f y) (f z)⟩
def ltI (x y : Int) : Bool := decide (x < y)
theorem ltI_swo : SrtO.Swo ltI := by
  constructor
  · intro x y h
    have := of_decide_eq_true (p := x < y) h
    exact decide_eq_false (p := y < x) (by omega)
  · intro x y z h1 h2
    have a := of_decide_eq_false (p := y < x) h1
    have b := of_decide_eq_false (p := z < y) h2
    exact decide_eq_false (p := z < x) (by omega)
/-- a value's place in an order of all values -/
def codeV : V → List Int
  | .int i => [0, i]
  | .str x => 1 :: x.cps.toList.map Int.ofNat
  | _ => [2]
def ordV (x y : V) : Bool := lexL ltI (codeV x) (codeV y)
theorem ordV_swo : SrtO.Swo ordV := swo_by (lexL_swo ltI_swo) codeV
def ordR : List V → List V → Bool := lexL ordV
theorem ordR_swo : SrtO.Swo ordR := lexL_swo ordV_swo
theorem lex_nat : ∀ xs ys : List Nat, lexL ltI (xs.map Int.ofNat) (ys.map Int.ofNat) = decide (xs < ys)
  | [], [] => (decide_eq_false (List.not_lt_nil _)).symm
  | [], y :: ys => (decide_eq_true (List.nil_lt_cons _ _)).symm
  | x :: xs, [] => (decide_eq_false (List.not_lt_nil _)).symm
  | x :: xs, y :: ys => by
    show (decide ((x : Int) < (y : Int)) || (!decide ((y : Int) < (x : Int)) && lexL ltI (xs.map Int.ofNat) (ys.map Int.ofNat))) = _
    rw [lex_nat xs ys]
    rw [Bool.eq_iff_iff]
    simp only [Bool.or_eq_true, Bool.and_eq_true, Bool.not_eq_true', decide_eq_true_eq, decide_eq_false_iff_not]
    rw [List.cons_lt_cons_iff]
    constructor
    · rintro (h | ⟨h1, h2⟩)
      · exact .inl (by omega)
      · by_cases e : x = y
        · exact .inr ⟨e, h2⟩
        · exact .inl (by omega)
    · rintro (h | ⟨rfl, h2⟩)
      · exact .inl (by omega)
      · exact .inr ⟨by omega, h2⟩
/-- one before the other: numbers before texts, numbers by size, texts by their signs -/
def itLt : V → V → Bool
  | .int i, .int j => decide (i < j)
  | .str x, .str y => decide (x.cps.toList < y.cps.toList)
  | _, _ => false
def rowLt : List V → List V → Bool
  | [], [] => false
  | [], _ :: _ => true
  | _ :: _, [] => false
  | x :: xs, y :: ys => itLt x y || (decide (x = y) && rowLt xs ys)
/-- an item of the kind that its place asks: a text where shape says so, else a number -/
def fitsAt (shape : Nat → Bool) : Nat → List V → Bool
  | _, [] => true
  | k, .int _ :: r => !shape k && fitsAt shape (k + 1) r
  | k, .str _ :: r => shape k && fitsAt shape (k + 1) r
  | _, _ :: _ => false
theorem fits_case {shape : Nat → Bool} {k : Nat} {x : V} {xs : List V} (h : fitsAt shape k (x :: xs) = true) : fitsAt shape (k + 1) xs = true ∧ ((∃ i, x = .int i ∧ shape k = false) ∨ ∃ t, x = .str t ∧ shape k = true) := by
  cases x <;> first | (unfold fitsAt at h; cases h; done) | skip
  · rename_i i
    have h' : (!shape k && fitsAt shape (k + 1) xs) = true := h
    cases e : shape k with
    | true => rw [e] at h'; cases h'
    | false =>
      rw [e] at h'
      exact ⟨h', .inl ⟨i, rfl, rfl⟩⟩
  · rename_i t
    have h' : (shape k && fitsAt shape (k + 1) xs) = true := h
    cases e : shape k with
    | false => rw [e] at h'; cases h'
    | true =>
      rw [e] at h'
      exact ⟨h', .inr ⟨t, rfl, rfl⟩⟩
theorem ord_int (i j : Int) : ordV (.int i) (.int j) = decide (i < j) := by
  show (decide ((0 : Int) < 0) || (!decide ((0 : Int) < 0) && (decide (i < j) || (!decide (j < i) && false)))) = _
  simp
theorem ord_str (x y : Str) : ordV (.str x) (.str y) = decide (x.cps.toList < y.cps.toList) := by
  rw [← lex_nat]
  show (decide ((1 : Int) < 1) || (!decide ((1 : Int) < 1) && lexL ltI (x.cps.toList.map Int.ofNat) (y.cps.toList.map Int.ofNat))) = _
  simp
theorem str_toList {x y : Str} (h : x.cps.toList = y.cps.toList) : x = y := by
  cases x
  cases y
  exact congrArg Str.mk (Array.toList_inj.mp h)
theorem nat_tri : ∀ xs ys : List Nat, ¬ xs < ys → ¬ ys < xs → xs = ys
  | [], [], _, _ => rfl
  | [], y :: ys, h, _ => absurd (List.nil_lt_cons y ys) h
  | x :: xs, [], _, h => absurd (List.nil_lt_cons x xs) h
  | x :: xs, y :: ys, h1, h2 => by
    rw [List.cons_lt_cons_iff] at h1 h2
    have e : x = y := by
      rcases Nat.lt_trichotomy x y with z | z | z
      · exact absurd (.inl z) h1
      · exact z
      · exact absurd (.inl z) h2
    subst e
    rw [nat_tri xs ys (fun z => h1 (.inr ⟨rfl, z⟩)) fun z => h2 (.inr ⟨rfl, z⟩)]
theorem rowLt_ord {shape : Nat → Bool} : ∀ {k : Nat} {xs ys : List V}, fitsAt shape k xs = true → fitsAt shape k ys = true → rowLt xs ys = ordR xs ys
  | _, [], [], _, _ => rfl
  | _, [], _ :: _, _, _ => rfl
  | _, _ :: _, [], _, _ => rfl
  | k, x :: xs, y :: ys, hx, hy => by
    obtain ⟨fx, cx⟩ := fits_case hx
    obtain ⟨fy, cy⟩ := fits_case hy
    have ih := rowLt_ord fx fy
    show (itLt x y || (decide (x = y) && rowLt xs ys)) = (ordV x y || (!ordV y x && ordR xs ys))
    rw [ih]
    rcases cx with ⟨i, rfl, s1⟩ | ⟨t, rfl, s1⟩ <;> rcases cy with ⟨j, rfl, s2⟩ | ⟨u, rfl, s2⟩
    · rw [ord_int, ord_int]
      show (decide (i < j) || _) = _
      by_cases h : i < j
      · rw [decide_eq_true h]; rfl
      · rw [decide_eq_false h]
        by_cases e : i = j
        · subst e
          rw [decide_eq_true rfl, decide_eq_false h]
          rfl
        · rw [decide_eq_false (fun z => e (V.int.inj z)), decide_eq_true (show j < i by omega)]
          rfl
    · rw [s1] at s2; cases s2
    · rw [s1] at s2; cases s2
    · rw [ord_str, ord_str]
      show (decide (t.cps.toList < u.cps.toList) || _) = _
      by_cases h : t.cps.toList < u.cps.toList
      · rw [decide_eq_true h]; rfl
      · rw [decide_eq_false h]
        by_cases e : t = u
        · subst e
          rw [decide_eq_true rfl, decide_eq_false h]
          rfl
        · rw [decide_eq_false (fun z => e (V.str.inj z))]
          have : u.cps.toList < t.cps.toList := by
            rcases Classical.em (u.cps.toList < t.cps.toList) with q | q
            · exact q
            · exact absurd (str_toList (nat_tri _ _ h q)) e
          rw [decide_eq_true this]
          rfl
section
variable {prog : Program} {w : World} {A : Around} {s : Shared}
/-- a comparison of two rows, item by item -/
theorem kat_rows {shape : Nat → Bool} {Q : Bool → Shared → Prop} (b fin : Bool) : ∀ {k i : Nat} {xs ys : List V} {us vs : List Value}, Vals xs us → Vals ys vs → fitsAt shape k xs = true → fitsAt shape k ys = true →
    fin = decide (xs.length < ys.length) → Q (rowLt xs ys) s → PySem.W.KatLex prog w A b fin Q (us.zip vs) i s
  | _, _, [], [], _, _, .nil, .nil, _, _, e, h => PySem.W.kat_nil (by rw [e]; exact h)
  | _, _, [], _ :: _, _, _, .nil, .cons _ _, _, _, e, h => PySem.W.kat_nil (by
      rw [e]
      rw [decide_eq_true (by simp)]
      exact h)
  | _, _, _ :: _, [], _, _, .cons _ _, .nil, _, _, e, h => PySem.W.kat_nil (by
      rw [e]
      rw [decide_eq_false (by simp)]
      exact h)
  | k, i, x :: xs, y :: ys, _, _, .cons (b := u) rx tx, .cons (b := v) ry ty, hx, hy, e, h => by
    obtain ⟨fx, cx⟩ := fits_case hx
    obtain ⟨fy, cy⟩ := fits_case hy
    rw [List.zip_cons_cons]
    have e' : fin = decide (xs.length < ys.length) := by
      rw [e]
      simp
    have more : x = y → rowLt (x :: xs) (y :: ys) = rowLt xs ys := by
      rintro rfl
      show (itLt x x || (decide (x = x) && rowLt xs ys)) = _
      rw [decide_eq_true rfl]
      rcases cx with ⟨n, rfl, _⟩ | ⟨t, rfl, _⟩
      · show (decide (n < n) || _) = _
        simp
      · show (decide (t.cps.toList < t.cps.toList) || _) = _
        rw [decide_eq_false (List.lt_irrefl _)]
        simp
    have less : x ≠ y → rowLt (x :: xs) (y :: ys) = itLt x y := fun q => by
      show (itLt x y || (decide (x = y) && rowLt xs ys)) = _
      rw [decide_eq_false q]
      simp
    rcases cx with ⟨n, rfl, s1⟩ | ⟨t, rfl, s1⟩ <;> rcases cy with ⟨m, rfl, s2⟩ | ⟨z, rfl, s2⟩
    · obtain ⟨t1, rfl⟩ := rx
      obtain ⟨t2, rfl⟩ := ry
      refine PySem.W.kat_cons (PySem.SeqAt.EqAt.int_int n t1 m t2 prog w _ _ (PySem.W.kat_go (fun q => ?_) fun q => ?_))
      · have q' : n = m := by simpa using q
        exact PySem.W.kat_yes (kat_rows b fin tx ty fx fy e' (by rw [← more (by rw [q'])]; exact h))
      · have q' : ¬ n = m := by simpa using q
        rw [less (fun z => q' (V.int.inj z))] at h
        refine PySem.W.kat_no ?_
        cases b && i == 0 with
        | true => exact oneLt_int h
        | false => exact PySem.W.kat_one _ _ (PyProof.Rows.lt_int h)
    · rw [s1] at s2; cases s2
    · rw [s1] at s2; cases s2
    · obtain ⟨t1, rfl⟩ := rx
      obtain ⟨t2, rfl⟩ := ry
      refine PySem.W.kat_cons (wpAny_eqBool_str (PySem.W.kat_go (fun q => ?_) fun q => ?_))
      · have q' : t = z := of_decide_eq_true q
        exact PySem.W.kat_yes (kat_rows b fin tx ty fx fy e' (by rw [← more (by rw [q'])]; exact h))
      · have q' : ¬ t = z := of_decide_eq_false q
        rw [less (fun z => q' (V.str.inj z))] at h
        refine PySem.W.kat_no ?_
        cases b && i == 0 with
        | true => exact oneLt_str h
        | false => exact PySem.W.kat_one _ _ (PyProof.Rows.lt_str h)
/-- a row that stands at a value -/
def RowIs (h : Heap) (shape : Nat → Bool) (v : Value) (xs : List V) : Prop := ∃ (a : Addr) (us : List Value), v = .ref a ∧ IsTup h a us.toArray ∧ Vals xs us ∧ xs ≠ [] ∧ fitsAt shape 0 xs = true
theorem RowIs.keeps {h h' : Heap} {shape : Nat → Bool} {v : Value} {xs : List V} (r : RowIs h shape v xs) (k : ∀ b o, o.cls = .type "tuple" → h.get? b = some o → h'.get? b = some o) : RowIs h' shape v xs := by
  obtain ⟨a, us, rfl, ⟨o, e, c, n, d⟩, q⟩ := r
  exact ⟨a, us, rfl, ⟨o, k a o c e, c, n, d⟩, q⟩
theorem rows_cmp {shape : Nat → Bool} {vs : List Value} {row : Value → List V} (hp : ∀ v ∈ vs, RowIs s.heap shape v (row v)) : SrtO.Cmp prog w A s (tuples' true) (fun p => p.1 ∈ vs) (SrtO.lt2 fun v u => ordR (row v) (row u)) := by
  intro p q hm hm'
  have h1 := hp _ hm
  have h2 := hp _ hm'
  show wpAny (model prog w) A (keyLt' (tuples' true) p.1 q.1) (fun r s' => s' = s ∧ r = ordR (row p.1) (row q.1)) (fun _ _ => False) s
  generalize row p.1 = xs at h1 ⊢
  generalize row q.1 = ys at h2 ⊢
  obtain ⟨a, us, e1, ⟨o, ho, _, n, hd⟩, vx, _, fx⟩ := h1
  obtain ⟨b, vs', e2, ⟨o', ho', _, n', hd'⟩, vy, _, fy⟩ := h2
  rw [e1, e2]
  refine PySem.W.kat_lt ho hd ho' hd' ?_
  refine kat_rows true _ (k := 0) vx vy fx fy ?_ ⟨rfl, rowLt_ord fx fy⟩
  rw [vx.length, vy.length]
  simp
theorem rows_first {h : Heap} {shape : Nat → Bool} {row : Value → List V} : ∀ {vs : List Value}, (∀ v ∈ vs, RowIs h shape v (row v)) → ∃ fs : List Value, PySem.W.KatTups h vs fs ∧ fs.length = vs.length ∧ ∀ f ∈ fs, (∃ x t, f = Value.int x t ∧ shape 0 = false) ∨ ∃ x t, f = Value.str x t ∧ shape 0 = true
  | [], _ => ⟨[], PySem.W.KatTups.nil, rfl, fun _ z => nomatch z⟩
  | v :: vs, hp => by
    obtain ⟨fs, k1, k2, k3⟩ := rows_first (vs := vs) fun u hu => hp u (List.mem_cons_of_mem _ hu)
    obtain ⟨a, us, ev, ⟨o, ho, hc, n, hd⟩, r, ne, fi⟩ := hp v (List.mem_cons_self ..)
    generalize row v = xs at r ne fi
    cases r with
    | nil => exact absurd rfl ne
    | cons r0 rt =>
      rename_i x u xs us
      obtain ⟨_, c⟩ := fits_case fi
      rw [ev]
      refine ⟨u :: fs, PySem.W.KatTups.cons ho hc hd rfl k1, by rw [List.length_cons, List.length_cons, k2], fun f hf => ?_⟩
      rcases List.mem_cons.mp hf with rfl | hf
      · rcases c with ⟨i, rfl, sh⟩ | ⟨t, rfl, sh⟩
        · obtain ⟨t, e⟩ := r0
          exact .inl ⟨i, t, e, sh⟩
        · obtain ⟨t', e⟩ := r0
          exact .inr ⟨t, t', e, sh⟩
      · exact k3 f hf
theorem rows_sortable {a : Addr} {shape : Nat → Bool} {vs : List Value} {row : Value → List V} (h0 : 0 < vs.length) (hp : ∀ v ∈ vs, RowIs s.heap shape v (row v)) (ha : ∀ o, s.heap.get? a = some o → o.cls ≠ .type "tuple") : SrtO.SortableO prog w A s a vs fun v u => ordR (row v) (row u) := by
  intro h' keep
  have hp' : ∀ v ∈ vs, RowIs h' shape v (row v) := fun v hm => (hp v hm).keeps fun b o c e => keep b o (fun z => ha o (z ▸ e) c) e
  obtain ⟨fs, k1, k2, k3⟩ := rows_first hp'
  refine ⟨tuples' true, fun Q E hq => ?_, rows_cmp hp'⟩
  cases e : shape 0 with
  | false =>
    refine PySem.W.kat_kind (T := .type "int") k1 (by omega) (fun f hm => ?_) (by rfl) ?_
    · rcases k3 f hm with ⟨x, t, rfl, _⟩ | ⟨_, _, _, z⟩
      · exact PySem.W.Looks.now
      · rw [e] at z; cases z
    · rw [show (Value.type "int" != Value.type "tuple") = true by decide +kernel]
      exact hq
  | true =>
    refine PySem.W.kat_kind (T := .type "str") k1 (by omega) (fun f hm => ?_) (by rfl) ?_
    · rcases k3 f hm with ⟨_, _, _, z⟩ | ⟨x, t, rfl, _⟩
      · rw [e] at z; cases z
      · exact PySem.W.Looks.now
    · rw [show (Value.type "str" != Value.type "tuple") = true by decide +kernel]
      exact hq
end
/-! ### as a rule -/
def rSortT (K : PySem.W.Frag) : List V → Hp → VK → Prop := fun xs H Q => ∃ (a : Addr) (ps : List (Addr × List V)) (shape : Nat → Bool), xs = [.ref a] ∧ SqL K H a (ps.map fun p => V.ref p.1) ∧ (∀ p ∈ ps, SqT K H p.1 p.2 ∧ p.2 ≠ [] ∧ fitsAt shape 0 p.2 = true) ∧ ps.length ≤ 900 ∧
  ∀ (qs : List (Addr × List V)) (p : Addr), qs.Perm ps → qs.Pairwise (fun x y => rowLt y.2 x.2 = false) → H p = none → Q (.ref p) (upd H p (.lst (qs.map fun q => V.ref q.1)))
def addrOf : Value → Addr
  | .ref a => a
  | _ => 0
/-- the row that is told of an address -/
def rowOf (ps : List (Addr × List V)) (v : Value) : List V := ((ps.find? fun p => p.1 == addrOf v).map (·.2)).getD []
theorem row_of {ps : List (Addr × List V)} (one : ∀ p ∈ ps, ∀ q ∈ ps, p.1 = q.1 → p.2 = q.2) {p : Addr × List V} (hp : p ∈ ps) : rowOf ps (.ref p.1) = p.2 := by
  unfold rowOf
  cases e : ps.find? fun q => q.1 == addrOf (.ref p.1) with
  | none =>
    have := List.find?_eq_none.mp e p hp
    exact absurd (beq_self_eq_true p.1) this
  | some q =>
    have h1 := List.mem_of_find?_eq_some e
    have h2 : (q.1 == p.1) = true := by simpa [addrOf] using List.find?_some e
    exact one q h1 p hp (by simpa using h2)
theorem cr_sortedT {X : Cx} : CallR X (.builtin "sorted") (rSortT X.K) := by
  intro pins s σ H vs us Q I r h
  obtain ⟨a, ps, shape, rfl, hs, hx, few, q⟩ := h
  obtain ⟨its, rv, hl, hz⟩ := I.list hs
  obtain ⟨u, rfl, ru⟩ := vals1 r
  obtain rfl : u = Value.ref a := ru
  have one : ∀ p ∈ ps, ∀ q ∈ ps, p.1 = q.1 → p.2 = q.2 := fun p hp q hq e => I.tuple_inj (hx p hp).1 (by rw [e]; exact (hx q hq).1)
  have back : ∀ x ∈ ps.map fun p => V.ref p.1, ∃ b, x = V.ref b := fun x hm => by
    obtain ⟨p, _, rfl⟩ := List.mem_map.mp hm
    exact ⟨p.1, rfl⟩
  obtain ⟨e1, e2⟩ := refs_back rv back
  let pairOf : Value → Addr × List V := fun v => (addrOf v, rowOf ps v)
  have eps : its.map pairOf = ps := by
    have e3 : ∀ (l : List (Addr × List V)) (vs : List Value), (∀ p ∈ l, p ∈ ps) → (l.map fun p => V.ref p.1) = vs.map backV → (∀ u ∈ vs, ∃ a, u = Value.ref a) → vs.map pairOf = l := by
      intro l
      induction l with
      | nil =>
        intro vs _ e _
        cases vs with
        | nil => rfl
        | cons _ _ => cases e
      | cons p l ih =>
        intro vs hm e hr
        cases vs with
        | nil => cases e
        | cons v vs =>
          obtain ⟨b, rfl⟩ := hr v (List.mem_cons_self ..)
          rw [List.map_cons, List.map_cons] at e
          obtain ⟨ea, eb⟩ := List.cons.inj e
          have eb' : p.1 = b := V.ref.inj ea
          subst eb'
          rw [List.map_cons, ih vs (fun p hp => hm p (List.mem_cons_of_mem _ hp)) eb fun u hu => hr u (List.mem_cons_of_mem _ hu)]
          show ((p.1, rowOf ps (.ref p.1)) : Addr × List V) :: l = p :: l
          rw [row_of one (hm p (List.mem_cons_self ..))]
    exact e3 ps its (fun _ h => h) e1 e2
  have rows : ∀ v ∈ its, RowIs s.heap shape v (rowOf ps v) := fun v hv => by
    obtain ⟨b, rfl⟩ := e2 v hv
    have hm : pairOf (.ref b) ∈ ps := by
      rw [← eps]
      exact List.mem_map.mpr ⟨_, hv, rfl⟩
    obtain ⟨h1, h2, h3⟩ := hx _ hm
    obtain ⟨us, rw_, it, _⟩ := I.tuple h1
    exact ⟨b, us, rfl, it, rw_, h2, h3⟩
  refine SrtO.sorted_ord (swo_by ordR_swo (rowOf ps)) hl.isList (by rw [← rv.length]; exact hz) (fun h2 h₁ b eb kk => ?_) fun out h1 h2 => ?_
  · refine rows_sortable (s := { s with heap := h₁ }) (by omega) (fun v hm => (rows v hm).keeps fun b o _ e => (kk b o e).2) fun o e => ?_
    have z : some o = some (seqObj "list" its.toArray 0) := e.symm.trans eb
    cases z
    exact fun c => absurd (Value.type.inj c) (by decide)
  · have h3 : ∀ u ∈ out, ∃ a, u = Value.ref a := fun u hu => e2 u (h2.perm.mem_iff.mp hu)
    have pm : (out.map pairOf).Perm ps := by
      have z := h2.perm.map pairOf
      rw [eps] at z
      exact z
    have eo : out.map backV = (out.map pairOf).map fun q => V.ref q.1 := by
      rw [List.map_map]
      refine List.map_congr_left fun v hv => ?_
      obtain ⟨b, rfl⟩ := h3 v hv
      rfl
    obtain ⟨ep, he'⟩ := PyProof.Rows.sortedAll_at s.heap its out.toArray
    have hlen : (out.map backV).length ≤ sizeLine := by
      rw [List.length_map, h2.perm.length_eq, ← rv.length]
      exact hz
    have pw : (out.map pairOf).Pairwise fun x y => rowLt y.2 x.2 = false := by
      refine List.pairwise_map.mpr ?_
      refine (List.Pairwise.imp_of_mem ?_ h1)
      intro x y hx' hy' hlt
      obtain ⟨_, _, _, _, _, _, fx⟩ := rows x (h2.perm.mem_iff.mp hx')
      obtain ⟨_, _, _, _, _, _, fy⟩ := rows y (h2.perm.mem_iff.mp hy')
      show rowLt (rowOf ps y) (rowOf ps x) = false
      rw [rowLt_ord fy fx]
      exact hlt
    refine ⟨.ref (s.heap.objs.size + 1), upd H (s.heap.objs.size + 1) (.lst (out.map backV)), I.laid (t' := s.toks) (fun _ _ => PyProof.Rows.sortedAll_old) (Nat.le_succ _) ⟨hlen, out, ep, vals_back h3, he'⟩, rfl, ?_⟩
    rw [eo]
    exact q _ _ pm pw (I.hok.fresh (Nat.le_succ _))
end Hx
set_option maxRecDepth 100000
set_option maxHeartbeats 4000000
/-! A list comprehension of several clauses, clause by clause. -/
namespace Hx
open PySem PySem.Spec PyProof.Rows L2
/-- one turn of clause k: B stands behind its tests, ahead of the turn's end -/
def TurnIs (e : Expr) (k : Nat) (t i : Expr) (ifs : List Expr) (B : Value → Env → Sem PySem.Fin → Sem PySem.Fin) : Prop := ∀ it acc env, compTurn e k it acc env = (do
  standAt i.pos
  match ← pyNext it with
  | none => pure (.done .next)
  | some v => do
    letOwnedTupleGo t it v
    assign t env v
    let ok ← forIn ifs true fun c r => if r = true then do let ok ← isTrue c env (eval c env); pure (ForInStep.yield ok) else pure (ForInStep.yield r)
    if ok = true then B acc env (again (.compLoop e k it acc env)) else again (.compLoop e k it acc env))
/-- what the last clause does behind its tests -/
def bLast (elt : Expr) : Value → Env → Sem PySem.Fin → Sem PySem.Fin := fun acc env rest => do
  (do let _ ← call (.builtin "list.append") [acc, ← eval elt env])
  rest
/-- what a clause does that has another below it -/
def bMid (e : Expr) (k : Nat) (i : Expr) : Value → Env → Sem PySem.Fin → Sem PySem.Fin := fun acc env rest => do
  let x ← eval i env
  standAt i.pos
  let x ← foldedSetIterable i env x
  let _ ← runOwn (.compStart e (k + 1) (← holding [x] (pyIter x)) acc env) env
  rest
section
variable {elt t0 i0 t1 i1 t2 i2 : Expr} {f0 f1 f2 : List Expr} {scope : Scope} {pos : Pos}
theorem turn3_0 : TurnIs (.ListComp elt [⟨t0, i0, f0, 0⟩, ⟨t1, i1, f1, 0⟩, ⟨t2, i2, f2, 0⟩] scope pos) 0 t0 i0 f0 (bMid (.ListComp elt [⟨t0, i0, f0, 0⟩, ⟨t1, i1, f1, 0⟩, ⟨t2, i2, f2, 0⟩] scope pos) 0 i1) := fun _ _ _ => rfl
theorem turn3_1 : TurnIs (.ListComp elt [⟨t0, i0, f0, 0⟩, ⟨t1, i1, f1, 0⟩, ⟨t2, i2, f2, 0⟩] scope pos) 1 t1 i1 f1 (bMid (.ListComp elt [⟨t0, i0, f0, 0⟩, ⟨t1, i1, f1, 0⟩, ⟨t2, i2, f2, 0⟩] scope pos) 1 i2) := fun _ _ _ => rfl
theorem turn3_2 : TurnIs (.ListComp elt [⟨t0, i0, f0, 0⟩, ⟨t1, i1, f1, 0⟩, ⟨t2, i2, f2, 0⟩] scope pos) 2 t2 i2 f2 (bLast elt) := fun _ _ _ => rfl
end
/-- all that the slots outside vs knew is still known -/
def Knows (vs : List Nat) (σ σ' : L2.St) : Prop := σ'.length = σ.length ∧ ∀ (j : Nat) v, (wipe σ vs)[j]? = some (some v) → σ'[j]? = some (some v)
/-- what stands behind a clause's tests reaches N, from where the turn ends -/
def BodyOk (Y : Cx) (D : Addr) (B : Value → Env → Sem PySem.Fin → Sem PySem.Fin) (em : L2.St → Hp → (Hp → Prop) → Prop) (vs : List Nat) : Prop :=
  ∀ (pins : List (Addr × Obj)) (s : Shared) (σ : L2.St) (H : Hp) (N : Hp → Prop) (rest : Sem PySem.Fin) (Q : PySem.Fin → Shared → Prop) (E : Value → Shared → Prop), Inv Y pins σ H s → em σ H N →
    (∀ s' σ' H', Inv Y pins σ' H' s' → Knows vs σ σ' → N H' → wpAny (model Y.prog Y.w) Y.A rest Q E s') → wpAny (model Y.prog Y.w) Y.A (B (.ref D) Y.env rest) Q E s
def tEl (te : TE) (D : Addr) : L2.St → Hp → (Hp → Prop) → Prop := fun σ H N => te σ H fun y H7 => ∃ acc, H7 D = some (.lst acc) ∧ acc.length < sizeLine ∧ N (upd H7 D (.lst (acc ++ [y])))
/-- a clause's turns, by an invariant of the turn and a measure -/
def tTurns (g : TG) (tt : TT) (vs : List Nat) (em : L2.St → Hp → (Hp → Prop) → Prop) (σ : L2.St) (J : It) (H4 : Hp) (N : Hp → Prop) : Prop := ∃ W1 : Nat → Nat → Hp → Prop, (∃ m, W1 0 m H4) ∧ ∀ j k H, W1 j k H →
  (J.stop j H ∧ N H) ∨ (J.go j H ∧ ∃ N1 : Hp → Prop, (∀ H', N1 H' → ∃ k', k' < k ∧ W1 (j + 1) k' H') ∧ ∀ x H', J.yld j H x H' → g x (wipe σ vs) H' fun σ3 H5 => wipe σ3 vs = wipe σ vs ∧ tt σ3 H5 fun b H6 => if b = true then em σ3 H6 N1 else N1 H6)
def tIn (wi : TI) (g : TG) (tt : TT) (vs : List Nat) (em : L2.St → Hp → (Hp → Prop) → Prop) : L2.St → Hp → (Hp → Prop) → Prop := fun σ H N => wi σ H fun J H4 => tTurns g tt vs em σ J H4 N
theorem last_ok {Y : Cx} {D : Addr} {elt : Expr} {te : TE} {vs : List Nat} (he : PE Y elt te) (hx : Y.xe = fun _ _ => False) : BodyOk Y D (bLast elt) (tEl te D) vs := by
  intro pins s σ H N rest Q E I h k
  have r := he.run pins s σ H _ I h
  rw [hx] at r
  refine wpAny_bind (wpAny_bind (thnF r fun z s1 ⟨yv, H1, I1, r1, acc, hD, hz, nx⟩ => wpAny_bind (app_ok (X := Y) I1 hD hz r1 fun s2 I2 => ?_)))
  exact wpAny_pure (k s2 σ _ I2 ⟨rfl, fun j v e => (wipe_some e).1⟩ nx)
/-- a clause's loop -/
theorem clause_runs {Y : Cx} {e t i : Expr} {k : Nat} {ifs : List Expr} {B : Value → Env → Sem PySem.Fin → Sem PySem.Fin} {em : L2.St → Hp → (Hp → Prop) → Prop} {vs : List Nat} {pins : List (Addr × Obj)} {s : Shared} {σ : L2.St} {H : Hp} {D it : Addr} {J : It} {fp : List Addr}
    {tn : Nat → Heap → Prop} {R : PySem.Result → Shared → Prop} {N : Hp → Prop} {g : TG} {tt : TT} (heq : TurnIs e k t i ifs B) (hq : (PySem.Code.compLoop e k (.ref it) (.ref D) Y.env).quiet = true) (hfr : (PySem.Code.compLoop e k (.ref it) (.ref D) Y.env).isFrame = false)
    (hun : Y.A.under (PySem.Code.compLoop e k (.ref it) (.ref D) Y.env) = Y.A) (hc : Y.calm = true) (hx : Y.xe = fun _ _ => False) (pg : PG Y t g) (pt : PTs Y ifs tt) (bo : BodyOk Y D B em vs) (T : Turn Y.prog Y.w Y.K t J fp it tn) (I : Inv Y pins (wipe σ vs) H s) (st : tn 0 s.heap) (hn : ∀ b ∈ fp, H b = none)
    (stat : ∀ {s' : Shared} {σ' : L2.St} {H' : Hp}, Inv Y pins σ' H' s' → (∀ b ∈ fp, H' b = none) → ∀ b ∈ fp, FpOk Y pins H' b) (tr : tTurns g tt vs em σ J H N) (out : ∀ s' H', Inv Y pins (wipe σ vs) H' s' → N H' → R (.ok .next) s') :
    codeAny (model Y.prog Y.w) Y.A (.compLoop e k (.ref it) (.ref D) Y.env) R s := by
  obtain ⟨W, ⟨m0, w0⟩, turn⟩ := tr
  refine codeAny_loop hq (fun n s' => ∃ j H', Inv Y pins (wipe σ vs) H' s' ∧ tn j s'.heap ∧ (∀ b ∈ fp, H' b = none) ∧ W j n H') (fun n s1 hI => ?_) m0 ⟨0, H, I, st, hn, w0⟩
  obtain ⟨j, H1, I1, st1, n1, w1⟩ := hI
  rw [hun]
  show wpAny _ Y.A (if (PySem.Code.compLoop e k (.ref it) (.ref D) Y.env).isFrame = true then _ else _) _ _ s1
  rw [hfr, if_neg Bool.false_ne_true]
  refine wpAny_noted ?_
  rw [heq]
  refine wpAny_bind (wpAny_standAt (wpAny_bind ?_))
  rcases turn j n H1 w1 with ⟨stop, q⟩ | ⟨go, N1, hN1, step⟩
  · refine thnF (T.done Y rfl rfl rfl hc j pins s1 _ H1 (fun _ _ => False) I1 (stat I1 n1) st1 stop) fun r s2 ⟨hr, I2⟩ => ?_
    subst hr
    exact wpAny_pure (out s2 H1 I2 q)
  · refine thnF (T.item Y rfl rfl rfl hc j pins s1 _ H1 (fun _ _ => False) I1 (stat I1 n1) st1 go) fun r s2 ⟨u, hr, h2⟩ => ?_
    subst hr
    refine wpAny_bind (thnF h2 fun _ s3 ⟨x, H3, I3, r3, y3, st3, n3⟩ => ?_)
    have I3' := I3.pinned (stat I3 n3) (T.obj _ _ st3)
    have hp := pg.run _ s3 _ H3 x u _ I3' r3 (step x H3 y3)
    rw [hx] at hp
    refine wpAny_bind (thnF hp fun _ s4 ⟨σ4, H4, I4, hw, q4⟩ => ?_)
    have ht := pt.run _ s4 σ4 H4 _ I4 q4
    rw [hx] at ht
    refine wpAny_bind (thnF ht fun b s5 ⟨H5, I5, q5⟩ => ?_)
    have fin : ∀ {σ' : L2.St} {s' : Shared} {H' : Hp}, Inv Y (pins ++ pinsAt fp s3.heap) σ' H' s' → Knows vs σ4 σ' → N1 H' → ∃ m, m < n ∧ ∃ j H', Inv Y pins (wipe σ vs) H' s' ∧ tn j s'.heap ∧ (∀ b ∈ fp, H' b = none) ∧ W j m H' := fun {σ' s' H'} I' ⟨kl, kk⟩ nx => by
      obtain ⟨m', hm, w'⟩ := hN1 H' nx
      have still : ∀ b ∈ fp, ∀ o, s3.heap.get? b = some o → s'.heap.get? b = some o ∧ H' b = none := fun b hb o eo => by
        have z := I'.pin (b, o) (List.mem_append_right _ (List.mem_append_right _ (mem_pinsAt hb eo)))
        exact ⟨z.1, z.2.1⟩
      refine ⟨m', hm, j + 1, H', I'.unpinned.weak (by rw [← hw, wipe_length, kl]) (fun a v ev => kk a v (by rw [hw]; exact ev)), T.keep _ _ _ st3 fun b hb o eo => (still b hb o eo).1, fun b hb => ?_, w'⟩
      obtain ⟨o, eo, _⟩ := T.obj _ _ st3 b hb
      exact (still b hb o eo).2
    cases b with
    | false =>
      rw [if_neg Bool.false_ne_true] at q5 ⊢
      exact wpAny_pure ⟨rfl, fin I5 ⟨rfl, fun j v ev => (wipe_some ev).1⟩ q5⟩
    | true =>
      rw [if_pos rfl] at q5 ⊢
      exact bo _ s5 σ4 H5 N1 _ _ _ I5 q5 fun s' σ' H' I' kn nx => wpAny_pure ⟨rfl, fin I' kn nx⟩
theorem start_ok {e t i : Expr} {ifs : List Expr} {k : Nat} {A : Around} {prog : Program} {w : World} {R : PySem.Result → Shared → Prop} {s : Shared} {it acc : Value} {env : Env} (hcl : (clausesOf e)[k]? = some ⟨t, i, ifs, 0⟩) (hfr : (PySem.Code.compStart e k it acc env).isFrame = false)
    (hun : A.under (PySem.Code.compStart e k it acc env) = A) (hq : ∀ it', (PySem.Code.compLoop e k it' acc env).quiet = true) (h0 : codeAny (model prog w) A (.compLoop e k it acc env) R s)
    (h : wpAny (model prog w) A (pyIter it) (fun it' s' => codeAny (model prog w) A (.compLoop e k it' acc env) R s') (notedBy (model prog w) A env fun x s' => R (.error x) s') s) : codeAny (model prog w) A (.compStart e k it acc env) R s := by
  refine codeAny_of_tree ?_
  rw [hun]
  show wpAny _ A (if (PySem.Code.compStart e k it acc env).isFrame = true then _ else _) _ _ s
  rw [hfr, if_neg Bool.false_ne_true]
  refine wpAny_notedAt ?_
  unfold compStart
  rw [hcl]
  show wpAny _ A (ask >>= _) _ _ s
  refine wpAny_bind (wpAny_askSetting (wpAny_ite ?_))
  split
  · exact wpAny_pure ⟨hq _, h0⟩
  · refine wpAny_bind (wpAny_rule ?_)
    show wpAny _ A (standAt i.pos >>= _) _ _ s
    exact wpAny_bind (wpAny_standAt (wpAny_bind (thn h fun it' s' h' => wpAny_pure ⟨hq _, h'⟩)))
end Hx
set_option maxRecDepth 100000
set_option maxHeartbeats 4000000
namespace Hx
open PySem PySem.Spec PyProof.Rows L2
theorem mid_ok {Y : Cx} {e t1 i1 : Expr} {k : Nat} {ifs1 : List Expr} {B1 : Value → Env → Sem PySem.Fin → Sem PySem.Fin} {em1 : L2.St → Hp → (Hp → Prop) → Prop} {vs vs1 : List Nat} {D : Addr} {wi1 : TI} {g1 : TG} {tt1 : TT} (hc : Y.calm = true) (hx : Y.xe = fun _ _ => False)
    (hcl : (clausesOf e)[k + 1]? = some ⟨t1, i1, ifs1, 0⟩) (heq : TurnIs e (k + 1) t1 i1 ifs1 B1) (hs : ∀ env x, foldedSetIterable i1 env x = pure x) (hi : PI Y t1 i1 wi1) (pg : PG Y t1 g1) (pt : PTs Y ifs1 tt1) (bo : BodyOk Y D B1 em1 vs1) (hv : ∀ i ∈ vs1, i ∈ vs)
    (hq : ∀ it acc env, (PySem.Code.compLoop e (k + 1) it acc env).quiet = true) (hfr : ∀ it acc env, (PySem.Code.compLoop e (k + 1) it acc env).isFrame = false ∧ (PySem.Code.compStart e (k + 1) it acc env).isFrame = false)
    (hun : ∀ (A : Around) it acc env, A.under (PySem.Code.compLoop e (k + 1) it acc env) = A ∧ A.under (PySem.Code.compStart e (k + 1) it acc env) = A) : BodyOk Y D (bMid e k i1) (tIn wi1 g1 tt1 vs1 em1) vs := by
  intro pins s σ H N rest Q E I h kk
  have r := hi.run pins s σ H _ I h
  rw [hx] at r
  refine wpAny_bind (thnF r fun xv s1 hx1 => wpAny_bind (wpAny_standAt (wpAny_bind (wpAny_of_eq (hs _ xv) (wpAny_bind (wpAny_holding (thnF hx1 fun itv s2 h2 => ?_)))))))
  obtain ⟨it, fp, tn, J, H2, ei, I2, T, st, ff, tr⟩ := h2
  subst ei
  refine wpAny_bind (wpAny_runOwn ?_)
  rw [Around.mark_none]
  have I2' : Inv Y pins (wipe σ vs1) H2 s2 := I2.weak (wipe_length _ _) fun j v ev => (wipe_some ev).1
  have go := clause_runs (N := N) (R := fun r s' => match r with
    | .ok _ => wpAny (model Y.prog Y.w) Y.A rest Q E s'
    | .error x => cameBackBy (model Y.prog Y.w) Y.A Y.env E x s') heq (hq _ _ _) (hfr _ _ _).1 (hun _ _ _ _).1 hc hx pg pt bo T I2' st (fun b hb => (ff b hb).1)
    (fun {s' σ' H'} _ hn b hb => ⟨hn b hb, (ff b hb).2⟩) tr (fun s' H' I' n' => kk s' _ H' I' ⟨wipe_length _ _, fun j v ev => ?_⟩ n')
  · refine codeAny_mono (start_ok hcl (hfr _ _ _).2 (hun _ _ _ _).2 (fun it' => hq it' _ _) go (T.self Y.A 0 _ _ _ st go)) fun r s' hr => ?_
    cases r with
    | ok f => exact hr
    | error x => exact hr
  · obtain ⟨z1, z2⟩ := wipe_some ev
    rw [wipe_out fun z => z2 (hv j z)]
    exact z1
/-- a comprehension, whatever stands below its first clause -/
theorem lcN_core {X : Cx} {pins : List (Addr × Obj)} {s : Shared} {σ : L2.St} {H : Hp} {Q : VK} {elt tg iter : Expr} {ifs : List Expr} {gs : List Comprehension} {scope : Scope} {own : List (Str × Nat)} {pos pos' : Pos} {wi : TI} {g : TG} {tt : TT} {use : Option (Value → Sem Unit)} {Qf : Value → Shared → Prop}
    {B : Value → Env → Sem PySem.Fin → Sem PySem.Fin} {em : Addr → L2.St → Hp → (Hp → Prop) → Prop} (hc : X.calm = true) (hN : X.N.Nodup) (I : Inv X pins σ H s) (hi : PI X tg iter wi) (ok : BlkOk X.N X.env.scope scope own) (heq : TurnIs (.ListComp elt (⟨tg, iter, ifs, 0⟩ :: gs) scope pos) 0 tg iter ifs B)
    (hg : ∀ (s : Shared) (H : Hp) (C : Addr) (cl : List (Str × Addr)) (fp : List Addr), PG (X.blk s H scope (compEnvC scope cl C X.env) fp) tg g) (ht : ∀ (s : Shared) (H : Hp) (C : Addr) (cl : List (Str × Addr)) (fp : List Addr), PTs (X.blk s H scope (compEnvC scope cl C X.env) fp) ifs tt)
    (hb : ∀ (s : Shared) (H : Hp) (C : Addr) (cl : List (Str × Addr)) (fp : List Addr) (D : Addr), BodyOk (X.blk s H scope (compEnvC scope cl C X.env) fp) D B (em D) (own.map (·.2))) (hs : ∀ x, foldedSetIterable iter X.env x = pure x)
    (h : wi σ H fun J H1 => ∀ D, H1 D = none → tTurns g tt (own.map (·.2)) (em D) σ J (upd H1 D (.lst [])) (Q (.ref D)))
    (hRR : ∀ D C s' m H', Inv X pins σ H' s' → Q (.ref D) H' → s'.heap.Ns C m → FpOk X pins H' C → compPost (model X.prog X.w) X.A X.xe use Qf (.ref D) C (.ok .next) s') :
    wpAny (model X.prog X.w) X.A (comprehension (.ListComp elt (⟨tg, iter, ifs, 0⟩ :: gs) scope pos) scope X.env pos' (newList []) false (eval iter X.env) use) Qf X.xe s := by
  have free : ∀ y ∈ scope.names, y.2 = .free → ∃ c, X.env.cells.lookup y.1 = some c := by
    intro y hy ey
    cases ok.free y hy ey with
    | inl z => exact I.ok.has _ (.inl z)
    | inr z => exact I.ok.has _ (.inr z)
  refine wpAny_comprehension_free (use := use) rfl hs (closure_ok free) ok.kind (fun y hy ey => by rw [ok.uniq y hy, ey]) (thn (hi.run pins s σ H _ I h) fun _ s1 h1 => thn h1 fun _ s2 h2 => ?_)
  obtain ⟨it, fp, tn, J, H2, ei, I2, T, st2, ff, q⟩ := h2
  subst ei
  refine wpAny_newObj_type (newEnv_comp ?_) (Nat.zero_le _)
  generalize eD : s2.heap.objs.size = D
  have nD : H2 D = none := I2.hok.fresh (Nat.le_of_eq eD)
  have tr := q D nD
  have below : ∀ b ∈ fp, b < s2.heap.objs.size := by
    intro b hb
    obtain ⟨o, eo, _⟩ := T.obj _ _ st2 b hb
    exact Heap.lt_size eo
  generalize e3 : ({ s2 with heap := s2.heap.push { cls := .type "list", data := .seq ([] : List Value).toArray } } : Shared) = s3
  have hh : s3.heap = s2.heap.push { cls := .type "list", data := .seq ([] : List Value).toArray } := by rw [← e3]
  have I3 : Inv X pins σ (upd H2 D (.lst [])) s3 := by
    subst e3
    subst eD
    exact I2.laid (t' := s2.toks) (fun b o eo => Heap.get?_push_of_some _ eo) (Nat.le_refl _) ⟨Nat.zero_le _, [], 0, .nil, Heap.get?_push_size _ rfl⟩
  have f3 : ∀ b ∈ fp, FpOk X pins (upd H2 D (.lst [])) b ∧ b < s3.heap.objs.size := by
    intro b hb
    have lt := below b hb
    constructor
    · refine ⟨?_, (ff b hb).2⟩
      rw [upd_ne (eD ▸ Nat.ne_of_lt lt)]
      exact (ff b hb).1
    · rw [hh, Heap.size_push]
      exact Nat.lt_succ_of_lt lt
  have st3 : tn 0 s3.heap := T.keep _ _ _ st2 fun b _ o eo => by
    rw [hh]
    exact Heap.get?_push_of_some _ eo
  have I4 := block_start I3 ok hN f3
  have nfp : ∀ b ∈ fp, (upd H2 D (.lst [])) b = none := fun b hb => (f3 b hb).1.1
  generalize eH : upd H2 D (.lst []) = H3 at I3 I4 nfp f3 tr
  have pg := fun C cl => hg s3 H3 C cl fp
  have pt := fun C cl => ht s3 H3 C cl fp
  have pb := fun C cl => hb s3 H3 C cl fp D
  show codeAny _ _ (.compStart _ 0 (.ref it) (.ref D) (compEnvC scope (cellsFrom (s3.heap.objs.size + 1) scope.names (cloFrom X.env.cells scope.names [])) s3.heap.objs.size X.env)) (compPost (model X.prog X.w) X.A X.xe use Qf (.ref D) s3.heap.objs.size) { s3 with heap := pushCells (s3.heap.push { cls := .type "dict", data := .dict #[] }) scope.names }
  have pg := pg s3.heap.objs.size (cellsFrom (s3.heap.objs.size + 1) scope.names (cloFrom X.env.cells scope.names []))
  have pt := pt s3.heap.objs.size (cellsFrom (s3.heap.objs.size + 1) scope.names (cloFrom X.env.cells scope.names []))
  have pb := pb s3.heap.objs.size (cellsFrom (s3.heap.objs.size + 1) scope.names (cloFrom X.env.cells scope.names []))
  generalize ec : compEnvC scope (cellsFrom (s3.heap.objs.size + 1) scope.names (cloFrom X.env.cells scope.names [])) s3.heap.objs.size X.env = ce at I4 pg pt pb ⊢
  have cL : ce.locals = s3.heap.objs.size := by
    subst ec
    rfl
  generalize e4 : ({ s3 with heap := pushCells (s3.heap.push { cls := .type "dict", data := .dict #[] }) scope.names } : Shared) = s4 at I4 ⊢
  have st4 : tn 0 s4.heap := T.keep _ _ _ st3 fun b _ o eo => by
    subst e4
    exact pushCells_keeps _ _ _ _ (Heap.get?_push_of_some _ eo)
  have loop := clause_runs (Y := X.blk s3 H3 scope ce fp) (pins := []) (N := Q (.ref D)) (R := compPost (model X.prog X.w) X.A X.xe use Qf (.ref D) s3.heap.objs.size) heq (it := it) (σ := σ) (H := H3) (s := s4) rfl rfl rfl hc rfl pg pt pb T I4 st4 nfp
    (fun {s' σ' H'} I' hn b hb' => ⟨hn b hb', (I'.ok.exf b hb').1, I'.ok.exfs b hb', .inl hb', fun x c ex => (I'.ok.exf b hb').2 x c ex, fun p hp => nomatch (show p ∈ ([] : List (Addr × Obj)) from hp)⟩) tr (fun s6 H5 I6 qq => ?_)
  · exact codeAny_compStart_list loop (T.self X.A 0 _ _ _ st4 loop)
  · -- back outside
    have I7 : Inv X pins σ H5 s6 := I3.call' (ch := fp) I6.os I6.base I6.hok I6.bare fun b hb => by
      have z := (f3 b hb).1
      exact ⟨z.2.2.2.1, z.2.1, z.2.2.2.2.1, z.2.2.2.2.2⟩
    have nC : H5 s3.heap.objs.size = none := cL ▸ (show H5 ce.locals = none from I6.free)
    obtain ⟨m, hn, _⟩ := I6.loc
    have hn : s6.heap.Ns s3.heap.objs.size m := cL ▸ (show s6.heap.Ns ce.locals m from hn)
    exact hRR D s3.heap.objs.size s6 m H5 I7 qq hn (I3.fpOk (Nat.le_refl _) nC)
/-! ### three clauses -/
def tLc3 (wi : TI) (g : TG) (tt : TT) (wi1 : TI) (g1 : TG) (tt1 : TT) (wi2 : TI) (g2 : TG) (tt2 : TT) (te : TE) (vs vs1 vs2 : List Nat) : TE := fun σ H Q => wi σ H fun J H1 => ∀ D, H1 D = none → ∃ W : Nat → Nat → Hp → Prop, (∃ m, W 0 m (upd H1 D (.lst []))) ∧ ∀ i m H, W i m H →
  (J.stop i H ∧ Q (.ref D) H) ∨ (J.go i H ∧ ∃ Nx : Hp → Prop, (∀ H', Nx H' → ∃ m', m' < m ∧ W (i + 1) m' H') ∧ ∀ x H', J.yld i H x H' → g x (wipe σ vs) H' fun σ2 H2 => wipe σ2 vs = wipe σ vs ∧ tt σ2 H2 fun b H3 =>
    if b = true then tIn wi1 g1 tt1 vs1 (tIn wi2 g2 tt2 vs2 (tEl te D)) σ2 H3 Nx else Nx H3)
theorem ps_setLc3 {X : Cx} {i : Nat} {y : Str} {py : Pos} {elt tg iter tg1 iter1 tg2 iter2 : Expr} {ifs ifs1 ifs2 : List Expr} {scope : Scope} {own : List (Str × Nat)} {vs1 vs2 : List Nat} {pos spos : Pos} {wi wi1 wi2 : TI} {g g1 g2 : TG} {tt tt1 tt2 : TT} {te : TE}
    (hc : X.calm = true) (hN : X.N.Nodup) (hy : X.N[i]? = some y) (hyl : X.env.scope.names.lookup y = some .local)
    (hsw : swapsWith (.ListComp elt [⟨tg, iter, ifs, 0⟩, ⟨tg1, iter1, ifs1, 0⟩, ⟨tg2, iter2, ifs2, 0⟩] scope pos) (some (.Name y py)) spos.line X.env = pure true) (hi : PI X tg iter wi) (ok : BlkOk X.N X.env.scope scope own) (hv1 : ∀ i ∈ vs1, i ∈ own.map (·.2)) (hv2 : ∀ i ∈ vs2, i ∈ vs1)
    (hg : ∀ (s : Shared) (H : Hp) (C : Addr) (cl : List (Str × Addr)) (fp : List Addr), PG (X.blk s H scope (compEnvC scope cl C X.env) fp) tg g) (ht : ∀ (s : Shared) (H : Hp) (C : Addr) (cl : List (Str × Addr)) (fp : List Addr), PTs (X.blk s H scope (compEnvC scope cl C X.env) fp) ifs tt)
    (hi1 : ∀ (s : Shared) (H : Hp) (C : Addr) (cl : List (Str × Addr)) (fp : List Addr), PI (X.blk s H scope (compEnvC scope cl C X.env) fp) tg1 iter1 wi1)
    (hg1 : ∀ (s : Shared) (H : Hp) (C : Addr) (cl : List (Str × Addr)) (fp : List Addr), PG (X.blk s H scope (compEnvC scope cl C X.env) fp) tg1 g1) (ht1 : ∀ (s : Shared) (H : Hp) (C : Addr) (cl : List (Str × Addr)) (fp : List Addr), PTs (X.blk s H scope (compEnvC scope cl C X.env) fp) ifs1 tt1)
    (hi2 : ∀ (s : Shared) (H : Hp) (C : Addr) (cl : List (Str × Addr)) (fp : List Addr), PI (X.blk s H scope (compEnvC scope cl C X.env) fp) tg2 iter2 wi2)
    (hg2 : ∀ (s : Shared) (H : Hp) (C : Addr) (cl : List (Str × Addr)) (fp : List Addr), PG (X.blk s H scope (compEnvC scope cl C X.env) fp) tg2 g2) (ht2 : ∀ (s : Shared) (H : Hp) (C : Addr) (cl : List (Str × Addr)) (fp : List Addr), PTs (X.blk s H scope (compEnvC scope cl C X.env) fp) ifs2 tt2)
    (he : ∀ (s : Shared) (H : Hp) (C : Addr) (cl : List (Str × Addr)) (fp : List Addr), PE (X.blk s H scope (compEnvC scope cl C X.env) fp) elt te)
    (hs : ∀ x, foldedSetIterable iter X.env x = pure x := by intro _; rfl) (hs1 : ∀ env x, foldedSetIterable iter1 env x = pure x := by intro _ _; rfl) (hs2 : ∀ env x, foldedSetIterable iter2 env x = pure x := by intro _ _; rfl) :
    PS X (.Assign [.Name y py] (.ListComp elt [⟨tg, iter, ifs, 0⟩, ⟨tg1, iter1, ifs1, 0⟩, ⟨tg2, iter2, ifs2, 0⟩] scope pos) spos) (tAsg (tLc3 wi g tt wi1 g1 tt1 wi2 g2 tt2 te (own.map (·.2)) vs1 vs2) (gName i)) := by
  constructor
  intro pins s σ H D I h
  rw [exec_Assign_Name_used _ _ _ _ hsw]
  refine wpAny_bind (wpAny_standAt (wpAny_bind ?_))
  show wpAny _ X.A (do let _ ← comprehension (.ListComp elt [⟨tg, iter, ifs, 0⟩, ⟨tg1, iter1, ifs1, 0⟩, ⟨tg2, iter2, ifs2, 0⟩] scope pos) scope X.env (firstIterPos [⟨tg, iter, ifs, 0⟩, ⟨tg1, iter1, ifs1, 0⟩, ⟨tg2, iter2, ifs2, 0⟩] pos) (newList []) false (eval iter X.env) (some (assign (.Name y py) X.env))) _ _ s
  refine wpAny_bind (thn (lcN_core (Q := fun x H1 => gName i x σ H1 D.nx) (Qf := fun _ s' => SP X pins D .next s') (em := fun D => tIn wi1 g1 tt1 vs1 (tIn wi2 g2 tt2 vs2 (tEl te D))) hc hN I hi ok turn3_0 hg ht (fun s3 H3 C cl fp D => ?_) hs h fun L C s' m H' I' q hn ff => ?_) fun _ s' hq => wpAny_pure (wpAny_pure hq))
  · exact mid_ok hc rfl rfl turn3_1 hs1 (hi1 s3 H3 C cl fp) (hg1 s3 H3 C cl fp) (ht1 s3 H3 C cl fp)
      (mid_ok hc rfl rfl turn3_2 hs2 (hi2 s3 H3 C cl fp) (hg2 s3 H3 C cl fp) (ht2 s3 H3 C cl fp) (last_ok (he s3 H3 C cl fp) rfl) hv2 (fun _ _ _ => rfl) (fun _ _ _ => ⟨rfl, rfl⟩) (fun _ _ _ _ => ⟨rfl, rfl⟩)) hv1 (fun _ _ _ => rfl) (fun _ _ _ => ⟨rfl, rfl⟩) (fun _ _ _ _ => ⟨rfl, rfl⟩)
  · show wpAny _ _ (assign (.Name y py) X.env (.ref L)) _ _ _
    refine wpAny_assign_Name (store_ok2 (v := V.ref L) I' hN hy (.inl hyl) rfl (fun s2 I2 ⟨a, sb, ha⟩ => ?_) (.inr hyl))
    obtain ⟨k0, k1, k2, k3, k4, k5⟩ := ff
    have other : C ≠ a := by
      cases ha with
      | inl z => exact z ▸ k1
      | inr z => exact fun e => k4 y a z e.symm
    exact ⟨m, hn.sameBut sb other, fun h3 sb3 => ⟨_, H', I2.turned (t' := s2.toks) (fun b o hb e => (sb3.2 b hb).trans e) k0 k1 k3 k4 k5, q⟩⟩
end Hx
set_option maxRecDepth 100000
set_option maxHeartbeats 4000000
namespace Hx
open PySem PySem.Spec PyProof.Rows L2
/-- an inner clause over a walk: Pv by the turn and the heap -/
theorem in_it {J : It} {n : Nat} {G : Hp → Prop} {Y : Nat → Hp → V → Hp → Prop} (w : Walk J n G Y) {body : V → Hp → (Hp → Prop) → Prop} {H : Hp} {N : Hp → Prop} (Pv : Nat → Hp → Prop) (h0 : Pv 0 H) (hG : ∀ i H, i ≤ n → Pv i H → G H)
    (hs : ∀ i x H H', i < n → Pv i H → Y i H x H' → body x H' (Pv (i + 1))) (hd : ∀ H, Pv n H → N H) :
    ∃ W1 : Nat → Nat → Hp → Prop, (∃ m, W1 0 m H) ∧ ∀ j k H, W1 j k H → (J.stop j H ∧ N H) ∨ (J.go j H ∧ ∃ N1 : Hp → Prop, (∀ H', N1 H' → ∃ k', k' < k ∧ W1 (j + 1) k' H') ∧ ∀ x H', J.yld j H x H' → body x H' N1) := by
  refine ⟨fun i m H => m = n - i ∧ i ≤ n ∧ Pv i H, ⟨n, by simp, Nat.zero_le _, h0⟩, ?_⟩
  rintro i m H ⟨rfl, hi, p⟩
  have q := hG i H hi p
  by_cases hlt : i < n
  · exact .inr ⟨w.goes i H hlt q, Pv (i + 1), fun H' p' => ⟨n - (i + 1), by omega, rfl, hlt, p'⟩, fun x H' y => hs i x H H' hlt p (w.yields i H x H' hlt q y)⟩
  · have e : i = n := by omega
    subst e
    exact .inl ⟨w.stops H q, hd H p⟩
end Hx
set_option maxRecDepth 100000
set_option maxHeartbeats 8000000
namespace Hx
open PySem PySem.Spec PyProof.Rows L2
abbrev sHouse : Stmt := inClass (top 46) 0
theorem pg_tupK {X : Cx} (K : PySem.W.Frag) {es : List Expr} {k : Nat} {pos : Pos} {t : TGs} {n : Nat} (h : PGs X es t) (hK : X.K = K := by rfl) (hc : X.calm = true := by rfl)
    (hn : (assignEach es X.env).length = n := by rfl) (hst : (assignEach es X.env).findIdx? (·.1) = none := by rfl) : PG X (.Tuple es k pos) (gTup K n t) := by
  subst hK
  exact pg_tup hc h hn hst
structure HTxt (K : PySem.W.Frag) (mg : Str → Option Value) (E fI : Addr) : Prop where
  cl : L2.Cls K E
  n1 : NoAttr K E "text"
  n2 : NoAttr K E "people"
  n3 : NoAttr K E "cells"
  n4 : NoAttr K E "kinds"
  n5 : NoAttr K E "deeds"
  n6 : NoAttr K E "scripts"
  n7 : NoAttr K E "doings"
  n8 : NoAttr K E "day"
  mgH : mg "House" = some (.ref E)
  maker : Mk K E fI
def deedT (people : List Str) (d : DeedD) : PyData := .tuple [.str d.x, .tuple ((byOf people d.by_).map PyData.str), .int d.pick]
/-- all deeds as moves, as they are made -/
def doOf (people : List Str) (d : DeedD) : List (List V) := (byOf people d.by_).flatMap fun who => (List.range d.pick.toNat).map fun (i : Nat) => [V.str "do", .str d.x, .str who, .int i]
def doL (people : List Str) (ds : List DeedD) : List (List V) := ds.flatMap (doOf people)
def nHouse : List Str := ["self", "text", "lines", "deeds", "doings", "deed", "name", "by", "pick", "who", "it"]
theorem scHouse : FnScope nHouse ["self", "text"] (defScope sHouse) := ⟨rfl, rfl, rfl, by decide +kernel, rfl, by decide +kernel, by decide +kernel⟩
def houseF (t : Str) (ap ac ak ad as_ ao : Addr) (day : Int) : List (Str × V) := [("text", .str t), ("people", .ref ap), ("cells", .ref ac), ("kinds", .ref ak), ("deeds", .ref ad), ("scripts", .ref as_), ("doings", .ref ao), ("day", .int day)]
structure HouseD where
  people : List Str
  cs : List CellD
  ks : List KindD
  ds : List DeedD
  day : Int
def HouseD.page (h : HouseD) : List Rw := ⟨false, "people" :: h.people⟩ :: (h.cs.map CellD.row ++ (kRows h.ks ++ (dRows h.cs h.ks h.ds ++ [⟨false, ["day", numS h.day]⟩])))
structure HouseD.Ok (h : HouseD) : Prop where
  p1 : 1 ≤ h.people.length
  p3 : h.people.length ≤ 3
  pn : h.people.Nodup
  pok : ∀ x ∈ h.people, nameB x = true ∧ x ≠ "who"
  c1 : 1 ≤ h.cs.length
  cok : CellsOk h.cs
  k3 : h.ks.length ≤ 3
  kok : ∀ k ∈ h.ks, k.ok
  kn : (h.ks.map (·.x)).Nodup
  d1 : 1 ≤ h.ds.length
  d4 : h.ds.length ≤ 4
  dok : ∀ d ∈ h.ds, d.ok h.people h.cs h.ks
  dn : (h.ds.map (·.x)).Nodup
  y1 : 1 ≤ h.day
  y4 : h.day < 4
/-- a house stands at h -/
structure HouseAt (K : PySem.W.Frag) (D E : Addr) (H : Hp) (p : Addr) (t : Str) (h : HouseD) : Prop where
  ex : ∃ (dx ap ac ak ad as_ ao : Addr) (ps : List Addr) (qs : List (Addr × List V)), H p = some (.ins E dx (houseF t ap ac ak ad as_ ao h.day)) ∧ SqT K H ap (h.people.map V.str) ∧ Tp K H (.ref ac) (.tuple (h.cs.map CellD.d)) ∧ Tp K H (.ref ak) (.tuple (h.ks.map KindD.d)) ∧
    Tp K H (.ref ad) (.tuple (h.ds.map (deedT h.people))) ∧ H as_ = some (.dK ((h.ds.map fun d => (Sum.inr d.x : Key)).zip (ps.map V.ref))) ∧ Deeds K D H p h.people h.ks (fun _ => True) ps h.ds ∧
    SqT K H ao (qs.map fun q => V.ref q.1) ∧ (∀ q ∈ qs, SqT K H q.1 q.2) ∧ (qs.map (·.2)).Perm (doL h.people h.ds) ∧ qs.Pairwise (fun x y => rowLt y.2 x.2 = false)
theorem dc_it {J : It} {n : Nat} {G : Hp → Prop} {Y : Nat → Hp → V → Hp → Prop} (w : Walk J n G Y) {g : TG} {tt : TT} {tk tv : TE} {vs : List Nat} {σ : L2.St} {H1 : Hp} {D : Addr} {Qd : Hp → Prop} (Pv : Nat → Hp → Prop) (h0 : Pv 0 (upd H1 D (.dK []))) (hG : ∀ i H, i ≤ n → Pv i H → G H)
    (hs : ∀ i x H H', i < n → Pv i H → Y i H x H' → g x (wipe σ vs) H' fun σ2 H2 => wipe σ2 vs = wipe σ vs ∧ tt σ2 H2 fun b H3 =>
      if b = true then tk σ2 H3 fun y H4 => tv σ2 H4 fun z H5 => ∃ kvs k, y = kV k ∧ H5 D = some (.dK kvs) ∧ kvs.length < sizeLine ∧ Pv (i + 1) (upd H5 D (.dK (putK kvs k z))) else Pv (i + 1) H3) (hd : ∀ H, Pv n H → Qd H) :
    ∃ W : Nat → Nat → Hp → Prop, (∃ m, W 0 m (upd H1 D (.dK []))) ∧ ∀ i m H, W i m H →
      (J.stop i H ∧ Qd H) ∨ (J.go i H ∧ ∃ Nx : Hp → Prop, (∀ H', Nx H' → ∃ m', m' < m ∧ W (i + 1) m' H') ∧ ∀ x H', J.yld i H x H' → g x (wipe σ vs) H' fun σ2 H2 => wipe σ2 vs = wipe σ vs ∧ tt σ2 H2 fun b H3 =>
        if b = true then tk σ2 H3 fun y H4 => tv σ2 H4 fun z H5 => ∃ kvs k, y = kV k ∧ H5 D = some (.dK kvs) ∧ kvs.length < sizeLine ∧ Nx (upd H5 D (.dK (putK kvs k z))) else Nx H3) := in_it w Pv h0 hG hs hd
/-- a house while it is made -/
structure HS (C E : Addr) (H H' : Hp) (p L dx : Addr) (page : List Rw) (n : Nat) (fs : List (Str × V)) : Prop where
  bar : Bar p H H'
  pg : PageAt C H' L page n
  ob : H' p = some (.ins E dx fs)
  n0 : H L = none
  pl : p ≠ L
theorem HS.step {C E : Addr} {H H' H'' : Hp} {p L dx : Addr} {page : List Rw} {n m : Nat} {fs : List (Str × V)} (S : HS C E H H' p L dx page n fs) (b : Bar L H' H'') (pg : PageAt C H'' L page m) : HS C E H H'' p L dx page m fs :=
  ⟨fun c o nc e => b c o (fun z => by rw [z, S.n0] at e; cases e) (S.bar c o nc e), pg, b p _ S.pl S.ob, S.n0, S.pl⟩
theorem HS.put {C E : Addr} {H H' : Hp} {p L dx : Addr} {page : List Rw} {n : Nat} {fs gs : List (Str × V)} (S : HS C E H H' p L dx page n fs) : HS C E H (upd H' p (.ins E dx gs)) p L dx page n gs :=
  ⟨S.bar.trans (Bar.upd p H' _), page_ins S.ob S.pl S.pg, upd_same, S.n0, S.pl⟩
theorem row_feed {r : Rw} (h : rwB r = true) : (10 : Nat) ∉ TL.tl r.text := by
  obtain ⟨ne, hw, _⟩ := rw_is h
  intro z
  have key : ∀ ws : List Str, (∀ x ∈ ws, wordB x = true) → (10 : Nat) ∉ TL.tl (Str.join " " ws) := by
    intro ws
    induction ws with
    | nil =>
      intro _ z
      cases z
    | cons x r ih =>
      intro hw z
      have hx : (10 : Nat) ∉ TL.tl x := fun z => by
        have := (word_is (hw x (List.mem_cons_self ..))).2 10 z
        omega
      cases r with
      | nil => exact hx z
      | cons y r =>
        rw [join_cons, TL.tl_append, TL.tl_append, tl_ofS] at z
        rcases List.mem_append.mp z with z | z
        · rcases List.mem_append.mp z with z | z
          · exact hx z
          · have := List.mem_singleton.mp z
            cases this
        · exact ih (fun w hw' => hw w (List.mem_cons_of_mem _ hw')) z
  unfold Rw.text at z
  rw [TL.tl_append] at z
  rcases List.mem_append.mp z with z | z
  · have zero : ∀ d : Bool, (10 : Nat) ∉ TL.tl (pad d) := by decide +kernel
    exact zero _ z
  · exact key _ hw z
theorem tl_feed : TL.tl ("\n" : Str) = [10] := by decide +kernel
theorem split_page {page : List Rw} (ok : PageOk page) (ne : page ≠ []) : Txt.split (Str.join "\n" (page.map Rw.text)) "\n" = page.map Rw.text := by
  have h := TL.split_join (y := "\n") (s := 10) (S := []) tl_feed (by decide +kernel) (parts := page.map Rw.text) (by simpa using ne) (fun p hp => by
    obtain ⟨r, hr, rfl⟩ := List.mem_map.mp hp
    exact row_feed (ok.2 r hr))
  rw [TL.join_eq] at h
  exact h
/-- rows at addresses -/
def RowsAt (K : PySem.W.Frag) (H : Hp) (ps : List (Addr × List V)) : Prop := ∀ p ∈ ps, SqT K H p.1 p.2
theorem RowsAt.map {K : PySem.W.Frag} {H H' : Hp} {ps : List (Addr × List V)} (t : ∀ {a xs}, SqT K H a xs → SqT K H' a xs) (h : RowsAt K H ps) : RowsAt K H' ps := fun p hp => t (h p hp)
theorem byOf_len (people : List Str) (by_ : Option (List Str)) : (byOf people by_).length ≤ people.length := by
  cases by_ with
  | none => exact Nat.le_refl _
  | some ns => exact List.length_filter_le _ _
theorem flat_len {α β : Type} (f : α → List β) (xs : List α) (m : Nat) (h : ∀ x ∈ xs, (f x).length ≤ m) : (xs.flatMap f).length ≤ xs.length * m := by
  induction xs with
  | nil => simp
  | cons x r ih =>
    rw [List.flatMap_cons, List.length_append, List.length_cons, Nat.succ_mul]
    have a := h x (List.mem_cons_self ..)
    have b := ih fun y hy => h y (List.mem_cons_of_mem _ hy)
    omega
theorem doL_len {people : List Str} {ds : List DeedD} (h : ∀ d ∈ ds, (byOf people d.by_).length ≤ 3 ∧ d.pick.toNat ≤ 4) : (doL people ds).length ≤ 12 * ds.length := by
  unfold doL
  have := flat_len (doOf people) ds 12 (fun d hd => by
    obtain ⟨h1, h2⟩ := h d hd
    have z := flat_len (fun who => (List.range d.pick.toNat).map fun (i : Nat) => [V.str "do", .str d.x, .str who, .int i]) (byOf people d.by_) 4 (fun _ _ => by rw [List.length_map, List.length_range]; exact h2)
    unfold doOf
    omega)
  omega
theorem wipe_get {σ : L2.St} {vs : List Nat} {j : Nat} : (wipe σ vs)[j]? = if j ∈ vs then (σ[j]?).map (fun _ => none) else σ[j]? := by
  induction vs with
  | nil => simp [wipe]
  | cons v r ih =>
    show ((wipe σ r).set v none)[j]? = _
    by_cases h : v = j
    · subst h
      rw [if_pos (List.mem_cons_self ..)]
      by_cases hl : v < σ.length
      · rw [List.getElem?_set_self (by rw [wipe_length]; exact hl), List.getElem?_eq_getElem hl]
        rfl
      · rw [List.getElem?_eq_none (by rw [List.length_set, wipe_length]; omega), List.getElem?_eq_none (by omega)]
        rfl
    · rw [List.getElem?_set_ne h, ih]
      by_cases m : j ∈ r
      · rw [if_pos m, if_pos (List.mem_cons_of_mem _ m)]
      · rw [if_neg m, if_neg (fun z => by
          rcases List.mem_cons.mp z with z | z
          · exact h z.symm
          · exact m z)]
theorem wipe_of {σ σ' : L2.St} {vs : List Nat} (h : ∀ j, j ∉ vs → σ'[j]? = σ[j]?) (l : σ'.length = σ.length) : wipe σ' vs = wipe σ vs := by
  refine List.ext_getElem? fun j => ?_
  rw [wipe_get, wipe_get]
  by_cases m : j ∈ vs
  · rw [if_pos m, if_pos m]
    by_cases hl : j < σ.length
    · rw [List.getElem?_eq_getElem hl, List.getElem?_eq_getElem (by omega)]
      rfl
    · rw [List.getElem?_eq_none (by omega), List.getElem?_eq_none (by omega)]
  · rw [if_neg m, if_neg m, h j m]
/-- all deeds as moves: the list of them -/
theorem lc_doings {K : PySem.W.Frag} {E p dx ad : Addr} {σ : L2.St} {H : Hp} {fs : List (Str × V)} {txs : List V} {people : List Str} {ds : List DeedD} {Q : VK} (e0 : σ[0]? = some (some (.ref p))) (h10 : 10 < σ.length) (ob : H p = some (.ins E dx fs)) (cl : L2.Cls K E) (n5 : NoAttr K E "deeds") (fd : fs.lookup ("deeds" : Str) = some (.ref ad))
    (hsd : SqT K H ad txs) (hds : TpAll K H txs (ds.map (deedT people))) (dbound : ∀ d ∈ ds, (byOf people d.by_).length ≤ 3 ∧ d.pick.toNat ≤ 4) (q1 : ∀ d ∈ ds, 1 ≤ d.pick ∧ d.pick < 5) (d4 : ds.length ≤ 4)
    (k : ∀ G H', Same H H' → ∀ qs : List (Addr × List V), H' G = some (.lst (qs.map fun q => V.ref q.1)) → RowsAt K H' qs → qs.map (·.2) = doL people ds → Q (.ref G) H') :
    tLc3 (iTup K (tFld K (tVar 0) "deeds")) (gTup K 3 (gCons (gName 6) (gCons (gName 7) (gCons (gName 8) gNil)))) tYes (iTup K (tVar 7)) (gName 9) tYes (iRng1 (tCons (tVar 8) tNil)) (gName 10) tYes (tTup (tCons (tC (.str "do")) (tCons (tVar 6) (tCons (tVar 9) (tCons (tVar 10) tNil))))) [6, 7, 8, 9, 10] [9, 10] [10] σ H Q := by
  have tlen : txs.length = ds.length := by rw [hds.length, List.length_map]
  have small : ∀ i, (doL people (ds.take i)).length ≤ 48 := fun i => by
    have := doL_len (people := people) (ds := ds.take i) (fun d hd => dbound d (List.mem_of_mem_take hd))
    have l1 : (ds.take i).length ≤ ds.length := by rw [List.length_take]; omega
    omega
  refine ⟨_, e0, p, E, dx, _, _, rfl, ob, cl, n5, fd, ad, rfl, ⟨_, hsd⟩, fun G hG => in_it (walk_tup (xs := txs)) (fun i H' => Same H H' ∧ ∃ qs : List (Addr × List V), H' G = some (.lst (qs.map fun q => V.ref q.1)) ∧ RowsAt K H' qs ∧ qs.map (·.2) = doL people (ds.take i)) ⟨same_new hG _, [], upd_same, (fun _ z => nomatch z), rfl⟩ (fun i H' _ z => same_sqt z.1 hsd) ?_ ?_⟩
  · rintro i x H' H'' hi ⟨sm, qs, eG, ra, eq_⟩ ⟨rfl, hx⟩
    obtain ⟨dd_, ed_, td_⟩ := hds.get hx
    rw [List.getElem?_map] at ed_
    obtain ⟨d, ed, rfl⟩ : ∃ d, ds[i]? = some d ∧ dd_ = deedT people d := by
      cases e : ds[i]? with
      | none =>
        rw [e] at ed_
        cases ed_
      | some d =>
        rw [e] at ed_
        exact ⟨d, rfl, (Option.some.inj ed_).symm⟩
    have din := List.mem_of_getElem? ed
    obtain ⟨bl3, pk4⟩ := dbound d din
    obtain ⟨pk1, pk5⟩ := q1 d din
    obtain ⟨da, dys, rfl, hda, hdy⟩ := tp_tup td_
    cases hdy with
    | cons g0 g1 =>
    cases g1 with
    | cons g1 g2 =>
    cases g2 with
    | cons g2 g3 =>
    cases g3
    have e0' := tp_str g0
    subst e0'
    have e2 := tp_int g2
    subst e2
    obtain ⟨db, dbs, rfl, hdb, hbs⟩ := tp_tup g1
    have eb := tpa_strs hbs
    subst eb
    refine ⟨da, _, rfl, same_sqt sm hda, rfl, _, _, rfl, _, _, rfl, _, _, rfl, rfl, ?_⟩
    have len1 : ((((wipe σ [6, 7, 8, 9, 10]).set 6 (some (.str d.x))).set 7 (some (.ref db))).set 8 (some (.int d.pick))).length = σ.length := by simp [wipe_length]
    have w1 : wipe ((((wipe σ [6, 7, 8, 9, 10]).set 6 (some (.str d.x))).set 7 (some (.ref db))).set 8 (some (.int d.pick))) [6, 7, 8, 9, 10] = wipe σ [6, 7, 8, 9, 10] := by
      refine wipe_of (fun j hj => ?_) len1
      have h6 : 6 ≠ j := fun z => hj (by rw [← z]; decide)
      have h7 : 7 ≠ j := fun z => hj (by rw [← z]; decide)
      have h8 : 8 ≠ j := fun z => hj (by rw [← z]; decide)
      rw [List.getElem?_set_ne h8, List.getElem?_set_ne h7, List.getElem?_set_ne h6, wipe_get, if_neg hj]
    have f6 : ((((wipe σ [6, 7, 8, 9, 10]).set 6 (some (.str d.x))).set 7 (some (.ref db))).set 8 (some (.int d.pick)))[6]? = some (some (.str d.x)) := by
      rw [List.getElem?_set_ne (by decide), List.getElem?_set_ne (by decide), List.getElem?_set_self (by rw [wipe_length]; omega)]
    have f7 : ((((wipe σ [6, 7, 8, 9, 10]).set 6 (some (.str d.x))).set 7 (some (.ref db))).set 8 (some (.int d.pick)))[7]? = some (some (.ref db)) := by
      rw [List.getElem?_set_ne (by decide), List.getElem?_set_self (by rw [List.length_set, wipe_length]; omega)]
    have f8 : ((((wipe σ [6, 7, 8, 9, 10]).set 6 (some (.str d.x))).set 7 (some (.ref db))).set 8 (some (.int d.pick)))[8]? = some (some (.int d.pick)) := by
      rw [List.getElem?_set_self (by rw [List.length_set, List.length_set, wipe_length]; omega)]
    refine ⟨w1, yes ?_⟩
    generalize (((wipe σ [6, 7, 8, 9, 10]).set 6 (some (.str d.x))).set 7 (some (.ref db))).set 8 (some (.int d.pick)) = σ1 at *
    refine ⟨_, f7, db, rfl, ⟨_, same_sqt sm hdb⟩, in_it (walk_tup (xs := (byOf people d.by_).map V.str)) (fun j H' => Same H H' ∧ ∃ qs : List (Addr × List V), H' G = some (.lst (qs.map fun q => V.ref q.1)) ∧ RowsAt K H' qs ∧ qs.map (·.2) = doL people (ds.take i) ++ ((byOf people d.by_).take j).flatMap fun who => (List.range d.pick.toNat).map fun (i : Nat) => [V.str "do", .str d.x, .str who, .int i]) ⟨sm, qs, eG, ra, by rw [eq_]; simp⟩ (fun i H' _ z => same_sqt z.1 hdb) ?_ ?_⟩
    · rintro j y H2 H3 hj ⟨sm2, qs2, eG2, ra2, eq2⟩ ⟨rfl, hy⟩
      obtain ⟨who, ew, rfl⟩ := str_at hy
      have hjl : j < (byOf people d.by_).length := (List.getElem?_eq_some_iff.mp ew).1
      have len2 : ((wipe σ1 [9, 10]).set 9 (some (.str who))).length = σ1.length := by simp [wipe_length]
      have w2 : wipe ((wipe σ1 [9, 10]).set 9 (some (.str who))) [9, 10] = wipe σ1 [9, 10] := by
        refine wipe_of (fun j hj => ?_) len2
        have h9 : 9 ≠ j := fun z => hj (by rw [← z]; decide)
        rw [List.getElem?_set_ne h9, wipe_get, if_neg hj]
      have g6 : ((wipe σ1 [9, 10]).set 9 (some (.str who)))[6]? = some (some (.str d.x)) := by
        rw [List.getElem?_set_ne (by decide), wipe_get, if_neg (by decide), f6]
      have g8 : ((wipe σ1 [9, 10]).set 9 (some (.str who)))[8]? = some (some (.int d.pick)) := by
        rw [List.getElem?_set_ne (by decide), wipe_get, if_neg (by decide), f8]
      have g9 : ((wipe σ1 [9, 10]).set 9 (some (.str who)))[9]? = some (some (.str who)) := by
        rw [List.getElem?_set_self (by rw [wipe_length]; omega)]
      refine ⟨w2, yes ?_⟩
      generalize (wipe σ1 [9, 10]).set 9 (some (.str who)) = σ2 at *
      refine ⟨_, g8, d.pick, rfl, by omega, by omega, in_it (walk_range (lo := 0) (n := d.pick.toNat)) (fun k H' => Same H H' ∧ ∃ qs : List (Addr × List V), H' G = some (.lst (qs.map fun q => V.ref q.1)) ∧ RowsAt K H' qs ∧ qs.map (·.2) = (doL people (ds.take i) ++ ((byOf people d.by_).take j).flatMap fun who => (List.range d.pick.toNat).map fun (i : Nat) => [V.str "do", .str d.x, .str who, .int i]) ++ (List.range k).map fun (i : Nat) => [V.str "do", .str d.x, .str who, .int i]) ⟨sm2, qs2, eG2, ra2, by rw [eq2]; simp⟩ (fun _ _ _ _ => trivial) ?_ ?_⟩
      · rintro k z H4 H5 hk ⟨sm4, qs4, eG4, ra4, eq4⟩ ⟨rfl, rfl⟩
        refine ⟨set2, yes ?_⟩
        refine ⟨_, get_other g6 (by decide), _, get_other g9 (by decide), _, get_same (by omega), sz (by decide : 4 ≤ 1000), fun u hu => ?_⟩
        have su := same_new hu (.tup [.str "do", .str d.x, .str who, .int (0 + (k : Nat))])
        have eG5 := su _ _ eG4
        have lq : (qs4.map fun q => V.ref q.1).length ≤ 1000 := by
          rw [List.length_map]
          have e5 : qs4.length = (qs4.map (·.2)).length := (List.length_map _).symm
          rw [e5, eq4, List.length_append, List.length_append, List.length_map, List.length_range]
          have a1 := small i
          have a2 : (((byOf people d.by_).take j).flatMap fun who => (List.range d.pick.toNat).map fun (i : Nat) => [V.str "do", .str d.x, .str who, .int i]).length ≤ 12 := by
            refine Nat.le_trans (flat_len _ _ 4 fun x _ => by rw [List.length_map, List.length_range]; exact pk4) ?_
            rw [List.length_take]
            omega
          omega
        refine ⟨_, eG5, small1000 lq, same_grow hG (sm4.trans su), qs4 ++ [(u, [.str "do", .str d.x, .str who, .int (k : Nat)])], ?_, ?_, ?_⟩
        · rw [upd_same, List.map_append]
          rfl
        · intro q hq
          refine sqt_lst eG5 ?_
          rcases List.mem_append.mp hq with hq | hq
          · exact same_sqt su (ra4 q hq)
          · rw [List.mem_singleton.mp hq]
            have : SqT K (upd H5 u (.tup [.str "do", .str d.x, .str who, .int (0 + (k : Nat))])) u [.str "do", .str d.x, .str who, .int (0 + (k : Nat))] := SqT.of upd_same
            have e : ([V.str "do", .str d.x, .str who, .int (0 + (k : Nat))] : List V) = [V.str "do", .str d.x, .str who, .int (k : Nat)] := by rw [Int.zero_add]
            exact cast (congrArg (fun l => SqT K (upd H5 u (.tup [.str "do", .str d.x, .str who, .int (0 + (k : Nat))])) u l) e) this
        · rw [List.map_append, eq4, List.range_succ, List.map_append]
          simp
      · rintro H4 ⟨sm4, qs4, eG4, ra4, eq4⟩
        refine ⟨sm4, qs4, eG4, ra4, ?_⟩
        rw [eq4, List.take_add_one, ew, List.flatMap_append]
        simp
    · rintro H2 ⟨sm2, qs2, eG2, ra2, eq2⟩
      rw [List.length_map, List.take_length] at eq2
      refine ⟨sm2, qs2, eG2, ra2, ?_⟩
      rw [eq2, List.take_add_one, ed]
      unfold doL
      rw [List.flatMap_append]
      congr 1
      simp [doOf]
  · rintro H2 ⟨sm2, qs2, eG2, ra2, eq2⟩
    rw [tlen, List.take_length] at eq2
    exact k G H2 sm2 qs2 eG2 ra2 eq2
theorem Deeds.to {K : PySem.W.Frag} {D : Addr} {H H' : Hp} {L L' : Addr} {people : List Str} {ks : List KindD} {N N' : Addr → Prop} (f : ∀ p d, p ≠ L → DeedAt K D H p people ks d N → DeedAt K D H' p people ks d N' ∧ p ≠ L') : ∀ {ps : List Addr} {ds : List DeedD}, Deeds K D H L people ks N ps ds → Deeds K D H' L' people ks N' ps ds
  | [], [], _ => trivial
  | p :: ps, d :: ds, h => ⟨(f p d h.2.1 h.1).1, (f p d h.2.1 h.1).2, Deeds.to f h.2.2⟩
theorem valV_no {kvs : List (Key × V)} {k : Key} (h : k ∉ kvs.map (·.1)) : valV kvs k = none := by
  unfold valV
  rw [Option.map_eq_none_iff, List.find?_eq_none]
  intro p hp z
  exact h (List.mem_map.mpr ⟨p, hp, of_decide_eq_true z⟩)
theorem DeedAt.ins {K : PySem.W.Frag} {D E dx : Addr} {H : Hp} {q p : Addr} {people : List Str} {ks : List KindD} {d : DeedD} {N : Addr → Prop} {v : V} {r : List (Str × V)} {o : HO} (eP : H p = some (.ins E dx (("text", v) :: r))) (h : DeedAt K D H q people ks d N) : DeedAt K D (upd H p o) q people ks d N ∧ q ≠ p := by
  obtain ⟨dy, ab, a1, a2, a3, n, e, t, ⟨x1, e1, t1⟩, ⟨x2, e2, t2⟩, ⟨x3, e3, t3⟩⟩ := h.ex
  have nq : q ≠ p := fun z => by
    rw [z, eP] at e
    have e := Option.some.inj e
    have f := (HO.ins.inj e).2.2
    have g : ("text" : Str) = "name" := congrArg Prod.fst (List.cons.inj f).1
    exact absurd g (by decide +kernel)
  have nl : ∀ {a : Addr} {xs : List V}, H a = some (.lst xs) → a ≠ p := fun {a xs} e z => by
    rw [z, eP] at e
    cases e
  have u : ∀ {a : Addr} {xs : List V}, SqT K H a xs → SqT K (upd H p o) a xs := fun h => sqt_upd eP h
  exact ⟨⟨dy, ab, a1, a2, a3, n, by rw [upd_ne nq]; exact e, t.map u, ⟨x1, by rw [upd_ne (nl e1)]; exact e1, t1.map u⟩, ⟨x2, by rw [upd_ne (nl e2)]; exact e2, t2.map u⟩, ⟨x3, by rw [upd_ne (nl e3)]; exact e3, t3.map u⟩⟩, nq⟩
section
variable {P : Program} {w : World} {K : PySem.W.Frag} {mg : Str → Option Value} {base : Heap} {C D E fI fL fH : Addr}
def spHouse (D E : Addr) (K : PySem.W.Frag) : Sp := fun vs H Q _ => ∃ (p dx : Addr) (h : HouseD), vs = [.ref p, .str (Str.join "\n" (h.page.map Rw.text))] ∧ H p = some (.ins E dx []) ∧ h.Ok ∧ PageOk h.page ∧ (Str.join "\n" (h.page.map Rw.text)).length ≤ 10000 ∧
  ∀ H', Bar p H H' → HouseAt K D E H' p (Str.join "\n" (h.page.map Rw.text)) h → Q .non H'
theorem ok_house {f : Addr} {fd fdL : FuncData} (F : Fun K "__init__" "House.__init__" sHouse f fd) (T : Ln P w K mg base C) (HT : HTxt K mg E fH) (ML : Mk K C fL) (GL : FnOk P w K mg base CX0 1 fL fdL ["self", "text"] (spLines C)) (bL : Binds K fdL ["self", "text"] []) (DT : DTxt K mg D fI) (ms : mg "sorted" = none) (mr : mg "range" = none)
    (T1 : DefOk P w K mg base "take_people" 3 ["lines"] (spPeople C K)) (T2 : DefOk P w K mg base "take_cells" 5 ["lines"] (spCells C K)) (T3 : DefOk P w K mg base "take_kinds" 6 ["lines"] (spKinds C K)) (T4 : DefOk P w K mg base "take_deeds" 6 ["lines", "people", "cells", "kinds"] (spDeeds C D K)) :
    FnOk P w K mg base CX0 7 f fd ["self", "text"] (spHouse D E K) := by
  refine F.ok scHouse (fun vs H Q E h => ?_) (fun cdv A outer s H vs Q E' hr h => ?_)
  · obtain ⟨p, dx, h, rfl, _⟩ := h
    rfl
  obtain ⟨p, dx, h, rfl, hp, ok, pok, few, k⟩ := h
  have nd := scHouse.nd
  have hr1 : Room 1 (A.deeper (envOfC "House.__init__" (defScope sHouse) s.heap.objs.size f cdv)) := hr.mono (by decide)
  have hr2 : Room 2 (A.deeper (envOfC "House.__init__" (defScope sHouse) s.heap.objs.size f cdv)) := hr.mono (by decide)
  have hr3 : Room 3 (A.deeper (envOfC "House.__init__" (defScope sHouse) s.heap.objs.size f cdv)) := hr.mono (by decide)
  have hr5 : Room 5 (A.deeper (envOfC "House.__init__" (defScope sHouse) s.heap.objs.size f cdv)) := hr.mono (by decide)
  refine ⟨_, pss_cons (ps_set (i := 2) nd rfl (.inl rfl) (pe_make ML GL hr2 rfl T.T.mgC bL .nil pass0 (pa_cons (pv 1) pa_nil)))
    (pss_cons (ps_fld (pv 0) (pv 1) rfl)
    (pss_cons (ps_fld (pv 0) (pe_D T1 hr3 rfl (pa_cons (pv 2) pa_nil)) rfl)
    (pss_cons (ps_fld (pv 0) (pe_D T2 hr5 rfl (pa_cons (pv 2) pa_nil)) rfl)
    (pss_cons (ps_fld (pv 0) (pe_D T3 hr rfl (pa_cons (pv 2) pa_nil)) rfl)
    (pss_cons (ps_set (i := 3) nd rfl (.inl rfl) (pe_D T4 hr rfl (pa_cons (pv 2) (pa_cons (pe_fld (pv 0) rfl) (pa_cons (pe_fld (pv 0) rfl) (pa_cons (pe_fld (pv 0) rfl) pa_nil))))))
    (pss_cons (ps_fld (pv 0) (pe_callTy call_tuple_of rfl T.tuple PyProof.Rows.Boot.«tuple» (pa_cons
      (pe_lc (own := [("deed", 5)]) (g := gName 5) (tt := tYes) rfl nd (pi_list (pv 3)) (blkOk_by (N := nHouse) (sc := defScope sHouse) (by decide +kernel)) (fun _ _ _ _ _ => pg_name (i := 5) nd rfl (Or.inl rfl)) (fun _ _ _ _ _ => pts_nil)
        (fun _ _ _ _ _ => pe_tup (pa_cons (pe_fldK K (pv 5)) (pa_cons (pe_fldK K (pv 5)) (pa_cons (pe_fldK K (pv 5)) pa_nil))))) pa_nil)) rfl)
    (pss_cons (ps_fld (pv 0) (pe_dc (own := [("deed", 5)]) (g := gName 5) (tt := tYes) rfl nd (pi_list (pv 3)) (blkOk_by (N := nHouse) (sc := defScope sHouse) (by decide +kernel)) (fun _ _ _ _ _ => pg_name (i := 5) nd rfl (Or.inl rfl)) (fun _ _ _ _ _ => pts_nil) (fun _ _ _ _ _ => pe_fldK K (pv 5)) (fun _ _ _ _ _ => pv 5)) rfl)
    (pss_cons (ps_setLc3 (i := 4) (own := [("name", 6), ("by", 7), ("pick", 8), ("who", 9), ("it", 10)]) (vs1 := [9, 10]) (vs2 := [10]) rfl nd rfl rfl (sw_true rfl rfl rfl (by decide +kernel)) (pi_tup (pe_fld (pv 0) rfl)) (blkOk_by (N := nHouse) (sc := defScope sHouse) (by decide +kernel)) (by decide) (by decide)
        (g := gTup K 3 (gCons (gName 6) (gCons (gName 7) (gCons (gName 8) gNil)))) (tt := tYes) (fun _ _ _ _ _ => pg_tupK K (pgs_cons (pg_name (i := 6) nd rfl (Or.inl rfl)) (pgs_cons (pg_name (i := 7) nd rfl (Or.inl rfl)) (pgs_cons (pg_name (i := 8) nd rfl (Or.inl rfl)) pgs_nil)))) (fun _ _ _ _ _ => pts_nil)
        (wi1 := iTup K (tVar 7)) (fun _ _ _ _ _ => pi_tup (pv 7)) (g1 := gName 9) (tt1 := tYes) (fun _ _ _ _ _ => pg_name (i := 9) nd rfl (Or.inl rfl)) (fun _ _ _ _ _ => pts_nil)
        (wi2 := iRng1 (tCons (tVar 8) tNil)) (fun _ _ _ _ _ => pi_range1 rfl mr (pa_cons (pv 8) pa_nil)) (g2 := gName 10) (tt2 := tYes) (fun _ _ _ _ _ => pg_name (i := 10) nd rfl (Or.inl rfl)) (fun _ _ _ _ _ => pts_nil)
        (fun _ _ _ _ _ => pe_tup (pa_cons pe_str (pa_cons (pv 6) (pa_cons (pv 9) (pa_cons (pv 10) pa_nil))))))
    (pss_cons (ps_fld (pv 0) (pe_callTy call_tuple_of rfl T.tuple PyProof.Rows.Boot.«tuple» (pa_cons (pe_callB cr_sortedT rfl ms PyProof.Rows.boot_sorted (pa_cons (pv 4) pa_nil)) pa_nil)) rfl)
    (pss_cons (ps_fld (pv 0) (pe_M (pv 2) T.T.cl T.numFrom hr2 (pa_cons (pe_ix ix_list (pe_M (pv 2) T.T.cl T.exactly_ hr3 (pa_cons pe_int (pa_cons (pe_tup (pa_cons pe_str pa_nil)) (pa_cons pe_int pa_nil)))) pe_int (fun _ _ => rfl)) (pa_cons pe_int (pa_cons pe_int pa_nil)))) rfl)
    (pss_one (ps_expr (pe_M0 (pv 2) T.T.cl T.end_ hr1))))))))))))), ?_⟩
  have pne : h.page ≠ [] := by
    unfold HouseD.page
    exact List.cons_ne_nil _ _
  have spl := split_page pok pne
  -- where the lines stand
  have at0 : At h.page 0 h.page := fun j r e => by rw [Nat.zero_add]; exact e
  have row1 : h.page[0]? = some ⟨false, "people" :: h.people⟩ := rfl
  have at1 : At h.page 1 (h.cs.map CellD.row ++ (kRows h.ks ++ (dRows h.cs h.ks h.ds ++ [⟨false, ["day", numS h.day]⟩]))) := (At.tail (n := 0) at0).cast rfl
  have at2 := at1.right
  have at3 := at2.right
  have at4 := at3.right
  rw [List.length_map] at at2 at3 at4
  have plen : h.page.length = 1 + h.cs.length + (kRows h.ks).length + (dRows h.cs h.ks h.ds).length + 1 := by
    unfold HouseD.page
    simp only [List.length_cons, List.length_append, List.length_map, List.length_nil]
    omega
  -- the first line of what follows
  have firstD : ∃ ws, h.page[1 + h.cs.length + (kRows h.ks).length]? = some ⟨false, "deed" :: ws⟩ := by
    have d1 := ok.d1
    cases e : h.ds with
    | nil =>
      rw [e] at d1
      cases d1
    | cons d r =>
      rw [e] at at3
      exact ⟨_, at3.left.head⟩
  have firstK : ∃ w ws, h.page[1 + h.cs.length]? = some ⟨false, w :: ws⟩ ∧ (w = "kind" ∨ w = "deed") := by
    cases e : h.ks with
    | nil =>
      obtain ⟨ws, e2⟩ := firstD
      rw [e] at e2
      exact ⟨_, ws, e2, .inr rfl⟩
    | cons c r =>
      rw [e] at at2
      exact ⟨_, _, at2.left.head, .inl rfl⟩
  have stopC : nextP h.page (1 + h.cs.length) 0 ["cell"] = false := by
    obtain ⟨w, ws, e, hw⟩ := firstK
    unfold nextP aheadP
    rw [e]
    rcases hw with rfl | rfl
    · exact decide_eq_false (by decide +kernel : ("kind" : Str) ∉ (["cell"] : List Str))
    · exact decide_eq_false (by decide +kernel : ("deed" : Str) ∉ (["cell"] : List Str))
  have few2 : (Txt.split (Str.join "\n" (h.page.map Rw.text)) "\n").length ≤ 900 := by rw [spl, List.length_map]; exact pok.1
  have short : ∀ r ∈ Txt.split (Str.join "\n" (h.page.map Rw.text)) "\n", r.length ≤ 900 := by
    rw [spl]
    intro r hr
    obtain ⟨r', hr', rfl⟩ := List.mem_map.mp hr
    exact (rw_is (pok.2 r' hr')).2.2
  have hfew : (Str.join "\n" (h.page.map Rw.text)).length + 2 ≤ sizeLine := by
    rw [PySem.sizeLine_eq]
    omega
  -- the lines
  refine ⟨_, rfl, fun L dxL hL hdL ndL => ?_⟩
  have npL : p ≠ L := fun z => by
    rw [← z, hp] at hL
    cases hL
  have sL : Same H (upd (upd H dxL (.own L)) L (.ins C dxL [])) := fun b o e => by
    rw [upd_ne (ne_of_none e hL), upd_ne (ne_of_none e hdL)]
    exact e
  refine ⟨L, dxL, _, rfl, upd_same, hfew, few2, short, fun H1 b1 la => ⟨rfl, ?_⟩⟩
  rw [spl] at la
  have S1 : HS C E H H1 p L dx h.page 0 [] := ⟨fun b o nb e => b1 b o (ne_of_none e hL) (sL _ _ e), ⟨la, pok, Nat.zero_le _⟩, b1 p _ npL (sL _ _ hp), hL, npL⟩
  -- text
  refine ⟨_, rfl, _, rfl, p, E, dx, _, rfl, S1.ob, HT.cl, HT.n1, (by show 0 < 1000; decide), ?_⟩
  have S2 := S1.put (gs := [("text", .str (Str.join "\n" (h.page.map Rw.text)))])
  generalize Str.join "\n" (h.page.map Rw.text) = text at *
  show (fun σ H2 => _) _ (upd H1 p (.ins E dx [("text", .str text)]))
  generalize upd H1 p (.ins E dx [("text", .str text)]) = H2 at *
  -- people
  refine ⟨_, rfl, L, h.page, 0, h.people, rfl, S2.pg, row1, ok.p1, ok.p3, ok.pn, ok.pok, fun ap H3 b3 pg3 pp3 => ?_⟩
  have S3 := S2.step b3 pg3
  refine ⟨_, rfl, p, E, dx, _, rfl, S3.ob, HT.cl, HT.n2, (by show 1 < 1000; decide), ?_⟩
  have S4 := S3.put (gs := [("text", .str text), ("people", .ref ap)])
  have pp4 := sqt_upd (o := .ins E dx [("text", .str text), ("people", .ref ap)]) S3.ob pp3
  show (fun σ H4 => _) _ (upd H3 p (.ins E dx [("text", .str text), ("people", .ref ap)]))
  generalize upd H3 p (.ins E dx [("text", .str text), ("people", .ref ap)]) = H4 at *
  -- cells
  refine ⟨_, rfl, L, h.page, 1, h.cs, rfl, S4.pg, at1.left, ok.c1, ok.cok.1, ok.cok.2.1, ok.cok.2.2, stopC, fun cv H5 b5 pg5 tc5 => ?_⟩
  obtain ⟨ac, cxs, rfl, _, _⟩ := tp_tup tc5
  obtain ⟨dy4, R4, hL4⟩ := S4.pg.at
  have S5 := S4.step b5 pg5
  have pp5 := sqt_bar hL4 b5 pp4
  refine ⟨_, rfl, p, E, dx, _, rfl, S5.ob, HT.cl, HT.n3, (by show 2 < 1000; decide), ?_⟩
  have S6 := S5.put (gs := [("text", .str text), ("people", .ref ap), ("cells", .ref ac)])
  have u5 : ∀ {a : Addr} {xs : List V}, SqT K H5 a xs → SqT K (upd H5 p (.ins E dx [("text", .str text), ("people", .ref ap), ("cells", .ref ac)])) a xs := fun h => sqt_upd S5.ob h
  have pp6 := u5 pp5
  have tc6 := tc5.map u5
  clear u5
  show (fun σ H4 => _) _ (upd H5 p (.ins E dx [("text", .str text), ("people", .ref ap), ("cells", .ref ac)]))
  generalize upd H5 p (.ins E dx [("text", .str text), ("people", .ref ap), ("cells", .ref ac)]) = H6 at *
  -- kinds
  obtain ⟨wsD, eD⟩ := firstD
  refine ⟨_, rfl, L, h.page, 1 + h.cs.length, h.ks, rfl, S6.pg, at2.left, ok.k3, ok.kok, ok.kn, ⟨_, eD, decide_eq_false (by decide +kernel : ("deed" : Str) ∉ (["kind"] : List Str))⟩, fun kv H7 b7 pg7 tk7 => ?_⟩
  obtain ⟨ak, kxs, rfl, _, _⟩ := tp_tup tk7
  obtain ⟨dy6, R6, hL6⟩ := S6.pg.at
  have S7 := S6.step b7 pg7
  have pp7 := sqt_bar hL6 b7 pp6
  have tc7 := tc6.bar hL6 b7
  refine ⟨_, rfl, p, E, dx, _, rfl, S7.ob, HT.cl, HT.n4, (by show 3 < 1000; decide), ?_⟩
  have S8 := S7.put (gs := [("text", .str text), ("people", .ref ap), ("cells", .ref ac), ("kinds", .ref ak)])
  have u7 : ∀ {a : Addr} {xs : List V}, SqT K H7 a xs → SqT K (upd H7 p (.ins E dx [("text", .str text), ("people", .ref ap), ("cells", .ref ac), ("kinds", .ref ak)])) a xs := fun h => sqt_upd S7.ob h
  have pp8 := u7 pp7
  have tc8 := tc7.map u7
  have tk8 := tk7.map u7
  clear u7
  show (fun σ H4 => _) _ (upd H7 p (.ins E dx [("text", .str text), ("people", .ref ap), ("cells", .ref ac), ("kinds", .ref ak)]))
  generalize upd H7 p (.ins E dx [("text", .str text), ("people", .ref ap), ("cells", .ref ac), ("kinds", .ref ak)]) = H8 at *
  -- deeds
  refine ⟨_, rfl, _, rfl, p, E, dx, _, _, rfl, S8.ob, HT.cl, HT.n2, rfl, _, rfl, p, E, dx, _, _, rfl, S8.ob, HT.cl, HT.n3, rfl, _, rfl, p, E, dx, _, _, rfl, S8.ob, HT.cl, HT.n4, rfl, ?_⟩
  refine ⟨L, ap, ac, ak, h.page, 1 + h.cs.length + (kRows h.ks).length, h.people, h.cs, h.ks, h.ds, ["day", numS h.day], rfl, S8.pg, ok.cok, pp8, ok.p3, tc8, tk8, ok.k3, ok.kn, ok.d1, ok.d4, ok.dok, ok.dn, at3, decide_eq_false (by decide +kernel : ("day" : Str) ∉ (["deed"] : List Str)), fun l ps H9 b9 pg9 el dd => ?_⟩
  obtain ⟨dy8, R8, hL8⟩ := S8.pg.at
  have S9 := S8.step b9 pg9
  have pp9 := sqt_bar hL8 b9 pp8
  have tc9 := tc8.bar hL8 b9
  have tk9 := tk8.bar hL8 b9
  clear pp3 pp4 pp5 pp6 pp7 pp8 tc5 tc6 tc7 tc8 tk7 tk8 S1 S2 S3 S4 S5 S6 S7 S8 b3 b5 b7 b9 pg3 pg5 pg7 pg9
  have nps : ps.length = h.ds.length := dd.len
  -- the deeds' rows
  refine ⟨_, rfl, l, rfl, ⟨_, SqL.of el⟩, fun G hG => lc_list (xs := ps.map V.ref) (fun i H' => Same H9 H' ∧ ∃ ts : List V, H' G = some (.lst ts) ∧ TpAll K H' ts ((h.ds.take i).map (deedT h.people))) ⟨same_new hG _, [], upd_same, .nil⟩ (fun i H' _ z => SqL.of (z.1 _ _ el)) ?_ ?_⟩
  · rintro i x H' hi ⟨sm, ts, eG, tt⟩
    obtain ⟨q, eq_, rfl⟩ := ref_at hi
    obtain ⟨d, ed, da, _⟩ := dd.at eq_
    obtain ⟨dxq, ab, a1, a2, a3, _, ob, hb, _⟩ := (da.same sm).ex
    refine ⟨set2, yes ?_⟩
    refine ⟨_, get_same (by show 5 < 11; decide), q, D, dxq, _, _, rfl, ob, DT.cl, DT.nN, rfl, _, get_same (by show 5 < 11; decide), q, D, dxq, _, _, rfl, ob, DT.cl, DT.nB, rfl, _, get_same (by show 5 < 11; decide), q, D, dxq, _, _, rfl, ob, DT.cl, DT.nP, rfl, sz (by decide : 3 ≤ 1000), fun u hu => ?_⟩
    have su := same_new hu (.tup [.str d.x, .ref ab, .int d.pick])
    have lt : ts.length ≤ 1000 := by
      have := ok.d4
      rw [tt.length, List.length_map, List.length_take]
      omega
    refine ⟨ts, su _ _ eG, small1000 lt, same_grow hG (sm.trans su), ts ++ [.ref u], upd_same, ?_⟩
    have e1 : (h.ds.take (i + 1)).map (deedT h.people) = (h.ds.take i).map (deedT h.people) ++ [deedT h.people d] := by
      rw [List.take_add_one, ed, List.map_append]
      rfl
    rw [e1]
    have eG2 := su _ _ eG
    refine TpAll.append ((tt.same su).lst eG2) (.cons (Tp.lst eG2 (.tup (SqT.of upd_same) (.cons (.str _) (.cons (hb.same su) (.cons (.int _) .nil))))) .nil)
  · rintro H10 ⟨s10, ts, eG, tt⟩
    rw [List.length_map, nps, List.take_length] at tt
    refine ⟨G, ts, rfl, .inl ⟨SqL.of eG, fun ad had => ?_⟩⟩
    have s11 := same_new had (.tup ts)
    have tds : Tp K (upd H10 ad (.tup ts)) (.ref ad) (.tuple (h.ds.map (deedT h.people))) := .tup (SqT.of upd_same) (tt.same s11)
    have s911 := s10.trans s11
    have S11 := S9.step (Bar.of s911) (S9.pg.same s911)
    have pp11 := same_sqt s911 pp9
    have tc11 := tc9.same s911
    have tk11 := tk9.same s911
    have dd11 : Deeds K D (upd H10 ad (.tup ts)) L h.people h.ks (fun _ => True) ps h.ds := dd.map fun _ _ _ z => z.same s911
    have el11 := s911 _ _ el
    generalize upd H10 ad (.tup ts) = H11 at *
    refine ⟨_, rfl, p, E, dx, _, rfl, S11.ob, HT.cl, HT.n5, (by show 4 < 1000; decide), ?_⟩
    have S12 := S11.put (gs := [("text", .str text), ("people", .ref ap), ("cells", .ref ac), ("kinds", .ref ak), ("deeds", .ref ad)])
    have u11 : ∀ {a : Addr} {xs : List V}, SqT K H11 a xs → SqT K (upd H11 p (.ins E dx [("text", .str text), ("people", .ref ap), ("cells", .ref ac), ("kinds", .ref ak), ("deeds", .ref ad)])) a xs := fun h => sqt_upd S11.ob h
    have pp12 := u11 pp11
    have tc12 := tc11.map u11
    have tk12 := tk11.map u11
    have td12 := tds.map u11
    have dd12 : Deeds K D (upd H11 p (.ins E dx [("text", .str text), ("people", .ref ap), ("cells", .ref ac), ("kinds", .ref ak), ("deeds", .ref ad)])) L h.people h.ks (fun _ => True) ps h.ds := dd11.map fun _ _ _ z => (z.ins S11.ob).1
    have el12 : upd H11 p (.ins E dx [("text", .str text), ("people", .ref ap), ("cells", .ref ac), ("kinds", .ref ak), ("deeds", .ref ad)]) l = some (.lst (ps.map V.ref)) := by
      rw [upd_ne (fun z => by
        have := S11.ob
        rw [← z, el11] at this
        cases this)]
      exact el11
    show (fun σ H4 => _) _ (upd H11 p (.ins E dx [("text", .str text), ("people", .ref ap), ("cells", .ref ac), ("kinds", .ref ak), ("deeds", .ref ad)]))
    generalize upd H11 p (.ins E dx [("text", .str text), ("people", .ref ap), ("cells", .ref ac), ("kinds", .ref ak), ("deeds", .ref ad)]) = H12 at *
    clear u11 S9 S11 pp9 pp11 tc9 tc11 tk9 tk11 dd dd11 tds el el11 s10 s11 s911 tt had eG
    -- scripts
    refine ⟨_, rfl, l, rfl, ⟨_, SqL.of el12⟩, fun M hM => dc_it (walk_list (xs := ps.map V.ref)) (fun i H' => Same H12 H' ∧ H' M = some (.dK (((h.ds.take i).map fun d => (Sum.inr d.x : Key)).zip ((ps.take i).map V.ref)))) ⟨same_new hM _, upd_same⟩ (fun i H' _ z => SqL.of (z.1 _ _ el12)) ?_ ?_⟩
    · rintro i x H' H'' hi ⟨sm, eM⟩ ⟨rfl, hx⟩
      obtain ⟨q, eq_, rfl⟩ := ref_at hx
      obtain ⟨d, ed, da, _⟩ := dd12.at eq_
      obtain ⟨dxq, ab, a1, a2, a3, _, ob, hb, _⟩ := (da.same sm).ex
      have new : valV (((h.ds.take i).map fun d => (Sum.inr d.x : Key)).zip ((ps.take i).map V.ref)) (Sum.inr d.x : Key) = none := by
        refine valV_no fun z => ?_
        obtain ⟨⟨k1, v1⟩, hpr, epr⟩ := List.mem_map.mp z
        have z3 := (List.of_mem_zip hpr).1
        have epr' : k1 = Sum.inr d.x := epr
        rw [epr'] at z3
        obtain ⟨d', hd', ex⟩ := List.mem_map.mp z3
        have := not_in_take (f := fun d : DeedD => d.x) ok.dn ed
        exact this (List.mem_map.mpr ⟨d', hd', Sum.inr.inj ex⟩)
      refine ⟨set2, yes ⟨_, get_same (by show 5 < 11; decide), q, D, dxq, _, _, rfl, ob, DT.cl, DT.nN, rfl, _, get_same (by show 5 < 11; decide), _, Sum.inr d.x, rfl, eM, ?_, same_grow hM sm, ?_⟩⟩
      · have := ok.d4
        rw [List.length_zip, List.length_map, List.length_map, List.length_take, List.length_take]
        exact small1000 (by omega)
      · rw [upd_same, putK_new _ new, List.take_add_one, List.take_add_one, ed, eq_, List.map_append, List.map_append, List.zip_append (by rw [List.length_map, List.length_map, List.length_take, List.length_take, nps])]
        rfl
    · rintro H13 ⟨s13, eM⟩
      rw [List.length_map, List.take_length, nps, List.take_length] at eM
      have S13 := S12.step (Bar.of s13) (S12.pg.same s13)
      refine ⟨_, rfl, p, E, dx, _, rfl, S13.ob, HT.cl, HT.n6, (by show 5 < 1000; decide), ?_⟩
      have S14 := S13.put (gs := [("text", .str text), ("people", .ref ap), ("cells", .ref ac), ("kinds", .ref ak), ("deeds", .ref ad), ("scripts", .ref M)])
      have u13 : ∀ {a : Addr} {xs : List V}, SqT K H12 a xs → SqT K (upd H13 p (.ins E dx [("text", .str text), ("people", .ref ap), ("cells", .ref ac), ("kinds", .ref ak), ("deeds", .ref ad), ("scripts", .ref M)])) a xs := fun h => sqt_upd S13.ob (same_sqt s13 h)
      have pp14 := u13 pp12
      have tc14 := tc12.map u13
      have tk14 := tk12.map u13
      have td14 := td12.map u13
      have dd14 : Deeds K D (upd H13 p (.ins E dx [("text", .str text), ("people", .ref ap), ("cells", .ref ac), ("kinds", .ref ak), ("deeds", .ref ad), ("scripts", .ref M)])) L h.people h.ks (fun _ => True) ps h.ds := dd12.map fun _ _ _ z => ((z.same s13).ins S13.ob).1
      have eM14 : upd H13 p (.ins E dx [("text", .str text), ("people", .ref ap), ("cells", .ref ac), ("kinds", .ref ak), ("deeds", .ref ad), ("scripts", .ref M)]) M = some (.dK ((h.ds.map fun d => (Sum.inr d.x : Key)).zip (ps.map V.ref))) := by
        rw [upd_ne (fun z => by
          have := S13.ob
          rw [← z, eM] at this
          cases this)]
        exact eM
      show (fun σ H4 => _) _ (upd H13 p (.ins E dx [("text", .str text), ("people", .ref ap), ("cells", .ref ac), ("kinds", .ref ak), ("deeds", .ref ad), ("scripts", .ref M)]))
      generalize upd H13 p (.ins E dx [("text", .str text), ("people", .ref ap), ("cells", .ref ac), ("kinds", .ref ak), ("deeds", .ref ad), ("scripts", .ref M)]) = H14 at *
      clear u13 S12 S13 pp12 tc12 tk12 td12 dd12 el12 s13 eM hM
      -- doings
      obtain ⟨txs, hsd, hds⟩ := sqt_refs td14
      have tlen : txs.length = h.ds.length := by rw [hds.length, List.length_map]
      have dbound : ∀ d ∈ h.ds, (byOf h.people d.by_).length ≤ 3 ∧ d.pick.toNat ≤ 4 := fun d hd => by
        obtain ⟨_, _, _, _, q1, q5, _⟩ := ok.dok d hd
        exact ⟨Nat.le_trans (byOf_len _ _) ok.p3, by omega⟩
      have small : ∀ i, (doL h.people (h.ds.take i)).length ≤ 48 := fun i => by
        have := doL_len (people := h.people) (ds := h.ds.take i) (fun d hd => dbound d (List.mem_of_mem_take hd))
        have l1 : (h.ds.take i).length ≤ h.ds.length := by rw [List.length_take]; omega
        have := ok.d4
        omega
      dsimp only
      refine seq_asg ?_
      refine lc_doings (ad := ad) (people := h.people) (ds := h.ds) rfl (by show 10 < 11; decide) S14.ob HT.cl HT.n5 rfl hsd hds dbound (fun d hd => by
        obtain ⟨_, _, _, _, q1, q5, _⟩ := ok.dok d hd
        exact ⟨q1, q5⟩) ok.d4 fun G H15 s15 qs eG ra eq_ => ?_
      · skip
        have S15 := S14.step (Bar.of s15) (S14.pg.same s15)
        have rows : ∀ r ∈ doL h.people h.ds, ∃ (a b : Str) (i : Nat), r = [V.str "do", .str a, .str b, .int i] := by
          intro r hr
          obtain ⟨d, _, hd⟩ := List.mem_flatMap.mp hr
          obtain ⟨who, _, hw⟩ := List.mem_flatMap.mp hd
          obtain ⟨i, _, rfl⟩ := List.mem_map.mp hw
          exact ⟨_, _, i, rfl⟩
        have few_ : qs.length ≤ 900 := by
          have e5 : qs.length = (qs.map (·.2)).length := (List.length_map _).symm
          rw [e5, eq_]
          have := small h.ds.length
          rw [List.take_length] at this
          omega
        refine ⟨_, rfl, G, qs, fun k => decide (k < 3), rfl, SqL.of eG, fun q hq => ?_, few_, fun rs sp perm pw hsp => ?_⟩
        · refine ⟨ra q hq, ?_⟩
          obtain ⟨a, b, i, e⟩ := rows q.2 (by rw [← eq_]; exact List.mem_map.mpr ⟨q, hq, rfl⟩)
          rw [e]
          exact ⟨List.cons_ne_nil _ _, rfl⟩
        · have s16 := same_new hsp (.lst (rs.map fun q => V.ref q.1))
          refine ⟨sp, _, rfl, .inl ⟨SqL.of upd_same, fun ao hao => ?_⟩⟩
          have s17 := same_new hao (.tup (rs.map fun q => V.ref q.1))
          have s1417 := s15.trans (s16.trans s17)
          have S17 := S15.step (Bar.of (s16.trans s17)) ((S15.pg.same s16).same s17)
          have ro17 : SqT K (upd (upd H15 sp (.lst (rs.map fun q => V.ref q.1))) ao (.tup (rs.map fun q => V.ref q.1))) ao (rs.map fun q => V.ref q.1) := SqT.of upd_same
          have ra17 : RowsAt K (upd (upd H15 sp (.lst (rs.map fun q => V.ref q.1))) ao (.tup (rs.map fun q => V.ref q.1))) rs := fun q hq => same_sqt (s16.trans s17) (ra q (perm.mem_iff.mp hq))
          refine ⟨_, rfl, p, E, dx, _, rfl, S17.ob, HT.cl, HT.n7, (by show 6 < 1000; decide), ?_⟩
          have S18 := S17.put (gs := [("text", .str text), ("people", .ref ap), ("cells", .ref ac), ("kinds", .ref ak), ("deeds", .ref ad), ("scripts", .ref M), ("doings", .ref ao)])
          have u17 : ∀ {a : Addr} {xs : List V}, SqT K (upd (upd H15 sp (.lst (rs.map fun q => V.ref q.1))) ao (.tup (rs.map fun q => V.ref q.1))) a xs → SqT K (upd (upd (upd H15 sp (.lst (rs.map fun q => V.ref q.1))) ao (.tup (rs.map fun q => V.ref q.1))) p (.ins E dx [("text", .str text), ("people", .ref ap), ("cells", .ref ac), ("kinds", .ref ak), ("deeds", .ref ad), ("scripts", .ref M), ("doings", .ref ao)])) a xs := fun h => sqt_upd S17.ob h
          have pp18 := u17 (same_sqt s1417 pp14)
          have tc18 := (tc14.same s1417).map u17
          have tk18 := (tk14.same s1417).map u17
          have td18 := (td14.same s1417).map u17
          have ro18 := u17 ro17
          have ra18 := ra17.map u17
          have dd18 : Deeds K D (upd (upd (upd H15 sp (.lst (rs.map fun q => V.ref q.1))) ao (.tup (rs.map fun q => V.ref q.1))) p (.ins E dx [("text", .str text), ("people", .ref ap), ("cells", .ref ac), ("kinds", .ref ak), ("deeds", .ref ad), ("scripts", .ref M), ("doings", .ref ao)])) L h.people h.ks (fun _ => True) ps h.ds := dd14.map fun _ _ _ z => ((z.same s1417).ins S17.ob).1
          have eM17 := s1417 _ _ eM14
          have eM18 : upd (upd (upd H15 sp (.lst (rs.map fun q => V.ref q.1))) ao (.tup (rs.map fun q => V.ref q.1))) p (.ins E dx [("text", .str text), ("people", .ref ap), ("cells", .ref ac), ("kinds", .ref ak), ("deeds", .ref ad), ("scripts", .ref M), ("doings", .ref ao)]) M = some (.dK ((h.ds.map fun d => (Sum.inr d.x : Key)).zip (ps.map V.ref))) := by
            rw [upd_ne (fun z => by
              have := S17.ob
              rw [← z, eM17] at this
              cases this)]
            exact eM17
          have perm2 : (rs.map (·.2)).Perm (doL h.people h.ds) := by
            rw [← eq_]
            exact perm.map _
          have eF : putF "doings" (.ref ao) ([("text", .str text), ("people", .ref ap), ("cells", .ref ac), ("kinds", .ref ak), ("deeds", .ref ad), ("scripts", .ref M)] : List (Str × V)) = ([("text", .str text), ("people", .ref ap), ("cells", .ref ac), ("kinds", .ref ak), ("deeds", .ref ad), ("scripts", .ref M), ("doings", .ref ao)] : List (Str × V)) := rfl
          rw [eF]
          clear eF
          generalize upd (upd (upd H15 sp (.lst (rs.map fun q => V.ref q.1))) ao (.tup (rs.map fun q => V.ref q.1))) p (.ins E dx [("text", .str text), ("people", .ref ap), ("cells", .ref ac), ("kinds", .ref ak), ("deeds", .ref ad), ("scripts", .ref M), ("doings", .ref ao)]) = H18 at *
          clear u17 ro17 ra17 s1417 s16 s17 S17 S15 S14 pp14 tc14 tk14 td14 dd14 eM14 eM17
          -- day
          obtain ⟨dy, R18, hL18⟩ := S18.pg.at
          refine ⟨_, rfl, L, dy, _, rfl, hL18, rfl, _, rfl, L, dy, _, rfl, hL18, rfl, sz (by decide : 1 ≤ 1000), fun t ht => ?_⟩
          have s19 := same_new ht (.tup [.str "day"])
          refine ⟨L, t, 0, 2, h.page, ["day"], ["day", numS h.day], _, rfl, S18.pg.same s19, .inl rfl, SqT.of upd_same, at4.head, by simp [nextB], rfl, fun q H20 b20 nq nqL e20 pg20 => ?_⟩
          obtain ⟨g1, g2, _⟩ := num_ok (v := h.day) (by have := ok.y1; omega) (by have := ok.y4; omega)
          refine ⟨q, _, 1, .str (numS h.day), rfl, rfl, SqL.of e20, atI_nat (j := 1) rfl, ?_⟩
          refine ⟨L, numS h.day, h.day, 1, 4, h.page.map Rw.text, _, rfl, pg20.la, g1, g2, ok.y1, ok.y4, fun H21 s21 => ?_⟩
          have b1821 : Bar L H18 H21 := ((Bar.of s19).trans b20).trans (Bar.of s21)
          have S21 := S18.step b1821 (pg20.same s21)
          refine ⟨_, rfl, p, E, dx, _, rfl, S21.ob, HT.cl, HT.n8, (by show 7 < 1000; decide), ?_⟩
          have S22 := S21.put (gs := houseF text ap ac ak ad M ao h.day)
          have u22 : ∀ {a : Addr} {xs : List V}, SqT K H18 a xs → SqT K (upd H21 p (.ins E dx (houseF text ap ac ak ad M ao h.day))) a xs := fun z => sqt_upd S21.ob (sqt_bar hL18 b1821 z)
          have eM21 : H21 M = some (.dK ((h.ds.map fun d => (Sum.inr d.x : Key)).zip (ps.map V.ref))) := b1821 M _ (fun z => by
            rw [z, hL18] at eM18
            cases eM18) eM18
          have eM22 : upd H21 p (.ins E dx (houseF text ap ac ak ad M ao h.day)) M = some (.dK ((h.ds.map fun d => (Sum.inr d.x : Key)).zip (ps.map V.ref))) := by
            rw [upd_ne (fun z => by
              have := S21.ob
              rw [← z, eM21] at this
              cases this)]
            exact eM21
          have dd22 : Deeds K D (upd H21 p (.ins E dx (houseF text ap ac ak ad M ao h.day))) p h.people h.ks (fun _ => True) ps h.ds := dd18.to fun _ _ n z => (z.bar hL18 n b1821).ins S21.ob
          have pp22 := u22 pp18
          have tc22 := tc18.map u22
          have tk22 := tk18.map u22
          have td22 := td18.map u22
          have ro22 := u22 ro18
          have ra22 := ra18.map u22
          obtain ⟨dz, R22, hL22⟩ := S22.pg.at
          have la := S22.pg.la
          have en : 1 + h.cs.length + (kRows h.ks).length + (dRows h.cs h.ks h.ds).length + 1 = (h.page.map Rw.text).length := by
            rw [List.length_map, plen]
          rw [en] at la
          refine ⟨_, rfl, L, dz, _, rfl, hL22, rfl, L, h.page.map Rw.text, rfl, la, ?_⟩
          exact k _ S22.bar ⟨dx, ap, ac, ak, ad, M, ao, ps, rs, S22.ob, pp22, tc22, tk22, td22, eM22, dd22, ro22, ra22, perm2, pw⟩
end
end Hx
set_option maxRecDepth 100000
set_option maxHeartbeats 8000000
/-! Stands and moves, by their forms. -/
namespace Hx
open PySem PySem.Spec PyProof.Rows L2
abbrev sIsFrom : Stmt := top 23
abbrev sIsTupleOf : Stmt := top 24
abbrev sIsStand : Stmt := top 25
abbrev sIsDeed : Stmt := top 26
abbrev sIsMove : Stmt := top 27
theorem ty_tup {K : PySem.W.Frag} {H : Hp} {a : Addr} {xs : List V} (h : SqT K H a xs) : TyX K H (.ref a) (.type "tuple") := by
  rcases h with (h | ⟨o, h⟩) | h
  · exact .base (.tup h)
  · exact .fTuple h
  · obtain ⟨o, its, n, e, c, _⟩ := h
    exact .kTuple e c
/-- what the forms and stands ask of the module's names -/
structure FTxt (K : PySem.W.Frag) (mg : Str → Option Value) : Prop where
  isi : mg "isinstance" = none
  int : mg "int" = none
  bool : mg "bool" = none
  tup : mg "tuple" = none
  len : mg "len" = none
  all : mg "all" = none
  zip : mg "zip" = none
  list : mg "list" = none
section
variable {P : Program} {w : World} {K : PySem.W.Frag} {mg : Str → Option Value} {base : Heap}
def spFrom : Sp := fun vs H Q _ => ∃ (v lo hi : Int), vs = [.int v, .int lo, .int hi] ∧ Q (.bl (decide (lo ≤ v) && decide (v < hi))) H
theorem scFrom : FnScope ["value", "low", "limit"] ["value", "low", "limit"] (defScope sIsFrom) := ⟨rfl, rfl, rfl, by decide +kernel, rfl, by decide +kernel, by decide +kernel⟩
theorem ok_from {f : Addr} {fd : FuncData} (F : Fun K "is_from" "is_from" sIsFrom f fd) (T : FTxt K mg) : FnOk P w K mg base CX0 1 f fd ["value", "low", "limit"] spFrom := by
  refine F.ok scFrom (fun vs H Q E h => ?_) (fun cdv A outer s H vs Q E hr h => ?_)
  · obtain ⟨v, lo, hi, rfl, _⟩ := h
    rfl
  obtain ⟨v, lo, hi, rfl, k⟩ := h
  refine ⟨_, pss_one (ps_ret (pe_and (pe_callB call_isi rfl T.isi PyProof.Rows.boot_isinstance (pa_cons (pv 0) (pa_cons (pe_bltn (v := .ty "int") rfl T.int PyProof.Rows.Boot.«int» rfl) pa_nil)))
    (pe_and (pe_not (pe_callB call_isi rfl T.isi PyProof.Rows.boot_isinstance (pa_cons (pv 0) (pa_cons (pe_bltn (v := .ty "bool") rfl T.bool PyProof.Rows.Boot.«bool» rfl) pa_nil))))
    (pe_one (pe_chain op_le op_lt (pv 1) (pv 0) (pv 2)))))), ?_⟩
  refine ⟨_, rfl, _, _, _, _, true, rfl, .ty _, .base (.int _), kit_ty (by decide +kernel), _, rfl, iteT ?_⟩
  refine ⟨_, rfl, _, _, _, _, false, rfl, .ty _, .base (.int _), kit_ty (by decide +kernel), _, rfl, _, rfl, iteT ?_⟩
  refine ⟨_, rfl, _, rfl, _, _, rfl, rfl, _, rfl, ?_⟩
  by_cases h1 : lo ≤ v
  · rw [decide_eq_true h1] at k ⊢
    rw [Bool.true_and] at k
    exact iteT ⟨_, rfl, _, _, rfl, rfl, k⟩
  · rw [decide_eq_false h1] at k ⊢
    rw [Bool.false_and] at k
    exact iteF k
def spTupOf (K : PySem.W.Frag) : Sp := fun vs H Q _ => ∃ (a : Addr) (xs : List V) (n : Int), vs = [.ref a, .int n] ∧ SqT K H a xs ∧ Q (.bl (decide ((xs.length : Int) = n))) H
theorem scTupOf : FnScope ["value", "many"] ["value", "many"] (defScope sIsTupleOf) := ⟨rfl, rfl, rfl, by decide +kernel, rfl, by decide +kernel, by decide +kernel⟩
theorem ok_tupOf {f : Addr} {fd : FuncData} (F : Fun K "is_tuple_of" "is_tuple_of" sIsTupleOf f fd) (T : FTxt K mg) : FnOk P w K mg base CX0 1 f fd ["value", "many"] (spTupOf K) := by
  refine F.ok scTupOf (fun vs H Q E h => ?_) (fun cdv A outer s H vs Q E hr h => ?_)
  · obtain ⟨a, xs, n, rfl, _⟩ := h
    rfl
  obtain ⟨a, xs, n, rfl, ha, k⟩ := h
  refine ⟨_, pss_one (ps_ret (pe_and (pe_callB call_isi rfl T.isi PyProof.Rows.boot_isinstance (pa_cons (pv 0) (pa_cons (pe_bltn (v := .ty "tuple") rfl T.tup PyProof.Rows.Boot.«tuple» rfl) pa_nil)))
    (pe_one (pe_cmpR op_eq (pe_callB call_len_seq rfl T.len PySem.boot_len (pa_cons (pv 0) pa_nil)) (pv 1) (nomark _))))), ?_⟩
  refine ⟨_, rfl, _, _, _, _, true, rfl, .ty _, ty_tup ha, kit_ty (by decide +kernel), _, rfl, iteT ?_⟩
  refine ⟨_, rfl, a, xs, rfl, .inr ha, _, rfl, rfl, ?_⟩
  have e : decide (V.int (xs.length : Nat) = V.int n) = decide ((xs.length : Int) = n) := by
    by_cases z : (xs.length : Int) = n
    · rw [decide_eq_true z]
      exact decide_eq_true (by rw [z])
    · rw [decide_eq_false z]
      exact decide_eq_false fun q => z (V.int.inj q)
  rw [e]
  exact k
end
end Hx
set_option maxRecDepth 100000
set_option maxHeartbeats 8000000
/-! What a deed's tests say of worths; what comes from a source. -/
namespace Hx
open PySem PySem.Spec PyProof.Rows L2
abbrev sWorked : Stmt := top 12
abbrev sFirst : Stmt := top 29
abbrev sHolds : Stmt := top 30
abbrev sPossible : Stmt := top 31
def testB (ws : List Int) (t : TestD) : Bool := decide (ws.getD t.j 0 = t.v) == t.same
def holdsB (ts : List TestD) (ws : List Int) : Bool := (ts.map (testB ws)).all id
theorem set3 {σ : L2.St} {i j k : Nat} {x y z : V} : wipe ((((wipe σ [i, j, k]).set i (some x)).set j (some y)).set k (some z)) [i, j, k] = wipe σ [i, j, k] := by
  refine wipe_of (fun m hm => ?_) (by simp [wipe_length])
  have h1 : i ≠ m := fun z => hm (by rw [← z]; simp)
  have h2 : j ≠ m := fun z => hm (by rw [← z]; simp)
  have h3 : k ≠ m := fun z => hm (by rw [← z]; simp)
  rw [List.getElem?_set_ne h3, List.getElem?_set_ne h2, List.getElem?_set_ne h1, wipe_get, if_neg hm]
theorem int_at {ws : List Int} {j : Nat} (h : j < ws.length) : (ws.map V.int)[j]? = some (.int (ws.getD j 0)) := by
  rw [List.getElem?_map, List.getD_eq_getElem?_getD, List.getElem?_eq_getElem h]
  rfl
section
variable {P : Program} {w : World} {K : PySem.W.Frag} {mg : Str → Option Value} {base : Heap} {C D fI : Addr}
/-! ### holds -/
def spHolds (D : Addr) (K : PySem.W.Frag) : Sp := fun vs H Q _ => ∃ (p aw : Addr) (people : List Str) (ks : List KindD) (d : DeedD) (N : Addr → Prop) (ws : List Int), vs = [.ref p, .ref aw] ∧ DeedAt K D H p people ks d N ∧ SqT K H aw (ws.map V.int) ∧ (∀ t ∈ d.ts, t.j < ws.length) ∧ d.ts.length ≤ 2 ∧
  ∀ H', Same H H' → Q (.bl (holdsB d.ts ws)) H'
theorem scHolds : FnScope ["deed", "worths", "place", "same", "worth"] ["deed", "worths"] (defScope sHolds) := ⟨rfl, rfl, rfl, by decide +kernel, rfl, by decide +kernel, by decide +kernel⟩
theorem ok_holds {f : Addr} {fd : FuncData} (F : Fun K "holds" "holds" sHolds f fd) (T : FTxt K mg) (DT : DTxt K mg D fI) : FnOk P w K mg base CX0 1 f fd ["deed", "worths"] (spHolds D K) := by
  refine F.ok scHolds (fun vs H Q E h => ?_) (fun cdv A outer s H vs Q E hr h => ?_)
  · obtain ⟨p, aw, people, ks, d, N, ws, rfl, _⟩ := h
    rfl
  obtain ⟨p, aw, people, ks, d, N, ws, rfl, da, hw, hj, t2, k⟩ := h
  have nd := scHolds.nd
  refine ⟨_, pss_one (ps_ret (pe_callB (cr_all rfl) rfl T.all PyProof.Rows.boot_all (pa_cons
    (pe_lc (own := [("place", 2), ("same", 3), ("worth", 4)]) (g := gTup K 3 (gCons (gName 2) (gCons (gName 3) (gCons (gName 4) gNil)))) (tt := tYes) rfl nd (pi_list (pe_fld (pv 0) rfl)) (blkOk_by (N := ["deed", "worths", "place", "same", "worth"]) (sc := defScope sHolds) (by decide +kernel))
      (fun _ _ _ _ _ => pg_tupK K (pgs_cons (pg_name (i := 2) nd rfl (Or.inl rfl)) (pgs_cons (pg_name (i := 3) nd rfl (Or.inl rfl)) (pgs_cons (pg_name (i := 4) nd rfl (Or.inl rfl)) pgs_nil)))) (fun _ _ _ _ _ => pts_nil)
      (fun _ _ _ _ _ => pe_cmpR op_eq (pe_cmpR op_eq (pe_ix (ix_tupK K) (pv 1) (pv 2) (fun _ _ => rfl)) (pv 4) (nomark _)) (pv 3) (nomark _))) pa_nil))), ?_⟩
  obtain ⟨dx, ab, at_, ach, ar, _, ob, _, ⟨xs, et, tt⟩, _⟩ := da.ex
  have ln := tt.length
  rw [List.length_map] at ln
  refine ⟨_, rfl, p, D, dx, _, _, rfl, ob, DT.cl, DT.nT, rfl, at_, rfl, ⟨_, SqL.of et⟩, fun G hG => lc_list (xs := xs) (fun i H' => Same H H' ∧ H' G = some (.lst (((d.ts.take i).map (testB ws)).map V.bl))) ⟨same_new hG _, upd_same⟩ (fun i H' _ z => SqL.of (z.1 _ _ et)) ?_ ?_⟩
  · rintro i x H' hi ⟨sm, eG⟩
    obtain ⟨q, eq_, tq⟩ := tt.get hi
    rw [List.getElem?_map] at eq_
    obtain ⟨t, et', rfl⟩ : ∃ t, d.ts[i]? = some t ∧ q = t.d := by
      cases e : d.ts[i]? with
      | none =>
        rw [e] at eq_
        cases eq_
      | some t =>
        rw [e] at eq_
        exact ⟨t, rfl, (Option.some.inj eq_).symm⟩
    obtain ⟨a, ys, rfl, ha, hy⟩ := tp_tup (tq.same sm)
    cases hy with
    | cons g0 g1 =>
    cases g1 with
    | cons g1 g2 =>
    cases g2 with
    | cons g2 g3 =>
    cases g3
    have e0 := tp_int g0
    subst e0
    have e2 := tp_int g2
    subst e2
    cases g1
    have hlt := hj t (List.mem_of_getElem? et')
    refine ⟨a, _, rfl, ha, rfl, _, _, rfl, _, _, rfl, _, _, rfl, rfl, set3, yes ?_⟩
    refine ⟨_, rfl, _, rfl, aw, _, _, _, rfl, rfl, same_sqt sm hw, atI_nat (int_at hlt), _, rfl, rfl, _, rfl, rfl, _, eG, ?_, same_grow hG sm, ?_⟩
    · rw [List.length_map, List.length_map, List.length_take]
      exact small1000 (by omega)
    · have e5 : decide (V.bl (decide (V.int (ws.getD t.j 0) = V.int t.v)) = V.bl t.same) = testB ws t := by
        unfold testB
        by_cases z : ws.getD t.j 0 = t.v
        · rw [decide_eq_true z, decide_eq_true (show V.int (ws.getD t.j 0) = V.int t.v by rw [z])]
          cases t.same <;> rfl
        · rw [decide_eq_false z, decide_eq_false (fun q => z (V.int.inj q))]
          cases t.same <;> rfl
      show upd H' G (.lst (((d.ts.take i).map (testB ws)).map V.bl ++ [V.bl (decide (V.bl (decide (V.int (ws.getD t.j 0) = V.int t.v)) = V.bl t.same))])) G = _
      rw [upd_same, e5, List.take_add_one, et', List.map_append, List.map_append]
      rfl
  · rintro H' ⟨sm, eG⟩
    rw [ln, List.take_length] at eG
    exact ⟨G, _, rfl, SqL.of eG, k H' sm⟩
/-! ### worked_out -/
def Src.out (ws : List Int) (who : Str) (it : Int) : Src → PyData
  | .it => .int it
  | .cell j => .int (ws.getD j 0)
  | .who => .str who
  | .num v => .int v
  | .person x => .str x
def Src.inn (ws : List Int) : Src → Prop
  | .cell j => j < ws.length
  | _ => True
def spWork (K : PySem.W.Frag) : Sp := fun vs H Q _ => ∃ (v : V) (aw : Addr) (s : Src) (ws : List Int) (who : Str) (it : Int), vs = [v, .ref aw, .str who, .int it] ∧ Tp K H v s.d ∧ (SqT K H aw (ws.map V.int) ∨ SqL K H aw (ws.map V.int)) ∧ s.inn ws ∧ ∀ u, Tp K H u (s.out ws who it) → Q u H
theorem scWork : FnScope ["source", "worths", "who", "it", "word", "what"] ["source", "worths", "who", "it"] (defScope sWorked) := ⟨rfl, rfl, rfl, by decide +kernel, rfl, by decide +kernel, by decide +kernel⟩
theorem ok_work {f : Addr} {fd : FuncData} (F : Fun K "worked_out" "worked_out" sWorked f fd) : FnOk P w K mg base CX0 1 f fd ["source", "worths", "who", "it"] (spWork K) := by
  refine F.ok scWork (fun vs H Q E h => ?_) (fun cdv A outer s H vs Q E hr h => ?_)
  · obtain ⟨v, aw, s, ws, who, it, rfl, _⟩ := h
    rfl
  obtain ⟨v, aw, s, ws, who, it, rfl, tv, hw, hin, k⟩ := h
  have nd := scWork.nd
  refine ⟨_, pss_cons (ps_asg (pv 0) (pg_tup rfl (pgs_cons (pg_name (i := 4) nd rfl (.inl rfl)) (pgs_cons (pg_name (i := 5) nd rfl (.inl rfl)) pgs_nil))))
    (pss_cons (ps_if (pt_cmpR op_eq (pv 4) pe_str (nomark _)) (pss_one (ps_ret (pe_ix ix_seq (pv 1) (pv 5) (fun _ _ => rfl)))) pss_nil)
    (pss_cons (ps_if (pt_cmpR op_eq (pv 4) pe_str (nomark _)) (pss_one (ps_ret (pv 3))) pss_nil)
    (pss_cons (ps_if (pt_cmpR op_eq (pv 4) pe_str (nomark _)) (pss_one (ps_ret (pv 2))) pss_nil)
    (pss_one (ps_ret (pv 5)))))), ?_⟩
  obtain ⟨z1, z2, z3, e⟩ : ∃ (a : Addr) (x : Str) (u : V), v = .ref a ∧ SqT K H a [.str x, u] ∧ ((x = "cell" ∧ ∃ j, s = .cell j ∧ u = .int (j : Nat)) ∨ (x = "it" ∧ s = .it) ∨ (x = "who" ∧ s = .who) ∨ (x = "plain" ∧ Tp K H u (s.out ws who it))) := by
    cases s <;> obtain ⟨a, ys, rfl, ha, hy⟩ := tp_tup tv <;> cases hy <;> rename_i g0 g1 <;> cases g1 <;> rename_i g1 g2 <;> cases g2 <;> have e0 := tp_str g0 <;> subst e0
    · exact ⟨a, _, _, rfl, ha, .inr (.inl ⟨rfl, rfl⟩)⟩
    · have e1 := tp_int g1
      subst e1
      exact ⟨a, _, _, rfl, ha, .inl ⟨rfl, _, rfl, rfl⟩⟩
    · exact ⟨a, _, _, rfl, ha, .inr (.inr (.inl ⟨rfl, rfl⟩))⟩
    · exact ⟨a, _, _, rfl, ha, .inr (.inr (.inr ⟨rfl, g1⟩))⟩
    · exact ⟨a, _, _, rfl, ha, .inr (.inr (.inr ⟨rfl, g1⟩))⟩
  obtain ⟨rfl, ha, e⟩ := e
  refine ⟨_, rfl, z1, _, rfl, ha, rfl, _, _, rfl, _, _, rfl, rfl, ?_⟩
  refine ⟨_, rfl, rfl, _, rfl, ?_⟩
  rcases e with ⟨rfl, j, rfl, rfl⟩ | ⟨rfl, rfl⟩ | ⟨rfl, rfl⟩ | ⟨rfl, tu⟩
  · have e : decide (V.str "cell" = V.str "cell") = true := decide_eq_true rfl
    rw [e]
    refine iteT ⟨_, rfl, _, rfl, ?_⟩
    have hj : j < ws.length := hin
    rcases hw with hw | hw
    · exact .inr (.inl ⟨aw, _, _, _, rfl, rfl, hw, atI_nat (int_at hj), k _ (.int _)⟩)
    · exact .inl ⟨aw, _, _, _, rfl, rfl, hw, atI_nat (int_at hj), k _ (.int _)⟩
  · have e : decide (V.str "it" = V.str "cell") = false := by decide +kernel
    have e' : decide (V.str "it" = V.str "it") = true := decide_eq_true rfl
    rw [e]
    refine iteF ⟨_, rfl, rfl, _, rfl, ?_⟩
    rw [e']
    exact iteT ⟨_, rfl, k _ (.int _)⟩
  · have e : decide (V.str "who" = V.str "cell") = false := by decide +kernel
    have e' : decide (V.str "who" = V.str "it") = false := by decide +kernel
    have e2 : decide (V.str "who" = V.str "who") = true := decide_eq_true rfl
    rw [e]
    refine iteF ⟨_, rfl, rfl, _, rfl, ?_⟩
    rw [e']
    refine iteF ⟨_, rfl, rfl, _, rfl, ?_⟩
    rw [e2]
    exact iteT ⟨_, rfl, k _ (.str _)⟩
  · have e : decide (V.str "plain" = V.str "cell") = false := by decide +kernel
    have e' : decide (V.str "plain" = V.str "it") = false := by decide +kernel
    have e2 : decide (V.str "plain" = V.str "who") = false := by decide +kernel
    rw [e]
    refine iteF ⟨_, rfl, rfl, _, rfl, ?_⟩
    rw [e']
    refine iteF ⟨_, rfl, rfl, _, rfl, ?_⟩
    rw [e2]
    exact iteF ⟨_, rfl, k _ tu⟩
end
end Hx
set_option maxRecDepth 100000
set_option maxHeartbeats 8000000
/-! Stands and moves of a house. -/
namespace Hx
open PySem PySem.Spec PyProof.Rows L2
theorem HouseAt.same {K : PySem.W.Frag} {D E : Addr} {H H' : Hp} {p : Addr} {t : Str} {h : HouseD} (s : Same H H') (a : HouseAt K D E H p t h) : HouseAt K D E H' p t h := by
  obtain ⟨dx, ap, ac, ak, ad, as_, ao, ps, qs, ob, pp, tc, tk, td, es, dd, ro, ra, pm, pw⟩ := a.ex
  exact ⟨dx, ap, ac, ak, ad, as_, ao, ps, qs, s _ _ ob, same_sqt s pp, tc.same s, tk.same s, td.same s, s _ _ es, dd.map fun _ _ _ z => z.same s, same_sqt s ro, fun q hq => same_sqt s (ra q hq), pm, pw⟩
def standD (ws : List Int) (t : Int) : PyData := .tuple [.tuple (ws.map PyData.int), .int t]
inductive MoveD where
  | night | act (x who : Str) (it : Int)
def MoveD.d : MoveD → PyData
  | .night => .tuple [.str "night"]
  | .act x who it => .tuple [.str "do", .str x, .str who, .int it]
theorem tpa_ints {K : PySem.W.Frag} {H : Hp} : ∀ {vs : List V} {xs : List Int}, TpAll K H vs (xs.map PyData.int) → vs = xs.map V.int
  | _, [], .nil => rfl
  | _, _ :: _, .cons a r => by rw [tp_int a, tpa_ints r]; rfl
theorem tpa_of_ints {K : PySem.W.Frag} {H : Hp} : ∀ xs : List Int, TpAll K H (xs.map V.int) (xs.map PyData.int)
  | [] => .nil
  | x :: r => .cons (.int x) (tpa_of_ints r)
theorem name_str {x : Str} (h : nameB x = true) : PyData.strOk x = true := by
  obtain ⟨_, _, hc⟩ := name_is h
  unfold PyData.strOk
  rw [← Array.all_toList, List.all_eq_true]
  intro c hm
  have := hc c hm
  exact decide_eq_true (by omega)
theorem shaped_night : SeqAt.shaped MoveD.night.d = true := by decide +kernel
theorem shaped_act {x who : Str} (it : Int) (h1 : PyData.strOk x = true) (h2 : PyData.strOk who = true) : SeqAt.shaped (MoveD.act x who it).d = true := by
  have e : PyData.strOk "do" = true := by decide +kernel
  simp [SeqAt.shaped, MoveD.d, PyData.canLay0, PyData.canLayAll0, PyData.depth, PyData.depthAll, h1, h2, e]
/-- what the module's NIGHT is, what the names of a house are -/
structure STxt (K : PySem.W.Frag) (mg : Str → Option Value) (E : Addr) : Prop where
  F : FTxt K mg
  night : ∃ aN, mg "NIGHT" = some (.ref aN) ∧ ∀ H, SqT K H aN [.str "night"]
  tuple : mg "tuple" = none
  cl : L2.Cls K E
  n2 : NoAttr K E "people"
  n3 : NoAttr K E "cells"
  n5 : NoAttr K E "deeds"
  n6 : NoAttr K E "scripts"
  n7 : NoAttr K E "doings"
  n8 : NoAttr K E "day"
theorem walk_zipT {K : PySem.W.Frag} {a b : Addr} {xs ys : List V} {n : Nat} (h1 : xs.length = n) (h2 : ys.length = n) : Walk (RZ.ItzT K a b) n (fun H => SqT K H a xs ∧ SqT K H b ys) (YPair (fun i => xs[i]?) (fun i => ys[i]?)) :=
  ⟨fun i H hi ⟨q1, q2⟩ => ⟨xs, ys, xs[i]'(by omega), ys[i]'(by omega), q1, q2, List.getElem?_eq_getElem _, List.getElem?_eq_getElem _⟩, fun H ⟨q1, q2⟩ => ⟨xs, ys, q1, q2, .inl (by omega)⟩,
    fun i H x H' _ ⟨q1, q2⟩ ⟨T, u, v, e1, e2, e3, f1, f2⟩ => ⟨T, u, v, e1, e2, e3, f1 xs q1, f2 ys q2⟩⟩
theorem tp_night {K : PySem.W.Frag} {H : Hp} {a : Addr} (h : SqT K H a [.str "night"]) : Tp K H (.ref a) MoveD.night.d := .tup h (.cons (.str _) .nil)
section
variable {P : Program} {w : World} {K : PySem.W.Frag} {mg : Str → Option Value} {base : Heap} {D E fI : Addr}
/-! ### first_stand -/
def spFirst (D E : Addr) (K : PySem.W.Frag) : Sp := fun vs H Q _ => ∃ (p : Addr) (t : Str) (h : HouseD), vs = [.ref p] ∧ HouseAt K D E H p t h ∧ h.cs.length ≤ 3 ∧ ∀ v H', Same H H' → Tp K H' v (standD (h.cs.map (·.i)) 0) → Q v H'
theorem scFirst : FnScope ["house", "_", "first"] ["house"] (defScope sFirst) := ⟨rfl, rfl, rfl, by decide +kernel, rfl, by decide +kernel, by decide +kernel⟩
theorem set3' {σ : L2.St} {i j : Nat} {x y z : V} : wipe ((((wipe σ [i, j]).set i (some x)).set i (some y)).set j (some z)) [i, j] = wipe σ [i, j] := by
  refine wipe_of (fun m hm => ?_) (by simp [wipe_length])
  have h1 : i ≠ m := fun z => hm (by rw [← z]; simp)
  have h2 : j ≠ m := fun z => hm (by rw [← z]; simp)
  rw [List.getElem?_set_ne h2, List.getElem?_set_ne h1, List.getElem?_set_ne h1, wipe_get, if_neg hm]
theorem ok_first {f : Addr} {fd : FuncData} (F : Fun K "first_stand" "first_stand" sFirst f fd) (T : STxt K mg E) : FnOk P w K mg base CX0 1 f fd ["house"] (spFirst D E K) := by
  refine F.ok scFirst (fun vs H Q E h => ?_) (fun cdv A outer s H vs Q Ex hr h => ?_)
  · obtain ⟨p, t, h, rfl, _⟩ := h
    rfl
  obtain ⟨p, t, h, rfl, ha, c3, k⟩ := h
  have nd := scFirst.nd
  refine ⟨_, pss_one (ps_ret (pe_tup (pa_cons (pe_callTy call_tuple_of rfl T.tuple PyProof.Rows.Boot.«tuple» (pa_cons
    (pe_lc (own := [("_", 1), ("first", 2)]) (g := gTup K 3 (gCons (gName 1) (gCons (gName 1) (gCons (gName 2) gNil)))) (tt := tYes) rfl nd (pi_tup (pe_fld (pv 0) rfl)) (blkOk_by (N := ["house", "_", "first"]) (sc := defScope sFirst) (by decide +kernel))
      (fun _ _ _ _ _ => pg_tupK K (pgs_cons (pg_name (i := 1) nd rfl (Or.inl rfl)) (pgs_cons (pg_name (i := 1) nd rfl (Or.inl rfl)) (pgs_cons (pg_name (i := 2) nd rfl (Or.inl rfl)) pgs_nil)))) (fun _ _ _ _ _ => pts_nil)
      (fun _ _ _ _ _ => pv 2)) pa_nil)) (pa_cons pe_int pa_nil)))), ?_⟩
  obtain ⟨dx, ap, ac, ak, ad, as_, ao, ps, qs, ob, pp, tc, _⟩ := ha.ex
  obtain ⟨xs, hs, ht⟩ := sqt_refs tc
  have ln : xs.length = h.cs.length := by rw [ht.length, List.length_map]
  refine ⟨_, rfl, p, E, dx, _, _, rfl, ob, T.cl, T.n3, rfl, ac, rfl, ⟨_, hs⟩, fun G hG => lc_tup (xs := xs) (fun i H' => Same H H' ∧ H' G = some (.lst (((h.cs.take i).map (·.i)).map V.int))) ⟨same_new hG _, upd_same⟩ (fun i H' _ z => same_sqt z.1 hs) ?_ ?_⟩
  · rintro i x H' hi ⟨sm, eG⟩
    obtain ⟨q, eq_, tq⟩ := ht.get hi
    rw [List.getElem?_map] at eq_
    obtain ⟨c, ec, rfl⟩ : ∃ c, h.cs[i]? = some c ∧ q = c.d := by
      cases e : h.cs[i]? with
      | none =>
        rw [e] at eq_
        cases eq_
      | some t =>
        rw [e] at eq_
        exact ⟨t, rfl, (Option.some.inj eq_).symm⟩
    obtain ⟨a, ys, rfl, hya, hy⟩ := tp_tup (tq.same sm)
    cases hy with
    | cons g0 g1 =>
    cases g1 with
    | cons g1 g2 =>
    cases g2 with
    | cons g2 g3 =>
    cases g3
    have e2 := tp_int g2
    subst e2
    refine ⟨a, _, rfl, hya, rfl, _, _, rfl, _, _, rfl, _, _, rfl, rfl, set3', yes ?_⟩
    refine ⟨_, rfl, _, eG, ?_, same_grow hG sm, ?_⟩
    · rw [List.length_map, List.length_map, List.length_take]
      exact small1000 (by omega)
    · rw [upd_same, List.take_add_one, ec, List.map_append, List.map_append]
      rfl
  · rintro H' ⟨sm, eG⟩
    rw [ln, List.take_length] at eG
    refine ⟨G, _, rfl, .inl ⟨SqL.of eG, fun r hr' => ?_⟩⟩
    have s1 := same_new hr' (.tup ((h.cs.map (·.i)).map V.int))
    refine ⟨sz (by decide : 2 ≤ 1000), fun u hu => ?_⟩
    have s2 := same_new hu (.tup [.ref r, .int 0])
    exact k _ _ (sm.trans (s1.trans s2)) (.tup (SqT.of upd_same) (.cons (.tup (same_sqt s2 (SqT.of upd_same)) (tpa_of_ints _)) (.cons (.int _) .nil)))
/-! ### is_stand -/
/-- worths that fit the cells -/
def Fits (cs : List CellD) (ws : List Int) : Prop := ws.length = cs.length ∧ ∀ (j : Nat) (c : CellD), cs[j]? = some c → 0 ≤ ws.getD j 0 ∧ ws.getD j 0 < c.z
def spStand (D E : Addr) (K : PySem.W.Frag) : Sp := fun vs H Q _ => ∃ (p : Addr) (t : Str) (h : HouseD) (v : V) (ws : List Int) (n : Int), vs = [.ref p, v] ∧ HouseAt K D E H p t h ∧ h.cs.length ≤ 3 ∧ Tp K H v (standD ws n) ∧ Fits h.cs ws ∧ 0 ≤ n ∧ n ≤ h.day ∧ ∀ H', Same H H' → Q (.bl true) H'
theorem scStand : FnScope ["house", "value", "fits", "worth", "_", "size"] ["house", "value"] (defScope sIsStand) := ⟨rfl, rfl, rfl, by decide +kernel, rfl, by decide +kernel, by decide +kernel⟩
theorem ok_stand {f : Addr} {fd : FuncData} (F : Fun K "is_stand" "is_stand" sIsStand f fd) (T : STxt K mg E) (GF : DefOk P w K mg base "is_from" 1 ["value", "low", "limit"] spFrom) (GT : DefOk P w K mg base "is_tuple_of" 1 ["value", "many"] (spTupOf K)) :
    FnOk P w K mg base CX0 2 f fd ["house", "value"] (spStand D E K) := by
  refine F.ok scStand (fun vs H Q E h => ?_) (fun cdv A outer s H vs Q Ex hr h => ?_)
  · obtain ⟨p, t, h, v, ws, n, rfl, _⟩ := h
    rfl
  obtain ⟨p, t, h, v, ws, n, rfl, ha, c3, tv, ⟨fl, fj⟩, n0, n1, k⟩ := h
  have nd := scStand.nd
  refine ⟨_, pss_cons (ps_if (PW.pt (pw_or (pt_not (pt_val (pe_D GT hr rfl (pa_cons (pv 1) (pa_cons pe_int pa_nil))))) (pw_or1 (pt_not (pt_val (pe_D GT hr rfl (pa_cons (pe_ix ix_tup (pv 1) pe_int (fun _ _ => rfl)) (pa_cons (pe_callB call_len_seq rfl T.F.len PySem.boot_len (pa_cons (pe_fld (pv 0) rfl) pa_nil)) pa_nil)))))))) pss_never pss_nil)
    (pss_cons (ps_setLc (i := 2) (own := [("worth", 3), ("_", 4), ("size", 5)]) (g := gTup K 2 (gCons (gName 3) (gCons (gTup K 3 (gCons (gName 4) (gCons (gName 5) (gCons (gName 4) gNil)))) gNil))) (tt := tYes) rfl nd rfl rfl (sw_true rfl rfl rfl (by decide +kernel))
      (RZ.pi_zipA rfl T.F.zip (pa_cons (pe_ix ix_tup (pv 1) pe_int (fun _ _ => rfl)) (pa_cons (pe_fld (pv 0) rfl) pa_nil))) (blkOk_by (N := ["house", "value", "fits", "worth", "_", "size"]) (sc := defScope sIsStand) (by decide +kernel))
      (fun _ _ _ _ _ => pg_tupK K (pgs_cons (pg_name (i := 3) nd rfl (Or.inl rfl)) (pgs_cons (pg_tupK K (pgs_cons (pg_name (i := 4) nd rfl (Or.inl rfl)) (pgs_cons (pg_name (i := 5) nd rfl (Or.inl rfl)) (pgs_cons (pg_name (i := 4) nd rfl (Or.inl rfl)) pgs_nil)))) pgs_nil))) (fun _ _ _ _ _ => pts_nil)
      (fun _ _ _ _ _ => pe_D GF hr rfl (pa_cons (pv 3) (pa_cons pe_int (pa_cons (pv 5) pa_nil)))))
    (pss_one (ps_ret (pe_and (pe_callB (cr_all rfl) rfl T.F.all PyProof.Rows.boot_all (pa_cons (pv 2) pa_nil)) (pe_one (pe_D GF hr rfl (pa_cons (pe_ix ix_tup (pv 1) pe_int (fun _ _ => rfl)) (pa_cons pe_int (pa_cons (pe_op op_add (pe_fld (pv 0) rfl) pe_int) pa_nil))))))))), ?_⟩
  obtain ⟨dx, ap, ac, ak, ad, as_, ao, ps, qs, ob, pp, tc, _⟩ := ha.ex
  obtain ⟨xs, hs, ht⟩ := sqt_refs tc
  have ln : xs.length = h.cs.length := by rw [ht.length, List.length_map]
  obtain ⟨va, vys, rfl, hva, hvy⟩ := tp_tup tv
  cases hvy with
  | cons g0 g1 =>
  cases g1 with
  | cons g1 g2 =>
  cases g2
  have e1 := tp_int g1
  subst e1
  obtain ⟨wa, wys, rfl, hwa, hwy⟩ := tp_tup g0
  have ew := tpa_ints hwy
  subst ew
  refine ⟨_, rfl, va, _, 2, rfl, hva, _, rfl, ?_⟩
  refine iteF ?_
  refine ⟨_, rfl, va, _, 0, _, rfl, rfl, hva, rfl, _, rfl, p, E, dx, _, _, rfl, ob, T.cl, T.n3, rfl, ac, _, rfl, .inr hs, wa, _, _, rfl, hwa, _, rfl, ?_⟩
  have e2 : decide (((ws.map V.int).length : Int) = (xs.length : Nat)) = true := decide_eq_true (by rw [List.length_map, fl, ln])
  rw [e2]
  refine iteF ?_
  unfold tNext
  dsimp only
  refine seq_asg ?_
  refine ⟨_, rfl, va, _, 0, _, rfl, rfl, hva, rfl, _, rfl, p, E, dx, _, _, rfl, ob, T.cl, T.n3, rfl, wa, ac, ws.map V.int, xs, rfl, .inr ⟨hwa, hs, ?_⟩⟩
  intro G hG
  refine lc_it (walk_zipT (xs := ws.map V.int) (ys := xs) (n := h.cs.length) (by rw [List.length_map, fl]) ln) (fun i H' => Same H H' ∧ H' G = some (.lst ((List.replicate i true).map V.bl))) ⟨same_new hG _, upd_same⟩ (fun i H' _ z => ⟨same_sqt z.1 hwa, same_sqt z.1 hs⟩) ?_ ?_
  · rintro i x H1 H2 hi ⟨sm, eG⟩ ⟨T', u, v, rfl, hT, rfl, eu, ev⟩
    have hij : i < ws.length := by omega
    have eu' : some (V.int (ws.getD i 0)) = some u := (int_at hij).symm.trans eu
    cases eu'
    have sT := same_new hT (.tup [.int (ws.getD i 0), v])
    obtain ⟨q, eq_, tq⟩ := ht.get ev
    rw [List.getElem?_map] at eq_
    obtain ⟨c, ec, rfl⟩ : ∃ c, h.cs[i]? = some c ∧ q = c.d := by
      cases e : h.cs[i]? with
      | none =>
        rw [e] at eq_
        cases eq_
      | some t =>
        rw [e] at eq_
        exact ⟨t, rfl, (Option.some.inj eq_).symm⟩
    obtain ⟨a, ys, rfl, hya, hy⟩ := tp_tup ((tq.same sm).same sT)
    cases hy with
    | cons g0 g1 =>
    cases g1 with
    | cons g1 g2 =>
    cases g2 with
    | cons g2 g3 =>
    cases g3
    have e1 := tp_int g1
    subst e1
    obtain ⟨w1, w2⟩ := fj i c ec
    refine ⟨T', _, rfl, SqT.of upd_same, rfl, _, _, rfl, _, _, rfl, a, _, rfl, hya, rfl, _, _, rfl, _, _, rfl, _, _, rfl, rfl, rfl, ?_, yes ?_⟩
    · refine wipe_of (fun m hm => ?_) (by simp [wipe_length])
      have h1 : 3 ≠ m := fun z => hm (by rw [← z]; simp)
      have h2 : 4 ≠ m := fun z => hm (by rw [← z]; simp)
      have h3 : 5 ≠ m := fun z => hm (by rw [← z]; simp)
      rw [List.getElem?_set_ne h2, List.getElem?_set_ne h3, List.getElem?_set_ne h2, List.getElem?_set_ne h1, wipe_get, if_neg hm]
    · refine ⟨_, rfl, _, rfl, _, _, _, rfl, ?_⟩
      have e9 : (decide (0 ≤ ws.getD i 0) && decide (ws.getD i 0 < c.z)) = true := by rw [decide_eq_true w1, decide_eq_true w2]; rfl
      rw [e9]
      refine ⟨_, sT _ _ eG, ?_, same_grow hG (sm.trans sT), ?_⟩
      · rw [List.length_map, List.length_replicate]
        exact small1000 (by omega)
      · rw [upd_same, List.replicate_succ', List.map_append]
        rfl
  · rintro H1 ⟨sm, eG⟩
    refine ⟨_, rfl, G, _, rfl, SqL.of eG, ?_⟩
    rw [replicate_all]
    refine ⟨_, rfl, iteT ?_⟩
    refine ⟨_, rfl, va, _, 1, _, rfl, rfl, same_sqt sm hva, rfl, _, rfl, p, E, dx, _, _, rfl, sm _ _ ob, T.cl, T.n8, rfl, _, _, rfl, rfl, _, _, _, rfl, ?_⟩
    have e9 : (decide (0 ≤ n) && decide (n < h.day + 1)) = true := by rw [decide_eq_true n0, decide_eq_true (by omega)]; rfl
    rw [e9]
    exact k _ sm
end
end Hx
set_option maxRecDepth 100000
set_option maxHeartbeats 8000000
/-! Moves of a house. -/
namespace Hx
open PySem PySem.Spec PyProof.Rows L2
theorem valV_zip : ∀ {ds : List DeedD} {ps : List Addr} {j : Nat} {d : DeedD} {p : Addr}, (ds.map (·.x)).Nodup → ds[j]? = some d → ps[j]? = some p → valV ((ds.map fun d => (Sum.inr d.x : Key)).zip (ps.map V.ref)) (Sum.inr d.x : Key) = some (.ref p)
  | d0 :: ds, p0 :: ps, 0, d, p, _, e1, e2 => by
    cases e1
    cases e2
    exact valV_pos rfl
  | d0 :: ds, p0 :: ps, j + 1, d, p, nd, e1, e2 => by
    have e1' : ds[j]? = some d := by simpa using e1
    have e2' : ps[j]? = some p := by simpa using e2
    have nd' : d0.x ∉ ds.map (·.x) ∧ (ds.map (·.x)).Nodup := by simpa using nd
    have ne : d0.x ≠ d.x := fun z => nd'.1 (List.mem_map.mpr ⟨d, List.mem_of_getElem? e1', z.symm⟩)
    show valV ((Sum.inr d0.x, V.ref p0) :: _) _ = _
    rw [valV_neg (fun z => ne (Sum.inr.inj z))]
    exact valV_zip nd'.2 e1' e2'
  | [], _, _, _, _, _, e1, _ => by simp at e1
  | _ :: _, [], _, _, _, _, _, e2 => by simp at e2
inductive MayB (h : HouseD) (ws : List Int) (n : Int) : MoveD → Bool → Prop
  | night : MayB h ws n .night true
  | act {j : Nat} {d : DeedD} {who : Str} {it : Int} : h.ds[j]? = some d → PyData.strOk d.x = true → PyData.strOk who = true → (∀ t ∈ d.ts, t.j < ws.length) → d.ts.length ≤ 2 → MayB h ws n (.act d.x who it) (decide (n < h.day) && holdsB d.ts ws)
theorem eq_night : PyData.eqv MoveD.night.d MoveD.night.d = true := by decide +kernel
theorem eq_act (x who : Str) (it : Int) : PyData.eqv (MoveD.act x who it).d MoveD.night.d = false := rfl
section
variable {P : Program} {w : World} {K : PySem.W.Frag} {mg : Str → Option Value} {base : Heap} {D E fI : Addr}
def spPoss (D E : Addr) (K : PySem.W.Frag) : Sp := fun vs H Q _ => ∃ (p : Addr) (t : Str) (h : HouseD) (v u : V) (ws : List Int) (n : Int) (m : MoveD) (b : Bool), vs = [.ref p, v, u] ∧ HouseAt K D E H p t h ∧ (h.ds.map (·.x)).Nodup ∧ Tp K H v (standD ws n) ∧ Tp K H u m.d ∧ MayB h ws n m b ∧
  ∀ H', Same H H' → Q (.bl b) H'
theorem scPoss : FnScope ["house", "stand", "move", "worths", "today"] ["house", "stand", "move"] (defScope sPossible) := ⟨rfl, rfl, rfl, by decide +kernel, rfl, by decide +kernel, by decide +kernel⟩
theorem ok_poss {f : Addr} {fd : FuncData} (F : Fun K "is_possible" "is_possible" sPossible f fd) (T : STxt K mg E) (GH : DefOk P w K mg base "holds" 1 ["deed", "worths"] (spHolds D K)) : FnOk P w K mg base CX0 2 f fd ["house", "stand", "move"] (spPoss D E K) := by
  refine F.ok scPoss (fun vs H Q E h => ?_) (fun cdv A outer s H vs Q Ex hr h => ?_)
  · obtain ⟨p, t, h, v, u, ws, n, m, b, rfl, _⟩ := h
    rfl
  obtain ⟨p, t, h, v, u, ws, n, m, b, rfl, ha, dn, tv, tu, may, k⟩ := h
  have nd := scPoss.nd
  have hu := hr.units
  obtain ⟨aN, mgN, hN⟩ := T.night
  refine ⟨_, pss_cons (ps_asg (pv 1) (pg_tup rfl (pgs_cons (pg_name (i := 3) nd rfl (.inl rfl)) (pgs_cons (pg_name (i := 4) nd rfl (.inl rfl)) pgs_nil))))
    (pss_one (ps_ret (pe_or (pe_cmpR (op_eqD hu) (pv 2) (pe_glob (v := .ref aN) rfl mgN rfl) (nomark _)) (pe_one (pe_and (pe_cmpR op_lt (pv 4) (pe_fld (pv 0) rfl) (nomark _)) (pe_one (pe_D GH hr rfl (pa_cons (pe_dget (hu_of hr) (pe_fld (pv 0) rfl) (pe_ix ix_tup (pv 2) pe_int (fun _ _ => rfl)) (fun _ _ => rfl)) (pa_cons (pv 3) pa_nil)))))))) ), ?_⟩
  obtain ⟨dx, ap, ac, ak, ad, as_, ao, ps, qs, ob, pp, tc, tk, td, es, dd, _⟩ := ha.ex
  obtain ⟨va, vys, rfl, hva, hvy⟩ := tp_tup tv
  cases hvy with
  | cons g0 g1 =>
  cases g1 with
  | cons g1 g2 =>
  cases g2
  have e1 := tp_int g1
  subst e1
  obtain ⟨wa, wys, rfl, hwa, hwy⟩ := tp_tup g0
  have ew := tpa_ints hwy
  subst ew
  refine ⟨_, rfl, va, _, rfl, hva, rfl, _, _, rfl, _, _, rfl, rfl, ?_⟩
  cases may with
  | night =>
    refine ⟨_, rfl, MoveD.night.d, MoveD.night.d, tu.dp, (tp_night (hN _)).dp, shaped_night, shaped_night, _, rfl, ?_⟩
    rw [eq_night]
    exact iteT (k _ (same_refl _))
  | @act j d who it ej s1 s2 tj t2 =>
    refine ⟨_, rfl, (MoveD.act d.x who it).d, MoveD.night.d, tu.dp, (tp_night (hN _)).dp, shaped_act it s1 s2, shaped_night, _, rfl, ?_⟩
    rw [eq_act]
    refine iteF ⟨_, rfl, _, rfl, p, E, dx, _, _, rfl, ob, T.cl, T.n8, rfl, _, _, rfl, rfl, _, rfl, ?_⟩
    by_cases hn : n < h.day
    · rw [decide_eq_true hn] at k ⊢
      rw [Bool.true_and] at k
      refine iteT ?_
      obtain ⟨ua, uys, rfl, hua, huy⟩ := tp_tup tu
      cases huy with
      | cons u0 u1 =>
      cases u1 with
      | cons u1 u2 =>
      have e1 := tp_str u1
      subst e1
      have np : ps.length = h.ds.length := dd.len
      have jl : j < ps.length := by rw [np]; exact (List.getElem?_eq_some_iff.mp ej).1
      have ep : ps[j]? = some ps[j] := List.getElem?_eq_getElem jl
      obtain ⟨d', ed', da, _⟩ := dd.at ep
      rw [ej] at ed'
      cases ed'
      refine ⟨_, rfl, p, E, dx, _, _, rfl, ob, T.cl, T.n6, rfl, _, rfl, ua, _, 1, _, rfl, rfl, hua, atI_nat (j := 1) rfl, as_, .ref ps[j], rfl, ?_, ?_⟩
      · rw [← valV_zip dn ej ep]
        exact DGet.k (k := Sum.inr d.x) es
      · exact ⟨_, rfl, ps[j], wa, h.people, h.ks, d, _, ws, rfl, da, hwa, tj, t2, k⟩
    · rw [decide_eq_false hn] at k ⊢
      rw [Bool.false_and] at k
      exact iteF (k _ (same_refl _))
/-! ### is_deed, is_move -/
def spIsDeed (D E : Addr) (K : PySem.W.Frag) : Sp := fun vs H Q _ => ∃ (p : Addr) (t : Str) (h : HouseD) (v : V) (j : Nat) (d : DeedD) (who : Str) (it : Int), vs = [.ref p, v] ∧ HouseAt K D E H p t h ∧ (h.ds.map (·.x)).Nodup ∧ Tp K H v (MoveD.act d.x who it).d ∧ h.ds[j]? = some d ∧ who ∈ byOf h.people d.by_ ∧ 0 ≤ it ∧ it < d.pick ∧
  ∀ H', Same H H' → Q (.bl true) H'
theorem scIsDeed : FnScope ["house", "value", "name", "by", "pick"] ["house", "value"] (defScope sIsDeed) := ⟨rfl, rfl, rfl, by decide +kernel, rfl, by decide +kernel, by decide +kernel⟩
theorem ok_isDeed {f : Addr} {fd : FuncData} (F : Fun K "is_deed" "is_deed" sIsDeed f fd) (T : STxt K mg E) (GF : DefOk P w K mg base "is_from" 1 ["value", "low", "limit"] spFrom) (GT : DefOk P w K mg base "is_tuple_of" 1 ["value", "many"] (spTupOf K)) :
    FnOk P w K mg base CX0 2 f fd ["house", "value"] (spIsDeed D E K) := by
  refine F.ok scIsDeed (fun vs H Q E h => ?_) (fun cdv A outer s H vs Q Ex hr h => ?_)
  · obtain ⟨p, t, h, v, j, d, who, it, rfl, _⟩ := h
    rfl
  obtain ⟨p, t, h, v, j, d, who, it, rfl, ha, dn, tv, ej, hw, i0, i1, k⟩ := h
  have nd := scIsDeed.nd
  refine ⟨_, pss_cons (ps_if (PW.pt (pw_or (pt_not (pt_val (pe_D GT hr rfl (pa_cons (pv 1) (pa_cons pe_int pa_nil))))) (pw_or1 (pt_cmpR op_ne (pe_ix ix_tup (pv 1) pe_int (fun _ _ => rfl)) pe_str (nomark _))))) pss_never pss_nil)
    (pss_cons (ps_for PassesOwn.never rfl (pi_tup (pe_fld (pv 0) rfl)) (pg_tup rfl (pgs_cons (pg_name (i := 2) nd rfl (.inl rfl)) (pgs_cons (pg_name (i := 3) nd rfl (.inl rfl)) (pgs_cons (pg_name (i := 4) nd rfl (.inl rfl)) pgs_nil))))
      (pss_one (ps_if (pt_cmpR op_eq (pv 2) (pe_ix ix_tup (pv 1) pe_int (fun _ _ => rfl)) (nomark _)) (pss_one (ps_ret (pe_and (pe_cmpR op_in_seq (pe_ix ix_tup (pv 1) pe_int (fun _ _ => rfl)) (pv 3) (by rfl)) (pe_one (pe_D GF hr rfl (pa_cons (pe_ix ix_tup (pv 1) pe_int (fun _ _ => rfl)) (pa_cons pe_int (pa_cons (pv 4) pa_nil)))))))) pss_nil)))
    pss_never), ?_⟩
  obtain ⟨dx, ap, ac, ak, ad, as_, ao, ps, qs, ob, pp, tc, tk, td, es, dd, _⟩ := ha.ex
  obtain ⟨txs, hsd, hds⟩ := sqt_refs td
  obtain ⟨va, vys, rfl, hva, hvy⟩ := tp_tup tv
  cases hvy with
  | cons g0 g1 =>
  cases g1 with
  | cons g1 g2 =>
  cases g2 with
  | cons g2 g3 =>
  cases g3 with
  | cons g3 g4 =>
  cases g4
  have e0 := tp_str g0
  subst e0
  have e1 := tp_str g1
  subst e1
  have e2 := tp_str g2
  subst e2
  have e3 := tp_int g3
  subst e3
  refine ⟨_, rfl, va, _, 4, rfl, hva, _, rfl, ?_⟩
  refine iteF ?_
  refine ⟨_, rfl, va, _, 0, _, rfl, rfl, hva, rfl, rfl, _, rfl, ?_⟩
  have e5 : (!decide (V.str "do" = V.str "do")) = false := by rw [decide_eq_true rfl]; rfl
  rw [e5]
  refine iteF ?_
  refine ⟨_, rfl, p, E, dx, _, _, rfl, ob, T.cl, T.n5, rfl, ad, rfl, ⟨_, hsd⟩, for_tup (xs := txs) (fun i σ H' => i ≤ j ∧ H' = H ∧ ∃ (t1 t2 t3 : Option V), σ = [some (.ref p), some (.ref va), t1, t2, t3]) ⟨Nat.zero_le _, rfl, none, none, none, rfl⟩ (fun i σ H' _ z => by rw [z.2.1]; exact hsd) ?_ ?_⟩
  · rintro i x σ H' hx ⟨hij, rfl, t1, t2, t3, rfl⟩
    obtain ⟨q, eq_, tq⟩ := hds.get hx
    rw [List.getElem?_map] at eq_
    obtain ⟨d', ed, rfl⟩ : ∃ c, h.ds[i]? = some c ∧ q = deedT h.people c := by
      cases e : h.ds[i]? with
      | none =>
        rw [e] at eq_
        cases eq_
      | some t =>
        rw [e] at eq_
        exact ⟨t, rfl, (Option.some.inj eq_).symm⟩
    obtain ⟨a, ys, rfl, hya, hy⟩ := tp_tup tq
    cases hy with
    | cons y0 y1 =>
    cases y1 with
    | cons y1 y2 =>
    cases y2 with
    | cons y2 y3 =>
    cases y3
    have z0 := tp_str y0
    subst z0
    have z2 := tp_int y2
    subst z2
    obtain ⟨b, bys, rfl, hb, hby⟩ := tp_tup y1
    have zb := tpa_strs hby
    subst zb
    refine ⟨a, _, rfl, hya, rfl, _, _, rfl, _, _, rfl, _, _, rfl, rfl, ?_⟩
    refine ⟨_, rfl, _, rfl, va, _, 1, _, rfl, rfl, hva, rfl, rfl, _, rfl, ?_⟩
    by_cases hd : d'.x = d.x
    · have same : d' = d := by
        have a1 : (h.ds.map (·.x))[i]? = some d'.x := by rw [List.getElem?_map, ed]; rfl
        have a2 : (h.ds.map (·.x))[j]? = some d.x := by rw [List.getElem?_map, ej]; rfl
        have il := (List.getElem?_eq_some_iff.mp a1).1
        have ij : i = j := (List.getElem?_inj il dn).mp (by rw [a1, a2, hd])
        rw [ij, ej] at ed
        exact (Option.some.inj ed).symm
      subst same
      have e6 : decide (V.str d'.x = V.str d'.x) = true := decide_eq_true rfl
      rw [e6]
      refine iteT ?_
      refine ⟨_, rfl, va, _, 2, _, rfl, rfl, hva, rfl, _, rfl, b, _, rfl, .inr hb, rfl, flat_words _, ?_⟩
      rw [if_neg (by decide), in_words, decide_eq_true hw]
      refine ⟨_, rfl, iteT ?_⟩
      refine ⟨_, rfl, va, _, 3, _, rfl, rfl, hva, rfl, _, rfl, _, _, _, rfl, ?_⟩
      have e9 : (decide (0 ≤ it) && decide (it < d'.pick)) = true := by rw [decide_eq_true i0, decide_eq_true i1]; rfl
      rw [e9]
      exact k _ (same_refl _)
    · have e6 : decide (V.str d'.x = V.str d.x) = false := decide_eq_false fun z => hd (V.str.inj z)
      rw [e6]
      refine iteF ⟨?_, rfl, _, _, _, rfl⟩
      have : i ≠ j := fun z => hd (by rw [z, ej] at ed; rw [Option.some.inj ed])
      omega
  · rintro σ H' ⟨hij, _⟩
    have : txs.length = h.ds.length := by rw [hds.length, List.length_map]
    have := (List.getElem?_eq_some_iff.mp ej).1
    omega
/-- a move by its form -/
inductive IsMv (h : HouseD) : MoveD → Prop
  | night : IsMv h .night
  | act {j : Nat} {d : DeedD} {who : Str} {it : Int} : h.ds[j]? = some d → PyData.strOk d.x = true → PyData.strOk who = true → who ∈ byOf h.people d.by_ → 0 ≤ it → it < d.pick → IsMv h (.act d.x who it)
def spIsMove (D E : Addr) (K : PySem.W.Frag) : Sp := fun vs H Q _ => ∃ (p : Addr) (t : Str) (h : HouseD) (v : V) (m : MoveD), vs = [.ref p, v] ∧ HouseAt K D E H p t h ∧ (h.ds.map (·.x)).Nodup ∧ Tp K H v m.d ∧ IsMv h m ∧ ∀ H', Same H H' → Q (.bl true) H'
theorem scIsMove : FnScope ["house", "value"] ["house", "value"] (defScope sIsMove) := ⟨rfl, rfl, rfl, by decide +kernel, rfl, by decide +kernel, by decide +kernel⟩
theorem ok_isMove {f : Addr} {fd : FuncData} (F : Fun K "is_move" "is_move" sIsMove f fd) (T : STxt K mg E) (GD : DefOk P w K mg base "is_deed" 2 ["house", "value"] (spIsDeed D E K)) : FnOk P w K mg base CX0 3 f fd ["house", "value"] (spIsMove D E K) := by
  refine F.ok scIsMove (fun vs H Q E h => ?_) (fun cdv A outer s H vs Q Ex hr h => ?_)
  · obtain ⟨p, t, h, v, m, rfl, _⟩ := h
    rfl
  obtain ⟨p, t, h, v, m, rfl, ha, dn, tv, im, k⟩ := h
  have hu := hr.units
  obtain ⟨aN, mgN, hN⟩ := T.night
  refine ⟨_, pss_one (ps_ret (pe_or (pe_cmpR (op_eqD hu) (pv 1) (pe_glob (v := .ref aN) rfl mgN rfl) (nomark _)) (pe_one (pe_D GD hr rfl (pa_cons (pv 0) (pa_cons (pv 1) pa_nil)))))), ?_⟩
  cases im with
  | night =>
    refine ⟨_, rfl, MoveD.night.d, MoveD.night.d, tv.dp, (tp_night (hN _)).dp, shaped_night, shaped_night, _, rfl, ?_⟩
    rw [eq_night]
    exact iteT (k _ (same_refl _))
  | @act j d who it ej s1 s2 hw i0 i1 =>
    refine ⟨_, rfl, (MoveD.act d.x who it).d, MoveD.night.d, tv.dp, (tp_night (hN _)).dp, shaped_act it s1 s2, shaped_night, _, rfl, ?_⟩
    rw [eq_act]
    exact iteF ⟨_, rfl, _, rfl, p, t, h, v, j, d, who, it, rfl, ha, dn, tv, ej, hw, i0, i1, k⟩
end
end Hx
set_option maxRecDepth 100000
set_option maxHeartbeats 8000000
/-! The moves that are possible at a stand. -/
namespace Hx
open PySem PySem.Spec PyProof.Rows L2
abbrev sPMoves : Stmt := top 32
abbrev sMoves : Stmt := top 33
def readyOf (ds : List DeedD) (ws : List Int) : List Str := (ds.filter fun d => holdsB d.ts ws).map (·.x)
def inReady (ready : List Str) (r : List V) : Bool := match r with
  | _ :: .str x :: _ => decide (x ∈ ready)
  | _ => false
def vD : V → PyData
  | .str x => .str x
  | .int i => .int i
  | _ => .none
def rowD (r : List V) : PyData := .tuple (r.map vD)
theorem doL_rows {people : List Str} {ds : List DeedD} : ∀ r ∈ doL people ds, ∃ (a b : Str) (i : Nat), r = [V.str "do", .str a, .str b, .int i] := by
  intro r hr
  obtain ⟨d, _, hd⟩ := List.mem_flatMap.mp hr
  obtain ⟨who, _, hw⟩ := List.mem_flatMap.mp hd
  obtain ⟨i, _, rfl⟩ := List.mem_map.mp hw
  exact ⟨_, _, i, rfl⟩
theorem tp_row {K : PySem.W.Frag} {H : Hp} {q : Addr} {a b : Str} {i : Nat} (h : SqT K H q [V.str "do", .str a, .str b, .int i]) : Tp K H (.ref q) (rowD [V.str "do", .str a, .str b, .int i]) :=
  .tup h (.cons (.str _) (.cons (.str _) (.cons (.str _) (.cons (.int _) .nil))))
theorem tpa_rows {K : PySem.W.Frag} {H : Hp} : ∀ {rs : List (Addr × List V)}, (∀ r ∈ rs, SqT K H r.1 r.2 ∧ ∃ (a b : Str) (i : Nat), r.2 = [V.str "do", .str a, .str b, .int i]) → TpAll K H (rs.map fun q => V.ref q.1) ((rs.map (·.2)).map rowD)
  | [], _ => .nil
  | r :: rs, h => by
    obtain ⟨h1, a, b, i, e⟩ := h r (List.mem_cons_self ..)
    refine .cons ?_ (tpa_rows fun q hq => h q (List.mem_cons_of_mem _ hq))
    rw [e] at h1
    show Tp K H (.ref r.1) (rowD r.2)
    rw [e]
    exact tp_row h1
theorem pair_map {α β : Type} {f : α → β} {R : β → β → Prop} {xs : List α} (h : xs.Pairwise fun x y => R (f x) (f y)) : (xs.map f).Pairwise R := List.pairwise_map.mpr h
theorem set2b {σ : L2.St} {i j : Nat} {x y : V} : wipe (((wipe σ [i, j]).set i (some x)).set j (some y)) [i, j] = wipe σ [i, j] := by
  refine wipe_of (fun m hm => ?_) (by simp [wipe_length])
  have h1 : i ≠ m := fun z => hm (by rw [← z]; simp)
  have h2 : j ≠ m := fun z => hm (by rw [← z]; simp)
  rw [List.getElem?_set_ne h2, List.getElem?_set_ne h1, wipe_get, if_neg hm]
theorem zip_at {ds : List DeedD} {ps : List Addr} {i : Nat} {d : DeedD} {q : Addr} (e1 : ds[i]? = some d) (e2 : ps[i]? = some q) : ((ds.map fun d => (Sum.inr d.x : Key)).zip (ps.map V.ref))[i]? = some ((Sum.inr d.x : Key), V.ref q) := by
  rw [List.getElem?_zip_eq_some]
  exact ⟨by rw [List.getElem?_map, e1]; rfl, by rw [List.getElem?_map, e2]; rfl⟩
section
variable {P : Program} {w : World} {K : PySem.W.Frag} {mg : Str → Option Value} {base : Heap} {D E fI : Addr}
def PMEnd (K : PySem.W.Frag) (H : Hp) (h : HouseD) (ws : List Int) (n : Int) (Q : VK) : Prop := ∀ (a : Addr) (rs : List (List V)) (H' : Hp), Same H H' → Tp K H' (.ref a) (.tuple (rs.map rowD ++ [MoveD.night.d])) →
    (n = h.day → rs = []) → (n ≠ h.day → rs.Perm ((doL h.people h.ds).filter (inReady (readyOf h.ds ws))) ∧ rs.Pairwise fun x y => rowLt y x = false) → Q (.ref a) H'
def spPM (D E : Addr) (K : PySem.W.Frag) : Sp := fun vs H Q _ => ∃ (p : Addr) (t : Str) (h : HouseD) (v : V) (ws : List Int) (n : Int), vs = [.ref p, v] ∧ HouseAt K D E H p t h ∧ (∀ d ∈ h.ds, (∀ t ∈ d.ts, t.j < ws.length) ∧ d.ts.length ≤ 2) ∧ h.ds.length ≤ 4 ∧ (doL h.people h.ds).length ≤ 48 ∧ Tp K H v (standD ws n) ∧
  (doL h.people h.ds).filter (inReady (readyOf h.ds ws)) ≠ [] ∧ PMEnd K H h ws n Q
theorem scPM : FnScope ["house", "stand", "worths", "today", "ready", "name", "deed", "move"] ["house", "stand"] (defScope sPMoves) := ⟨rfl, rfl, rfl, by decide +kernel, rfl, by decide +kernel, by decide +kernel⟩
theorem ok_PM {f : Addr} {fd : FuncData} (F : Fun K "possible_moves" "possible_moves" sPMoves f fd) (T : STxt K mg E) (GH : DefOk P w K mg base "holds" 1 ["deed", "worths"] (spHolds D K)) : FnOk P w K mg base CX0 2 f fd ["house", "stand"] (spPM D E K) := by
  refine F.ok scPM (fun vs H Q E h => ?_) (fun cdv A outer s H vs Q Ex hr h => ?_)
  · obtain ⟨p, t, h, v, ws, n, rfl, _⟩ := h
    rfl
  obtain ⟨p, t, h, v, ws, n, rfl, ha, tj, d4, few, tv, ne, k⟩ := h
  have nd := scPM.nd
  have hu := hr.units
  obtain ⟨aN, mgN, hN⟩ := T.night
  refine ⟨_, pss_cons (ps_asg (pv 1) (pg_tup rfl (pgs_cons (pg_name (i := 2) nd rfl (.inr rfl)) (pgs_cons (pg_name (i := 3) nd rfl (.inl rfl)) pgs_nil))))
    (pss_cons (ps_if (pt_cmpR op_eq (pv 3) (pe_fld (pv 0) rfl) (nomark _)) (pss_one (ps_ret (pe_tup (pa_cons (pe_glob (v := .ref aN) rfl mgN rfl) pa_nil)))) pss_nil)
    (pss_cons (ps_lock (ps_set (i := 4) nd rfl (.inr rfl) (pe_lc (own := [("name", 5), ("deed", 6)]) (g := gTup K 2 (gCons (gName 5) (gCons (gName 6) gNil))) (tt := tTest (tCall (spHolds D K) [] E0 (tCons (tVar 6) (tCons (tVar 2) tNil)))) rfl nd
      (pi_items (pe_fld (pv 0) rfl)) (blkOk_by (N := ["house", "stand", "worths", "today", "ready", "name", "deed", "move"]) (sc := defScope sPMoves) (by decide +kernel))
      (fun _ _ _ _ _ => pg_tupK K (pgs_cons (pg_name (i := 5) nd rfl (Or.inl rfl)) (pgs_cons (pg_name (i := 6) nd rfl (Or.inl rfl)) pgs_nil))) (fun _ _ _ _ _ => pts_one (pt_val (pe_D GH hr rfl (pa_cons (pv 6) (pa_cons (pv 2) pa_nil)))))
      (fun _ _ _ _ _ => pv 5))))
    (pss_one (ps_ret (pe_op op_catT (pe_callTy call_tuple_of rfl T.tuple PyProof.Rows.Boot.«tuple» (pa_cons
      (pe_lc (own := [("move", 7)]) (g := gName 7) (tt := tTest (tOp (rIn K false) (tOp (rIxT K) (tVar 7) (tC (.int 1))) (tVar 4))) rfl nd (pi_tup (pe_fld (pv 0) rfl)) (blkOk_by (N := ["house", "stand", "worths", "today", "ready", "name", "deed", "move"]) (sc := defScope sPMoves) (by decide +kernel)) (fun _ _ _ _ _ => pg_name (i := 7) nd rfl (Or.inl rfl)) (fun _ _ _ _ _ => pts_one (pt_cmpR (op_in_seqK K) (pe_ix (ix_tupK K) (pv 7) pe_int (fun _ _ => rfl)) (pv 4) (by rfl)))
        (fun _ _ _ _ _ => pv 7)) pa_nil)) (pe_tup (pa_cons (pe_glob (v := .ref aN) rfl mgN rfl) pa_nil))))))), ?_⟩
  obtain ⟨dx, ap, ac, ak, ad, as_, ao, ps, qs, ob, pp, tc, tk, td, es, dd, ro, ra, pm, pw⟩ := ha.ex
  obtain ⟨va, vys, rfl, hva, hvy⟩ := tp_tup tv
  cases hvy with
  | cons g0 g1 =>
  cases g1 with
  | cons g1 g2 =>
  cases g2
  have e1 := tp_int g1
  subst e1
  obtain ⟨wa, wys, rfl, hwa, hwy⟩ := tp_tup g0
  have ew := tpa_ints hwy
  subst ew
  refine ⟨_, rfl, va, _, rfl, hva, rfl, _, _, rfl, _, _, rfl, rfl, ?_⟩
  refine ⟨_, rfl, _, rfl, p, E, dx, _, _, rfl, ob, T.cl, T.n8, rfl, rfl, _, rfl, ?_⟩
  by_cases hn : n = h.day
  · have e5 : decide (V.int n = V.int h.day) = true := decide_eq_true (by rw [hn])
    rw [e5]
    refine iteT ⟨sz (by decide : 1 ≤ 1000), fun u hu' => ?_⟩
    have s1 := same_new hu' (.tup [.ref aN])
    exact k u [] _ s1 (.tup (SqT.of upd_same) (.cons (tp_night (hN _)) .nil)) (fun _ => rfl) (fun z => absurd hn z)
  have e5 : decide (V.int n = V.int h.day) = false := decide_eq_false fun z => hn (V.int.inj z)
  rw [e5]
  refine iteF ?_
  have nps : ps.length = h.ds.length := dd.len
  have klen : ((h.ds.map fun d => (Sum.inr d.x : Key)).zip (ps.map V.ref)).length = h.ds.length := by rw [List.length_zip, List.length_map, List.length_map, nps, Nat.min_self]
  refine ⟨as_, _, es, trivial, fun od => ?_⟩
  have sF : ∀ H', Same (upd H as_ (.frz od (.dK ((h.ds.map fun d => (Sum.inr d.x : Key)).zip (ps.map V.ref))))) H' → Same H (upd H' as_ (.dK ((h.ds.map fun d => (Sum.inr d.x : Key)).zip (ps.map V.ref)))) := fun H' s1 b o e => by
    by_cases z : b = as_
    · subst z
      rw [es] at e
      cases e
      exact upd_same
    · rw [upd_ne z]
      exact s1 _ _ (by rw [upd_ne z]; exact e)
  have up : ∀ {a : Addr} {xs : List V}, SqT K H a xs → SqT K (upd H as_ (.frz od (.dK ((h.ds.map fun d => (Sum.inr d.x : Key)).zip (ps.map V.ref))))) a xs := by
    intro a xs hq
    rcases hq with (hq | ⟨o', hq⟩) | hq
    · exact .inl (.inl (by rw [upd_ne (fun z => by rw [z, es] at hq; cases hq)]; exact hq))
    · exact .inl (.inr ⟨o', by rw [upd_ne (fun z => by rw [z, es] at hq; cases hq)]; exact hq⟩)
    · exact .inr hq
  have upl : ∀ {a : Addr} {xs : List V}, H a = some (.lst xs) → upd H as_ (.frz od (.dK ((h.ds.map fun d => (Sum.inr d.x : Key)).zip (ps.map V.ref)))) a = some (.lst xs) := by
    intro a xs hq
    rw [upd_ne (fun z => by rw [z, es] at hq; cases hq)]
    exact hq
  have ob1 : upd H as_ (.frz od (.dK ((h.ds.map fun d => (Sum.inr d.x : Key)).zip (ps.map V.ref)))) p = some (.ins E dx (houseF t ap ac ak ad as_ ao h.day)) := by
    rw [upd_ne (fun z => by rw [z, es] at ob; cases ob)]
    exact ob
  have dd1 : Deeds K D (upd H as_ (.frz od (.dK ((h.ds.map fun d => (Sum.inr d.x : Key)).zip (ps.map V.ref))))) p h.people h.ks (fun _ => True) ps h.ds := dd.map fun q d _ z => by
    obtain ⟨dxq, ab, at_, ach, ar, nn, oq, hb, ⟨x1, f1, t1⟩, ⟨x2, f2, t2⟩, ⟨x3, f3, t3⟩⟩ := z.ex
    exact ⟨dxq, ab, at_, ach, ar, nn, by rw [upd_ne (fun z => by rw [z, es] at oq; cases oq)]; exact oq, hb.map up, ⟨x1, upl f1, t1.map up⟩, ⟨x2, upl f2, t2.map up⟩, ⟨x3, upl f3, t3.map up⟩⟩
  have wa1 := up hwa
  have fz : upd H as_ (.frz od (.dK ((h.ds.map fun d => (Sum.inr d.x : Key)).zip (ps.map V.ref)))) as_ = some (.frz od (.dK ((h.ds.map fun d => (Sum.inr d.x : Key)).zip (ps.map V.ref)))) := upd_same
  unfold tAsg
  generalize upd H as_ (.frz od (.dK ((h.ds.map fun d => (Sum.inr d.x : Key)).zip (ps.map V.ref)))) = H1 at *
  refine ⟨_, rfl, p, E, dx, _, _, rfl, ob1, T.cl, T.n6, rfl, as_, od, _, rfl, fz, fun G hG => ?_⟩
  refine lc_it walk_items (fun i H' => Same H1 H' ∧ H' G = some (.lst ((readyOf (h.ds.take i) ws).map V.str))) ⟨same_new hG _, upd_same⟩ (fun i H' _ z => z.1 _ _ fz) ?_ ?_
  · rintro i x H2 H3 hi ⟨sm, eG⟩ ⟨T', u, v, rfl, hT, rfl, eu, ev⟩
    rw [klen] at hi
    have ed : h.ds[i]? = some h.ds[i] := List.getElem?_eq_getElem hi
    have eq_ : ps[i]? = some (ps[i]'(by omega)) := List.getElem?_eq_getElem _
    have ez := zip_at (ds := h.ds) (ps := ps) ed eq_
    generalize h.ds[i] = d at *
    generalize ps[i]'(by omega) = q at *
    have eu' : some (V.str d.x) = some u := by
      rw [← eu]
      show _ = Option.map (fun kv => kV kv.1) (((h.ds.map fun d => (Sum.inr d.x : Key)).zip (ps.map V.ref))[i]?)
      rw [ez]
      rfl
    have ev' : some (V.ref q) = some v := by
      rw [← ev]
      show _ = Option.map Prod.snd (((h.ds.map fun d => (Sum.inr d.x : Key)).zip (ps.map V.ref))[i]?)
      rw [ez]
      rfl
    cases eu'
    cases ev'
    have sT := same_new hT (.tup [.str d.x, .ref q])
    obtain ⟨d', ed', da, _⟩ := dd1.at eq_
    rw [ed] at ed'
    cases ed'
    obtain ⟨t1, t2⟩ := tj d (List.mem_of_getElem? ed)
    refine ⟨T', _, rfl, SqT.of upd_same, rfl, _, _, rfl, _, _, rfl, rfl, set2b, ?_⟩
    refine ⟨_, rfl, _, rfl, q, wa, h.people, h.ks, d, _, ws, rfl, (da.same sm).same sT, same_sqt (sm.trans sT) wa1, t1, t2, fun H4 s4 => ⟨_, rfl, ?_⟩⟩
    have e1 : readyOf (h.ds.take (i + 1)) ws = readyOf (h.ds.take i) ws ++ if holdsB d.ts ws = true then [d.x] else [] := by
      unfold readyOf
      rw [List.take_add_one, ed, List.filter_append, List.map_append]
      show _ ++ ([d].filter fun d => holdsB d.ts ws).map (·.x) = _
      rw [List.filter_cons]
      by_cases z : holdsB d.ts ws = true
      · rw [if_pos z, if_pos z]
        rfl
      · rw [if_neg z, if_neg z]
        rfl
    have eG4 := s4 _ _ (sT _ _ eG)
    refine ite2 (fun z => ?_) (fun z => ?_)
    · refine ⟨_, rfl, _, eG4, ?_, same_grow hG (sm.trans (sT.trans s4)), ?_⟩
      · rw [List.length_map]
        have l1 : (readyOf (h.ds.take i) ws).length ≤ (h.ds.take i).length := by
          unfold readyOf
          rw [List.length_map]
          exact List.length_filter_le _ _
        rw [List.length_take] at l1
        exact small1000 (by omega)
      · rw [upd_same, e1, if_pos z, List.map_append]
        rfl
    · refine ⟨sm.trans (sT.trans s4), ?_⟩
      rw [e1, if_neg (by rw [z]; decide), List.append_nil]
      exact eG4
  · rintro H2 ⟨s2, eG⟩
    rw [klen, List.take_length] at eG
    refine ⟨s2 _ _ fz, ?_⟩
    have s02 := sF _ s2
    have nG : G ≠ as_ := fun z => by
      have := s2 _ _ fz
      rw [← z, eG] at this
      cases this
    have eG2 : upd H2 as_ (.dK ((h.ds.map fun d => (Sum.inr d.x : Key)).zip (ps.map V.ref))) G = some (.lst ((readyOf h.ds ws).map V.str)) := by
      rw [upd_ne nG]
      exact eG
    generalize upd H2 as_ (.dK ((h.ds.map fun d => (Sum.inr d.x : Key)).zip (ps.map V.ref))) = H3 at *
    clear sF up upl ob1 dd1 wa1 fz s2 eG
    have rows : ∀ q ∈ qs, ∃ (a b : Str) (i : Nat), q.2 = [V.str "do", .str a, .str b, .int i] := fun q hq => doL_rows q.2 (pm.mem_iff.mp (List.mem_map.mpr ⟨q, hq, rfl⟩))
    have qfew : qs.length ≤ 48 := by
      have := pm.length_eq
      rw [List.length_map] at this
      omega
    refine ⟨_, rfl, p, E, dx, _, _, rfl, s02 _ _ ob, T.cl, T.n7, rfl, ao, rfl, ⟨_, same_sqt s02 ro⟩, fun M hM => ?_⟩
    refine lc_tup (K := K) (a := ao) (xs := List.map (fun q : Addr × List V => V.ref q.1) qs) (fun i H' => Same H3 H' ∧ H' M = some (.lst (((qs.take i).filter fun q => inReady (readyOf h.ds ws) q.2).map fun q => V.ref q.1))) ⟨same_new hM _, upd_same⟩ (fun i H' _ z => same_sqt (s02.trans z.1) ro) ?_ ?_
    · rintro i x H4 hi ⟨sm, eM⟩
      have hi' : ∃ q, qs[i]? = some q ∧ x = .ref q.1 := by
        rw [List.getElem?_map] at hi
        cases e : qs[i]? with
        | none =>
          rw [e] at hi
          cases hi
        | some q =>
          rw [e] at hi
          exact ⟨q, rfl, (Option.some.inj hi).symm⟩
      obtain ⟨q, eq_, rfl⟩ := hi'
      have qin := List.mem_of_getElem? eq_
      obtain ⟨a, b, m, e⟩ := rows q qin
      have hq := same_sqt (s02.trans sm) (ra q qin)
      rw [e] at hq
      refine ⟨set2, ?_⟩
      refine ⟨_, rfl, q.1, _, 1, _, rfl, rfl, hq, rfl, _, rfl, G, _, rfl, .inl (SqL.of (sm _ _ eG2)), rfl, flat_words _, ?_⟩
      rw [if_neg (by decide), in_words]
      have e1 : inReady (readyOf h.ds ws) q.2 = decide (a ∈ readyOf h.ds ws) := by rw [e]; rfl
      have e2 : (qs.take (i + 1)).filter (fun q => inReady (readyOf h.ds ws) q.2) = (qs.take i).filter (fun q => inReady (readyOf h.ds ws) q.2) ++ if decide (a ∈ readyOf h.ds ws) = true then [q] else [] := by
        rw [List.take_add_one, eq_, List.filter_append]
        show _ ++ [q].filter (fun q => inReady (readyOf h.ds ws) q.2) = _
        rw [List.filter_cons, e1]
        rfl
      refine ⟨_, rfl, ite2 (fun z => ?_) (fun z => ?_)⟩
      · refine ⟨_, rfl, _, eM, ?_, same_grow hM sm, ?_⟩
        · rw [List.length_map]
          have l1 := List.length_filter_le (fun q : Addr × List V => inReady (readyOf h.ds ws) q.2) (qs.take i)
          rw [List.length_take] at l1
          exact small1000 (by omega)
        · rw [upd_same, e2, if_pos z, List.map_append]
          rfl
      · refine ⟨sm, ?_⟩
        rw [e2, if_neg (by rw [z]; decide), List.append_nil]
        exact eM
    · rintro H4 ⟨sm, eM⟩
      rw [List.length_map, List.take_length] at eM
      refine ⟨M, _, rfl, .inl ⟨SqL.of eM, fun a ha' => ?_⟩⟩
      have s5 := same_new ha' (.tup ((qs.filter fun q => inReady (readyOf h.ds ws) q.2).map fun q => V.ref q.1))
      refine ⟨sz (by decide : 1 ≤ 1000), fun b hb => ?_⟩
      have s6 := same_new hb (.tup [.ref aN])
      have lf := List.length_filter_le (fun q : Addr × List V => inReady (readyOf h.ds ws) q.2) qs
      have pf : ((qs.filter fun q => inReady (readyOf h.ds ws) q.2).map (·.2)).Perm ((doL h.people h.ds).filter (inReady (readyOf h.ds ws))) := by
        have z := pm.filter (inReady (readyOf h.ds ws))
        rwa [List.filter_map] at z
      have nef : (qs.filter fun q => inReady (readyOf h.ds ws) q.2) ≠ [] := fun z => by
        rw [z] at pf
        exact ne (List.Perm.nil_eq pf).symm
      refine ⟨a, b, _, _, rfl, rfl, same_sqt s6 (SqT.of upd_same), SqT.of upd_same, fun z => nef (List.map_eq_nil_iff.mp z), ?_, (fun z => nomatch z), fun _ c hc => ?_⟩
      · rw [List.length_map]
        exact sz (by show _ + 1 ≤ 1000; omega)
      · have s7 := same_new hc (.tup ((qs.filter fun q => inReady (readyOf h.ds ws) q.2).map (fun q => V.ref q.1) ++ [.ref aN]))
        have s27 := sm.trans (s5.trans (s6.trans s7))
        refine k c ((qs.filter fun q => inReady (readyOf h.ds ws) q.2).map (·.2)) _ (s02.trans s27) (.tup (SqT.of upd_same) ?_) (fun z => absurd z hn) (fun _ => ⟨pf, pair_map (pw.filter _)⟩)
        refine TpAll.append (tpa_rows fun r hr => ?_) (.cons (tp_night (hN _)) .nil)
        have rin := (List.mem_filter.mp hr).1
        exact ⟨same_sqt (s02.trans s27) (ra r rin), rows r rin⟩
/-! ### moves -/
def spMoves (D E : Addr) (K : PySem.W.Frag) : Sp := fun vs H Q _ => ∃ (p : Addr) (t : Str) (h : HouseD) (v : V) (ws : List Int) (n : Int), vs = [.ref p, v] ∧ HouseAt K D E H p t h ∧ (∀ d ∈ h.ds, (∀ t ∈ d.ts, t.j < ws.length) ∧ d.ts.length ≤ 2) ∧ h.ds.length ≤ 4 ∧ (doL h.people h.ds).length ≤ 48 ∧ h.cs.length ≤ 3 ∧ Tp K H v (standD ws n) ∧
  Fits h.cs ws ∧ 0 ≤ n ∧ n ≤ h.day ∧ (doL h.people h.ds).filter (inReady (readyOf h.ds ws)) ≠ [] ∧ PMEnd K H h ws n Q
theorem scMoves : FnScope ["house", "stand"] ["house", "stand"] (defScope sMoves) := ⟨rfl, rfl, rfl, by decide +kernel, rfl, by decide +kernel, by decide +kernel⟩
theorem ok_moves {f : Addr} {fd : FuncData} (F : Fun K "moves" "moves" sMoves f fd) (GS : DefOk P w K mg base "is_stand" 2 ["house", "value"] (spStand D E K)) (GP : DefOk P w K mg base "possible_moves" 2 ["house", "stand"] (spPM D E K)) : FnOk P w K mg base CX0 3 f fd ["house", "stand"] (spMoves D E K) := by
  refine F.ok scMoves (fun vs H Q E h => ?_) (fun cdv A outer s H vs Q Ex hr h => ?_)
  · obtain ⟨p, t, h, v, ws, n, rfl, _⟩ := h
    rfl
  obtain ⟨p, t, h, v, ws, n, rfl, ha, tj, d4, few, c3, tv, fit, n0, n1, ne, k⟩ := h
  refine ⟨_, pss_cons (ps_if (pt_not (pt_val (pe_D GS hr rfl (pa_cons (pv 0) (pa_cons (pv 1) pa_nil))))) pss_never pss_nil)
    (pss_one (ps_ret (pe_D GP hr rfl (pa_cons (pv 0) (pa_cons (pv 1) pa_nil))))), ?_⟩
  refine ⟨_, rfl, _, rfl, p, t, h, v, ws, n, rfl, ha, c3, tv, fit, n0, n1, fun H1 s1 => ⟨_, rfl, ?_⟩⟩
  refine iteF ?_
  exact ⟨_, rfl, _, rfl, p, t, h, v, ws, n, rfl, ha.same s1, tj, d4, few, tv.same s1, ne, fun a rs H' s2 => k a rs H' (s1.trans s2)⟩
end
end Hx
set_option maxRecDepth 100000
set_option maxHeartbeats 8000000
/-! What a deed changes. -/
namespace Hx
open PySem PySem.Spec PyProof.Rows L2
abbrev sChanged : Stmt := top 34
abbrev sBehind : Stmt := top 35
abbrev sAfter : Stmt := top 36
abbrev sLed : Stmt := top 37
def Src.num? (ws : List Int) (it : Int) : Src → Int
  | .it => it
  | .cell j => ws.getD j 0
  | .num v => v
  | _ => 0
def Src.isW (ws : List Int) : Src → Prop
  | .it => True
  | .cell j => j < ws.length
  | .num _ => True
  | _ => False
theorem Src.out_w {ws : List Int} {who : Str} {it : Int} {s : Src} (h : s.isW ws) : s.out ws who it = .int (s.num? ws it) ∧ s.inn ws := by
  cases s with
  | it => exact ⟨rfl, trivial⟩
  | cell j => exact ⟨rfl, h⟩
  | num v => exact ⟨rfl, trivial⟩
  | who => exact h.elim
  | person x => exact h.elim
def sizeAt (cs : List CellD) (j : Nat) : Int := (cs[j]?.map (·.z)).getD 1
def chStep (cs : List CellD) (it : Int) (ws : List Int) (c : ChangeD) : List Int := ws.set c.j (if c.add = true then (ws.getD c.j 0 + c.s.num? ws it).fmod (sizeAt cs c.j) else c.s.num? ws it)
def chAll (cs : List CellD) (it : Int) (ws : List Int) (chs : List ChangeD) : List Int := chs.foldl (chStep cs it) ws
theorem chStep_len {cs : List CellD} {it : Int} {ws : List Int} {c : ChangeD} : (chStep cs it ws c).length = ws.length := List.length_set
theorem chAll_len {cs : List CellD} {it : Int} : ∀ {chs : List ChangeD} {ws : List Int}, (chAll cs it ws chs).length = ws.length
  | [], _ => rfl
  | c :: r, ws => by
    show (chAll cs it (chStep cs it ws c) r).length = _
    rw [chAll_len, chStep_len]
theorem chAll_take {cs : List CellD} {it : Int} {chs : List ChangeD} {ws : List Int} {i : Nat} {c : ChangeD} (e : chs[i]? = some c) : chAll cs it ws (chs.take (i + 1)) = chStep cs it (chAll cs it ws (chs.take i)) c := by
  unfold chAll
  rw [List.take_add_one, e, List.foldl_append]
  rfl
section
variable {P : Program} {w : World} {K : PySem.W.Frag} {mg : Str → Option Value} {base : Heap} {D E fI : Addr}
def spChanged (D E : Addr) (K : PySem.W.Frag) : Sp := fun vs H Q _ => ∃ (p q aw : Addr) (t : Str) (h : HouseD) (d : DeedD) (N : Addr → Prop) (ws : List Int) (who : Str) (it : Int), vs = [.ref p, .ref q, .ref aw, .str who, .int it] ∧ HouseAt K D E H p t h ∧ DeedAt K D H q h.people h.ks d N ∧ SqT K H aw (ws.map V.int) ∧ ws.length = h.cs.length ∧ (∀ c ∈ h.cs, c.z ≠ 0) ∧
  (∀ c ∈ d.chs, c.j < ws.length ∧ c.s.isW ws) ∧ ∀ a H', Same H H' → SqT K H' a ((chAll h.cs it ws d.chs).map V.int) → Q (.ref a) H'
theorem scChanged : FnScope ["house", "deed", "worths", "who", "it", "word", "place", "source", "worth"] ["house", "deed", "worths", "who", "it"] (defScope sChanged) := ⟨rfl, rfl, rfl, by decide +kernel, rfl, by decide +kernel, by decide +kernel⟩
theorem isW_len {ws ws' : List Int} {s : Src} (e : ws'.length = ws.length) (h : s.isW ws) : s.isW ws' := by
  cases s with
  | cell j =>
    show j < ws'.length
    have : j < ws.length := h
    omega
  | it => trivial
  | num v => trivial
  | who => exact h.elim
  | person x => exact h.elim
theorem ok_changed {f : Addr} {fd : FuncData} (F : Fun K "changed" "changed" sChanged f fd) (T : STxt K mg E) (DT : DTxt K mg D fI) (GW : DefOk P w K mg base "worked_out" 1 ["source", "worths", "who", "it"] (spWork K)) : FnOk P w K mg base CX0 2 f fd ["house", "deed", "worths", "who", "it"] (spChanged D E K) := by
  refine F.ok scChanged (fun vs H Q E h => ?_) (fun cdv A outer s H vs Q Ex hr h => ?_)
  · obtain ⟨p, q, aw, t, h, d, N, ws, who, it, rfl, _⟩ := h
    rfl
  obtain ⟨p, q, aw, t, h, d, N, ws, who, it, rfl, ha, da, hw, wl, cz, cj, k⟩ := h
  have nd := scChanged.nd
  refine ⟨_, pss_cons (ps_set (i := 2) nd rfl (.inl rfl) (pe_callTy call_list_of rfl T.F.list PyProof.Rows.Boot.«list» (pa_cons (pv 2) pa_nil)))
    (pss_cons (ps_for PassesOwn.never rfl (pi_list (pe_fld (pv 1) rfl)) (pg_tup rfl (pgs_cons (pg_name (i := 5) nd rfl (.inl rfl)) (pgs_cons (pg_name (i := 6) nd rfl (.inl rfl)) (pgs_cons (pg_name (i := 7) nd rfl (.inl rfl)) pgs_nil))))
      (pss_cons (ps_set (i := 8) nd rfl (.inl rfl) (pe_D GW hr rfl (pa_cons (pv 7) (pa_cons (pv 2) (pa_cons (pv 3) (pa_cons (pv 4) pa_nil))))))
      (pss_cons (ps_if (pt_cmpR op_eq (pv 5) pe_str (nomark _)) (pss_one (ps_set (i := 8) nd rfl (.inl rfl) (pe_op op_modN (pe_op op_add (pe_ix ix_list (pv 2) (pv 6) (fun _ _ => rfl)) (pv 8)) (pe_ix ix_tup (pe_ix ix_tup (pe_fld (pv 0) rfl) (pv 6) (fun _ _ => rfl)) pe_int (fun _ _ => rfl))))) pss_nil)
      (pss_one (ps_asg (pv 8) (pg_sub (pv 2) (pv 6) set_list))))))
    (pss_one (ps_ret (pe_callTy call_tuple_of rfl T.tuple PyProof.Rows.Boot.«tuple» (pa_cons (pv 2) pa_nil))))), ?_⟩
  obtain ⟨dx, ap, ac, ak, ad, as_, ao, ps, qs, ob, pp, tc, tk, td, es, dd, _⟩ := ha.ex
  obtain ⟨dxq, ab, at_, ach, ar, _, oq, hb, _, ⟨xs, ec, tcs⟩, _⟩ := da.ex
  have ln := tcs.length
  rw [List.length_map] at ln
  refine ⟨_, rfl, aw, _, rfl, .inr hw, fun l hl => ?_⟩
  have s0 := same_new hl (.lst (ws.map V.int))
  have ps_ := s0 _ _ oq
  refine ⟨_, rfl, q, D, dxq, _, _, rfl, ps_, DT.cl, DT.nC, rfl, ach, rfl, ⟨_, SqL.of (s0 _ _ ec)⟩, for_list (xs := xs) (fun i σ H' => ∃ (t5 t6 t7 t8 : Option V), σ = [some (.ref p), some (.ref q), some (.ref l), some (.str who), some (.int it), t5, t6, t7, t8] ∧ Same H H' ∧ H' l = some (.lst ((chAll h.cs it ws (d.chs.take i)).map V.int))) ⟨none, none, none, none, rfl, s0, upd_same⟩ (fun i σ H' _ z => by
    obtain ⟨_, _, _, _, _, sm, _⟩ := z
    exact SqL.of (sm _ _ ec)) ?_ ?_⟩
  · rintro i x σ H' hx ⟨t5, t6, t7, t8, rfl, sm, el⟩
    obtain ⟨cd, eq_, tq⟩ := tcs.get hx
    rw [List.getElem?_map] at eq_
    obtain ⟨c, ed, rfl⟩ : ∃ c, d.chs[i]? = some c ∧ cd = c.d := by
      cases e : d.chs[i]? with
      | none =>
        rw [e] at eq_
        cases eq_
      | some t =>
        rw [e] at eq_
        exact ⟨t, rfl, (Option.some.inj eq_).symm⟩
    obtain ⟨a, ys, rfl, hya, hy⟩ := tp_tup (tq.same sm)
    cases hy with
    | cons y0 y1 =>
    cases y1 with
    | cons y1 y2 =>
    cases y2 with
    | cons y2 y3 =>
    cases y3
    have z0 := tp_str y0
    subst z0
    have z1 := tp_int y1
    subst z1
    obtain ⟨c1, c2⟩ := cj c (List.mem_of_getElem? ed)
    have step := chAll_take (cs := h.cs) (it := it) (ws := ws) ed
    have wl2 : (chAll h.cs it ws (d.chs.take i)).length = ws.length := chAll_len
    rw [step]
    generalize chAll h.cs it ws (d.chs.take i) = wi at *
    have c2' := isW_len wl2 c2
    obtain ⟨o1, o2⟩ := Src.out_w (who := who) (it := it) c2'
    refine ⟨a, _, rfl, hya, rfl, _, _, rfl, _, _, rfl, _, _, rfl, rfl, ?_⟩
    refine ⟨_, rfl, _, rfl, _, rfl, _, rfl, _, l, c.s, wi, who, it, rfl, y2, .inr (SqL.of el), o2, fun u tu => ?_⟩
    rw [o1] at tu
    have eu := tp_int tu
    subst eu
    have hj : c.j < wi.length := by omega
    refine ⟨_, rfl, rfl, _, rfl, ?_⟩
    have ixj : ixN (wi.map V.int).length (c.j : Int) = some c.j := by
      unfold ixN
      rw [List.length_map, if_pos (by omega), if_pos (by omega)]
      simp
    cases ea : c.add with
    | true =>
      have e5 : decide (V.str (verb true) = V.str "add") = true := decide_eq_true rfl
      rw [e5]
      refine iteT ?_
      have jl : c.j < h.cs.length := by omega
      have ecell : h.cs[c.j]? = some h.cs[c.j] := List.getElem?_eq_getElem jl
      obtain ⟨cxs, cp, cys, k1, k2, k3, k4⟩ := cell_at (tc.same sm) ecell
      refine ⟨_, rfl, _, rfl, l, _, _, _, rfl, rfl, SqL.of el, atI_nat (int_at hj), _, rfl, _, _, rfl, rfl, ?_⟩
      refine ⟨_, rfl, p, E, dx, _, _, rfl, sm _ _ ob, T.cl, T.n3, rfl, _, rfl, ac, cxs, _, _, rfl, rfl, k1, k2, cp, cys, 1, _, rfl, rfl, k3, k4, _, _, rfl, rfl, cz _ (List.getElem_mem jl), ?_⟩
      refine ⟨_, rfl, _, rfl, _, rfl, l, _, _, c.j, rfl, rfl, el, ixj, ?_⟩
      have es : sizeAt h.cs c.j = h.cs[c.j].z := by
        unfold sizeAt
        rw [ecell]
        rfl
      have e9 : (chStep h.cs it wi c).map V.int = (wi.map V.int).set c.j (.int ((wi.getD c.j 0 + c.s.num? wi it).fmod h.cs[c.j].z)) := by
        unfold chStep
        rw [ea, if_pos rfl, es, List.map_set]
      rw [e9]
      exact ⟨_, _, _, _, rfl, same_grow hl sm, upd_same⟩
    | false =>
      have e5 : decide (V.str (verb false) = V.str "add") = false := by decide +kernel
      rw [e5]
      refine iteF ?_
      refine ⟨_, rfl, _, rfl, _, rfl, l, _, _, c.j, rfl, rfl, el, ixj, ?_⟩
      have e9 : (chStep h.cs it wi c).map V.int = (wi.map V.int).set c.j (.int (c.s.num? wi it)) := by
        unfold chStep
        rw [ea, if_neg (by decide), List.map_set]
      rw [e9]
      exact ⟨_, _, _, _, rfl, same_grow hl sm, upd_same⟩
  · rintro σ H' ⟨t5, t6, t7, t8, rfl, sm, el⟩
    rw [ln, List.take_length] at el
    refine ⟨_, rfl, l, _, rfl, .inl ⟨SqL.of el, fun r hr' => ?_⟩⟩
    exact k r _ (sm.trans (same_new hr' _)) (SqT.of upd_same)
end
end Hx
set_option maxRecDepth 100000
set_option maxHeartbeats 8000000
/-! The stand behind a move. -/
namespace Hx
open PySem PySem.Spec PyProof.Rows L2
def RowD.out (ks : List KindD) (ws : List Int) (who : Str) (it : Int) (r : RowD) : PyData := .tuple [.str ((ks[r.j]?.map (·.x)).getD Str.empty), .tuple (r.ss.map (Src.out ws who it))]
/-- the inner list: what comes from each source -/
theorem lc_srcs {K : PySem.W.Frag} {σ : L2.St} {H : Hp} {a aw : Addr} {xs : List V} {ss : List Src} {ws : List Int} {who : Str} {it : Int} {i s1 s2 s3 s4 : Nat} {Q : VK} (e1 : σ[s1]? = some (some (.ref a))) (e2 : σ[s2]? = some (some (.ref aw))) (e3 : σ[s3]? = some (some (.str who))) (e4 : σ[s4]? = some (some (.int it)))
    (hi : i < σ.length) (n2 : i ≠ s2) (n3 : i ≠ s3) (n4 : i ≠ s4) (ha : SqT K H a xs) (hx : TpAll K H xs (ss.map Src.d)) (hw : SqT K H aw (ws.map V.int)) (hin : ∀ s ∈ ss, s.inn ws) (few : ss.length ≤ 900)
    (k : ∀ G H' ys, Same H H' → H' G = some (.lst ys) → TpAll K H' ys (ss.map (Src.out ws who it)) → Q (.ref G) H') : tLc (iTup K (tVar s1)) (gName i) tYes (tCall (spWork K) [] E0 (tCons (tVar i) (tCons (tVar s2) (tCons (tVar s3) (tCons (tVar s4) tNil))))) [i] σ H Q := by
  have ln := hx.length
  rw [List.length_map] at ln
  refine ⟨_, e1, a, rfl, ⟨_, ha⟩, fun G hG => lc_tup (xs := xs) (fun j H' => Same H H' ∧ ∃ ys, H' G = some (.lst ys) ∧ TpAll K H' ys ((ss.take j).map (Src.out ws who it))) ⟨same_new hG _, [], upd_same, .nil⟩ (fun j H' _ z => same_sqt z.1 ha) ?_ (fun H' z => ?_)⟩
  · rintro j x H' hj ⟨sm, ys, eG, ty⟩
    obtain ⟨d, ed, tp⟩ := hx.get hj
    rw [List.getElem?_map] at ed
    obtain ⟨s, es, rfl⟩ : ∃ c, ss[j]? = some c ∧ d = c.d := by
      cases e : ss[j]? with
      | none =>
        rw [e] at ed
        cases ed
      | some t =>
        rw [e] at ed
        exact ⟨t, rfl, (Option.some.inj ed).symm⟩
    have hlt : j < ss.length := (List.getElem?_eq_some_iff.mp es).1
    refine ⟨set2, yes ⟨_, get_same hi, _, get_other e2 n2, _, get_other e3 n3, _, get_other e4 n4, x, aw, s, ws, who, it, rfl, tp.same sm, .inl (same_sqt sm hw), hin s (List.mem_of_getElem? es), fun u tu => ?_⟩⟩
    refine ⟨ys, eG, ?_, same_grow hG sm, ys ++ [u], upd_same, ?_⟩
    · rw [ty.length, List.length_map, List.length_take]
      exact small1000 (by omega)
    · rw [List.take_add_one, es, List.map_append]
      exact TpAll.append (ty.lst eG) (.cons (tu.lst eG) .nil)
  · obtain ⟨sm, ys, eG, ty⟩ := z
    rw [ln, List.take_length] at ty
    exact k G H' ys sm eG ty
def rTupOf (K : PySem.W.Frag) : List V → Hp → VK → Prop := fun xs H Q => ∃ p ys, xs = [.ref p] ∧ ((SqL K H p ys ∧ ∀ l, H l = none → Q (.ref l) (upd H l (.tup ys))) ∨ (SqT K H p ys ∧ Q (.ref p) H))
theorem call_tuple_ofK {X : Cx} (K : PySem.W.Frag) (h : X.K = K := by rfl) : CallR X (.type "tuple") (rTupOf K) := by
  subst h
  exact call_tuple_of
theorem pi_tupK {X : Cx} (K : PySem.W.Frag) {tg l : Expr} {tl : TE} (hl : PE X l tl) (h : X.K = K := by rfl) : PI X tg l (iTup K tl) := by
  subst h
  exact pi_tup hl
abbrev scRows : Scope := ⟨.function, [(".0", .local), ("kind", .local), ("sources", .local), ("tuple", .globalImplicit), ("it", .cell), ("who", .cell), ("worths", .cell)], false, false, []⟩
theorem get_two {σ : L2.St} {i j m : Nat} {x y : V} (h1 : i ≠ m) (h2 : j ≠ m) : (((wipe σ [i, j]).set i (some x)).set j (some y))[m]? = σ[m]? := by
  rw [List.getElem?_set_ne h2, List.getElem?_set_ne h1, wipe_get, if_neg (by simp [h1.symm, h2.symm])]
theorem lc_rows {K : PySem.W.Frag} {σ : L2.St} {H : Hp} {q D dxq ar aw : Addr} {fs : List (Str × V)} {xs : List V} {rs : List RowD} {ks : List KindD} {ws : List Int} {who : Str} {it : Int} {Q : VK} (e9 : σ[9]? = some (some (.ref q))) (e3 : σ[3]? = some (some (.ref aw))) (e7 : σ[7]? = some (some (.str who))) (e8 : σ[8]? = some (some (.int it))) (hl : 13 < σ.length)
    (ob : H q = some (.ins D dxq fs)) (cl : L2.Cls K D) (nR : NoAttr K D "rows") (fd : fs.lookup ("rows" : Str) = some (.ref ar)) (er : H ar = some (.lst xs)) (tx : TpAll K H xs (rs.map (RowD.d ks))) (hw : SqT K H aw (ws.map V.int)) (hin : ∀ r ∈ rs, (∀ s ∈ r.ss, s.inn ws) ∧ r.ss.length ≤ 900) (few : rs.length ≤ 900)
    (k : ∀ G H' ys, Same H H' → H' G = some (.lst ys) → TpAll K H' ys (rs.map (RowD.out ks ws who it)) → Q (.ref G) H') :
    tLc (iList K (tFld K (tVar 9) "rows")) (gTup K 2 (gCons (gName 11) (gCons (gName 12) gNil))) tYes (tTup (tCons (tVar 11) (tCons (tCB (rTupOf K) (tCons (tLc (iTup K (tVar 12)) (gName 13) tYes (tCall (spWork K) [] E0 (tCons (tVar 13) (tCons (tVar 3) (tCons (tVar 7) (tCons (tVar 8) tNil))))) [13]) tNil)) tNil))) [11, 12] σ H Q := by
  have ln := tx.length
  rw [List.length_map] at ln
  refine ⟨_, e9, q, D, dxq, _, _, rfl, ob, cl, nR, fd, ar, rfl, ⟨_, SqL.of er⟩, fun G hG => lc_list (xs := xs) (fun j H' => Same H H' ∧ ∃ ys, H' G = some (.lst ys) ∧ TpAll K H' ys ((rs.take j).map (RowD.out ks ws who it))) ⟨same_new hG _, [], upd_same, .nil⟩ (fun j H' _ z => SqL.of (z.1 _ _ er)) ?_ (fun H' z => ?_)⟩
  · rintro j x H' hj ⟨sm, ys, eG, ty⟩
    obtain ⟨d, ed, tp⟩ := tx.get hj
    rw [List.getElem?_map] at ed
    obtain ⟨r, es, rfl⟩ : ∃ c, rs[j]? = some c ∧ d = c.d ks := by
      cases e : rs[j]? with
      | none =>
        rw [e] at ed
        cases ed
      | some t =>
        rw [e] at ed
        exact ⟨t, rfl, (Option.some.inj ed).symm⟩
    have hlt : j < rs.length := (List.getElem?_eq_some_iff.mp es).1
    obtain ⟨h1, h2⟩ := hin r (List.mem_of_getElem? es)
    obtain ⟨a, zs, rfl, hya, hy⟩ := tp_tup (tp.same sm)
    cases hy with
    | cons y0 y1 =>
    cases y1 with
    | cons y1 y2 =>
    cases y2
    have z0 := tp_str y0
    subst z0
    obtain ⟨b, bs, rfl, hb, hbs⟩ := tp_tup y1
    have len : (((wipe σ [11, 12]).set 11 (some (.str ((ks[r.j]?.map (·.x)).getD Str.empty)))).set 12 (some (.ref b))).length = σ.length := by simp [wipe_length]
    refine ⟨a, _, rfl, hya, rfl, _, _, rfl, _, _, rfl, rfl, set2b, yes ?_⟩
    have f12 : (((wipe σ [11, 12]).set 11 (some (V.str ((ks[r.j]?.map (·.x)).getD Str.empty)))).set 12 (some (V.ref b)))[12]? = some (some (V.ref b)) := List.getElem?_set_self (by rw [List.length_set, wipe_length]; omega)
    have f11 : (((wipe σ [11, 12]).set 11 (some (V.str ((ks[r.j]?.map (·.x)).getD Str.empty)))).set 12 (some (V.ref b)))[11]? = some (some (V.str ((ks[r.j]?.map (·.x)).getD Str.empty))) := by
      rw [List.getElem?_set_ne (by decide), List.getElem?_set_self (by rw [wipe_length]; omega)]
    refine ⟨_, f11, ?_⟩
    dsimp only [tCons, tCB]
    refine lc_srcs (s1 := 12) (s2 := 3) (s3 := 7) (s4 := 8) (i := 13) f12 ((get_two (by decide) (by decide)).trans e3) ((get_two (by decide) (by decide)).trans e7) ((get_two (by decide) (by decide)).trans e8) (by rw [len]; exact hl) (by decide) (by decide) (by decide) hb hbs (same_sqt sm hw) h1 h2 fun M H2 us s2 eM tus => ?_
    refine ⟨M, us, rfl, .inl ⟨SqL.of eM, fun c hc => ?_⟩⟩
    have s3 := same_new hc (.tup us)
    refine ⟨sz (by decide : 2 ≤ 1000), fun e he => ?_⟩
    have s4 := same_new he (.tup [.str ((ks[r.j]?.map (·.x)).getD Str.empty), .ref c])
    have s24 := s2.trans (s3.trans s4)
    have tn : Tp K (upd (upd H2 c (.tup us)) e (.tup [.str ((ks[r.j]?.map (·.x)).getD Str.empty), .ref c])) (.ref e) (r.out ks ws who it) := .tup (SqT.of upd_same) (.cons (.str _) (.cons (.tup (same_sqt s4 (SqT.of upd_same)) (tus.same (s3.trans s4))) .nil))
    have eG4 := s24 _ _ eG
    have ty4 := ty.same s24
    have sm4 := sm.trans s24
    show ∃ acc, upd (upd H2 c (.tup us)) e (.tup [.str ((ks[r.j]?.map (·.x)).getD Str.empty), .ref c]) G = some (.lst acc) ∧ _
    generalize upd (upd H2 c (.tup us)) e (.tup [.str ((ks[r.j]?.map (·.x)).getD Str.empty), .ref c]) = H4 at *
    refine ⟨ys, eG4, ?_, same_grow hG sm4, ys ++ [.ref e], upd_same, ?_⟩
    · rw [ty.length, List.length_map, List.length_take]
      exact small1000 (by omega)
    · rw [List.take_add_one, es, List.map_append]
      exact TpAll.append (ty4.lst eG4) (.cons (tn.lst eG4) .nil)
  · obtain ⟨sm, ys, eG, ty⟩ := z
    rw [ln, List.take_length] at ty
    exact k G H' ys sm eG ty
/-- a deed whose tests, changes and rows fit these worths -/
def DeedFit (ws : List Int) (d : DeedD) : Prop := (∀ t ∈ d.ts, t.j < ws.length) ∧ d.ts.length ≤ 2 ∧ (∀ c ∈ d.chs, c.j < ws.length ∧ c.s.isW ws) ∧ (∀ r ∈ d.rs, (∀ s ∈ r.ss, s.inn ws) ∧ r.ss.length ≤ 900) ∧ d.rs.length ≤ 900
inductive Behind (h : HouseD) (ws : List Int) (n : Int) : MoveD → PyData → PyData → Prop
  | night : Behind h ws n .night (standD ws 0) (.tuple [])
  | act {j : Nat} {d : DeedD} {who : Str} {it : Int} : h.ds[j]? = some d → PyData.strOk d.x = true → PyData.strOk who = true → DeedFit ws d → Behind h ws n (.act d.x who it) (standD (chAll h.cs it ws d.chs) (n + 1)) (.tuple (d.rs.map (RowD.out h.ks (chAll h.cs it ws d.chs) who it)))
theorem inn_len {ws ws' : List Int} {s : Src} (e : ws'.length = ws.length) (h : s.inn ws) : s.inn ws' := by
  cases s with
  | cell j =>
    show j < ws'.length
    have : j < ws.length := h
    omega
  | it => trivial
  | num v => trivial
  | who => trivial
  | person x => trivial
section
variable {P : Program} {w : World} {K : PySem.W.Frag} {mg : Str → Option Value} {base : Heap} {D E fI : Addr}
def spBehind (D E : Addr) (K : PySem.W.Frag) : Sp := fun vs H Q _ => ∃ (p : Addr) (t : Str) (h : HouseD) (v u : V) (ws : List Int) (n : Int) (m : MoveD) (s b : PyData), vs = [.ref p, v, u] ∧ HouseAt K D E H p t h ∧ (h.ds.map (·.x)).Nodup ∧ ws.length = h.cs.length ∧ (∀ c ∈ h.cs, c.z ≠ 0) ∧ Tp K H v (standD ws n) ∧ Tp K H u m.d ∧ Behind h ws n m s b ∧
  ∀ a H', Same H H' → Tp K H' a (.tuple [s, b]) → Q a H'
abbrev nBehind : List Str := ["house", "stand", "move", "worths", "today", "_", "name", "who", "it", "deed", "rows", "kind", "sources", "source"]
theorem scBehind : FnScope nBehind ["house", "stand", "move"] (defScope sBehind) := ⟨rfl, rfl, rfl, by decide +kernel, rfl, by decide +kernel, by decide +kernel⟩
theorem ok_behind {f : Addr} {fd : FuncData} (F : Fun K "stand_behind" "stand_behind" sBehind f fd) (T : STxt K mg E) (DT : DTxt K mg D fI) (GW : DefOk P w K mg base "worked_out" 1 ["source", "worths", "who", "it"] (spWork K)) (GC : DefOk P w K mg base "changed" 2 ["house", "deed", "worths", "who", "it"] (spChanged D E K)) :
    FnOk P w K mg base CX0 3 f fd ["house", "stand", "move"] (spBehind D E K) := by
  refine F.ok scBehind (fun vs H Q E h => ?_) (fun cdv A outer s H vs Q Ex hr h => ?_)
  · obtain ⟨p, t, h, v, u, ws, n, m, s, b, rfl, _⟩ := h
    rfl
  obtain ⟨p, t, h, v, u, ws, n, m, st, bk, rfl, ha, dn, wl, cz, tv, tu, be, k⟩ := h
  have nd := scBehind.nd
  have hu := hr.units
  have hr1 : Room 1 (A.deeper (envOfC "stand_behind" (defScope sBehind) s.heap.objs.size f cdv)) := hr.mono (by decide)
  obtain ⟨aN, mgN, hN⟩ := T.night
  refine ⟨_, pss_cons (ps_asg (pv 1) (pg_tup rfl (pgs_cons (pg_name (i := 3) nd rfl (.inr rfl)) (pgs_cons (pg_name (i := 4) nd rfl (.inl rfl)) pgs_nil))))
    (pss_cons (ps_if (pt_cmpR (op_eqD hu) (pv 2) (pe_glob (v := .ref aN) rfl mgN rfl) (nomark _)) (pss_one (ps_ret (pe_tup (pa_cons (pe_tup (pa_cons (pv 3) (pa_cons pe_int pa_nil))) (pa_cons (pe_tup pa_nil) pa_nil))))) pss_nil)
    (pss_cons (ps_asg (pv 2) (pg_tup rfl (pgs_cons (pg_name (i := 5) nd rfl (.inl rfl)) (pgs_cons (pg_name (i := 6) nd rfl (.inl rfl)) (pgs_cons (pg_name (i := 7) nd rfl (.inr rfl)) (pgs_cons (pg_name (i := 8) nd rfl (.inr rfl)) pgs_nil))))))
    (pss_cons (ps_set (i := 9) nd rfl (.inl rfl) (pe_dget (hu_of hr) (pe_fld (pv 0) rfl) (pv 6) (fun _ _ => rfl)))
    (pss_cons (ps_set (i := 3) nd rfl (.inr rfl) (pe_D GC hr rfl (pa_cons (pv 0) (pa_cons (pv 9) (pa_cons (pv 3) (pa_cons (pv 7) (pa_cons (pv 8) pa_nil)))))))
    (pss_cons (ps_setLc (i := 10) (own := [("kind", 11), ("sources", 12)]) (g := gTup K 2 (gCons (gName 11) (gCons (gName 12) gNil))) (tt := tYes) rfl nd rfl rfl (sw_true rfl rfl rfl (by decide +kernel)) (pi_list (pe_fld (pv 9) rfl)) (blkOk_by (N := nBehind) (sc := defScope sBehind) (by decide +kernel))
        (fun _ _ _ _ _ => pg_tupK K (pgs_cons (pg_name (i := 11) nd rfl (Or.inl rfl)) (pgs_cons (pg_name (i := 12) nd rfl (Or.inl rfl)) pgs_nil))) (fun _ _ _ _ _ => pts_nil)
        (fun _ _ _ _ _ => pe_tup (pa_cons (pv 11) (pa_cons (pe_callTy (call_tuple_ofK K) rfl T.tuple PyProof.Rows.Boot.«tuple» (pa_cons
          (pe_lc (own := [("source", 13)]) (g := gName 13) (tt := tYes) rfl nd (pi_tupK K (pv 12)) (blkOk_by (N := nBehind) (sc := scRows) (by decide +kernel)) (fun _ _ _ _ _ => pg_name (i := 13) nd rfl (Or.inl rfl)) (fun _ _ _ _ _ => pts_nil)
            (fun _ _ _ _ _ => pe_D GW hr1 rfl (pa_cons (pv 13) (pa_cons (pv 3) (pa_cons (pv 7) (pa_cons (pv 8) pa_nil)))))) pa_nil)) pa_nil))))
    (pss_one (ps_ret (pe_tup (pa_cons (pe_tup (pa_cons (pv 3) (pa_cons (pe_op op_add (pv 4) pe_int) pa_nil))) (pa_cons (pe_callTy call_tuple_of rfl T.tuple PyProof.Rows.Boot.«tuple» (pa_cons (pv 10) pa_nil)) pa_nil)))))))))), ?_⟩
  obtain ⟨dx, ap, ac, ak, ad, as_, ao, ps, qs, ob, pp, tc, tk, td, es, dd, _⟩ := ha.ex
  obtain ⟨va, vys, rfl, hva, hvy⟩ := tp_tup tv
  cases hvy with
  | cons g0 g1 =>
  cases g1 with
  | cons g1 g2 =>
  cases g2
  have e1 := tp_int g1
  subst e1
  obtain ⟨wa, wys, rfl, hwa, hwy⟩ := tp_tup g0
  have ew := tpa_ints hwy
  subst ew
  refine ⟨_, rfl, va, _, rfl, hva, rfl, _, _, rfl, _, _, rfl, rfl, ?_⟩
  cases be with
  | night =>
    refine ⟨_, rfl, MoveD.night.d, MoveD.night.d, tu.dp, (tp_night (hN _)).dp, shaped_night, shaped_night, _, rfl, ?_⟩
    rw [eq_night]
    refine iteT ⟨_, rfl, sz (by decide : 2 ≤ 1000), fun a ha' => ?_⟩
    have s1 := same_new ha' (.tup [.ref wa, .int 0])
    refine ⟨sz (by decide : 0 ≤ 1000), fun b hb => ?_⟩
    have s2 := same_new hb (.tup [])
    refine ⟨sz (by decide : 2 ≤ 1000), fun c hc => ?_⟩
    have s3 := same_new hc (.tup [.ref a, .ref b])
    refine k _ _ (s1.trans (s2.trans s3)) (.tup (SqT.of upd_same) (.cons (.tup (same_sqt (s2.trans s3) (SqT.of upd_same)) (.cons (.tup (same_sqt (s1.trans (s2.trans s3)) hwa) (tpa_of_ints _)) (.cons (.int _) .nil))) (.cons (.tup (same_sqt s3 (SqT.of upd_same)) .nil) .nil)))
  | @act j d who it ej s1 s2 fit =>
    obtain ⟨f1, f2, f3, f4, f5⟩ := fit
    refine ⟨_, rfl, (MoveD.act d.x who it).d, MoveD.night.d, tu.dp, (tp_night (hN _)).dp, shaped_act it s1 s2, shaped_night, _, rfl, ?_⟩
    rw [eq_act]
    refine iteF ?_
    obtain ⟨ua, uys, rfl, hua, huy⟩ := tp_tup tu
    cases huy with
    | cons u0 u1 =>
    cases u1 with
    | cons u1 u2 =>
    cases u2 with
    | cons u2 u3 =>
    cases u3 with
    | cons u3 u4 =>
    cases u4
    have e1 := tp_str u1
    subst e1
    have e2 := tp_str u2
    subst e2
    have e3 := tp_int u3
    subst e3
    have np : ps.length = h.ds.length := dd.len
    have jl : j < ps.length := by rw [np]; exact (List.getElem?_eq_some_iff.mp ej).1
    have ep : ps[j]? = some ps[j] := List.getElem?_eq_getElem jl
    obtain ⟨d', ed', da, _⟩ := dd.at ep
    rw [ej] at ed'
    cases ed'
    refine ⟨_, rfl, ua, _, rfl, hua, rfl, _, _, rfl, _, _, rfl, _, _, rfl, _, _, rfl, rfl, ?_⟩
    refine ⟨_, rfl, p, E, dx, _, _, rfl, ob, T.cl, T.n6, rfl, _, rfl, as_, .ref ps[j], rfl, ?_, ?_⟩
    · rw [← valV_zip dn ej ep]
      exact DGet.k (k := Sum.inr d.x) es
    refine ⟨_, rfl, _, rfl, _, rfl, _, rfl, _, rfl, p, ps[j], wa, t, h, d, _, ws, who, it, rfl, ha, da, hwa, wl, cz, f3, fun a H1 sm1 hs1 => ?_⟩
    have wl2 : (chAll h.cs it ws d.chs).length = ws.length := chAll_len
    generalize chAll h.cs it ws d.chs = ws2 at *
    obtain ⟨dxq, ab, at_, ach, ar, _, oq, hb, _, _, ⟨xs, er, trs⟩⟩ := (da.same sm1).ex
    dsimp only [gName]
    refine seq_asg ?_
    refine lc_rows (ks := h.ks) (rs := d.rs) (ws := ws2) (who := who) (it := it) rfl rfl rfl rfl (by show 13 < 14; decide) oq DT.cl DT.nR rfl er trs hs1 (fun r hr' => ⟨fun s hs => inn_len wl2 ((f4 r hr').1 s hs), (f4 r hr').2⟩) f5 fun G H2 ys sm2 eG ty => ?_
    refine ⟨_, rfl, _, rfl, _, _, rfl, rfl, sz (by decide : 2 ≤ 1000), fun b hb => ?_⟩
    have s3 := same_new hb (.tup [.ref a, .int (n + 1)])
    refine ⟨_, rfl, G, _, rfl, .inl ⟨SqL.of (s3 _ _ eG), fun c hc => ?_⟩⟩
    have s4 := same_new hc (.tup ys)
    refine ⟨sz (by decide : 2 ≤ 1000), fun e he => ?_⟩
    have s5 := same_new he (.tup [.ref b, .ref c])
    refine k _ _ (sm1.trans (sm2.trans (s3.trans (s4.trans s5)))) (.tup (SqT.of upd_same) (.cons (.tup (same_sqt (s4.trans s5) (SqT.of upd_same)) (.cons (.tup (same_sqt (sm2.trans (s3.trans (s4.trans s5))) hs1) (tpa_of_ints _)) (.cons (.int _) .nil))) (.cons (.tup (same_sqt s5 (SqT.of upd_same)) (ty.same (s3.trans (s4.trans s5)))) .nil)))
/-! ### after -/
def spAfter (D E : Addr) (K : PySem.W.Frag) : Sp := fun vs H Q _ => ∃ (p : Addr) (t : Str) (h : HouseD) (v u : V) (ws : List Int) (n : Int) (m : MoveD) (s b : PyData), vs = [.ref p, v, u] ∧ HouseAt K D E H p t h ∧ (h.ds.map (·.x)).Nodup ∧ h.cs.length ≤ 3 ∧ Fits h.cs ws ∧ 0 ≤ n ∧ n ≤ h.day ∧ (∀ c ∈ h.cs, c.z ≠ 0) ∧ Tp K H v (standD ws n) ∧ Tp K H u m.d ∧ IsMv h m ∧ MayB h ws n m true ∧ Behind h ws n m s b ∧
  ∀ a H', Same H H' → Tp K H' a (.tuple [s, b]) → Q a H'
theorem scAfter : FnScope ["house", "stand", "move"] ["house", "stand", "move"] (defScope sAfter) := ⟨rfl, rfl, rfl, by decide +kernel, rfl, by decide +kernel, by decide +kernel⟩
theorem ok_after {f : Addr} {fd : FuncData} (F : Fun K "after" "after" sAfter f fd) (GS : DefOk P w K mg base "is_stand" 2 ["house", "value"] (spStand D E K)) (GM : DefOk P w K mg base "is_move" 3 ["house", "value"] (spIsMove D E K)) (GP : DefOk P w K mg base "is_possible" 2 ["house", "stand", "move"] (spPoss D E K)) (GB : DefOk P w K mg base "stand_behind" 3 ["house", "stand", "move"] (spBehind D E K)) :
    FnOk P w K mg base CX0 4 f fd ["house", "stand", "move"] (spAfter D E K) := by
  refine F.ok scAfter (fun vs H Q E h => ?_) (fun cdv A outer s H vs Q Ex hr h => ?_)
  · obtain ⟨p, t, h, v, u, ws, n, m, s, b, rfl, _⟩ := h
    rfl
  obtain ⟨p, t, h, v, u, ws, n, m, st, bk, rfl, ha, dn, c3, fit, n0, n1, cz, tv, tu, im, may, be, k⟩ := h
  have hr2 : Room 2 (A.deeper (envOfC "after" (defScope sAfter) s.heap.objs.size f cdv)) := hr.mono (by decide)
  refine ⟨_, pss_cons (ps_if (pt_not (pt_val (pe_D GS hr2 rfl (pa_cons (pv 0) (pa_cons (pv 1) pa_nil))))) pss_never pss_nil)
    (pss_cons (ps_if (PW.pt (pw_or (pt_not (pt_val (pe_D GM hr rfl (pa_cons (pv 0) (pa_cons (pv 2) pa_nil))))) (pw_or1 (pt_not (pt_val (pe_D GP hr2 rfl (pa_cons (pv 0) (pa_cons (pv 1) (pa_cons (pv 2) pa_nil))))))))) pss_never pss_nil)
    (pss_one (ps_ret (pe_D GB hr rfl (pa_cons (pv 0) (pa_cons (pv 1) (pa_cons (pv 2) pa_nil))))))), ?_⟩
  refine ⟨_, rfl, _, rfl, p, t, h, v, ws, n, rfl, ha, c3, tv, fit, n0, n1, fun H1 s1 => ⟨_, rfl, iteF ?_⟩⟩
  refine ⟨_, rfl, _, rfl, p, t, h, u, m, rfl, ha.same s1, dn, tu.same s1, im, fun H2 s2 => ⟨_, rfl, iteF ?_⟩⟩
  refine ⟨_, rfl, _, rfl, _, rfl, p, t, h, v, u, ws, n, m, true, rfl, (ha.same s1).same s2, dn, (tv.same s1).same s2, (tu.same s1).same s2, may, fun H3 s3 => ⟨_, rfl, iteF ?_⟩⟩
  have s03 := s1.trans (s2.trans s3)
  exact ⟨_, rfl, _, rfl, _, rfl, p, t, h, v, u, ws, n, m, st, bk, rfl, ha.same s03, dn, fit.1, cz, tv.same s03, tu.same s03, be, fun a H' s4 => k a H' (s03.trans s4)⟩
end
end Hx
set_option maxRecDepth 100000
set_option maxHeartbeats 8000000
/-! enumerate of a tuple, from 0 or by start=. -/
namespace Hx
open PySem PySem.Spec PyProof.Rows L2
section
variable {prog : Program} {w : World} {A : Around} {E : Value → Shared → Prop} {s : Shared}
/-- a built-in class called with some keywords -/
theorem callWith_kwT {M : Model} {env : Env} {pos : Pos} {T : String} {e : Expr} {rest : List Expr} {kws : List Keyword} {Q : Value → Shared → Prop}
    (h : wpAny M A (spliced (backTo pos (starEach (e :: rest) env))) (fun vs s1 => wpAny M A (evalAll ((backToKw pos (keywordEach kws env)).map (·.2))) (fun kvs s2 => wpAny M A (call (.type T) vs (((backToKw pos (keywordEach kws env)).filterMap (·.1)).zip kvs)) Q E s2) E s1) E s)
    (he : backTo pos (starEach (e :: rest) env) = (false, eval e env) :: backTo pos (starEach rest env) := by rfl) (hp : (backTo pos (starEach (e :: rest) env)).any (·.1) = false := by rfl)
    (ha : (backToKw pos (keywordEach kws env)).all (·.1.isSome) = true := by rfl) (hk : (backToKw pos (keywordEach kws env)).any (·.1.isNone) = false := by rfl) :
    wpAny M A (callWith pos (.type T) [] (backTo pos (starEach (e :: rest) env)) (backToKw pos (keywordEach kws env))) Q E s := by
  have inner : wpAny M A (evalArgs (.type T) true (backTo pos (starEach (e :: rest) env)) (backToKw pos (keywordEach kws env))) (fun a s1 => wpAny M A (call (.type T) ([] ++ a.pos) a.kw) Q E s1) E s := by
    rw [he] at h ⊢
    unfold evalArgs
    show wpAny M A (spliced _ >>= _) _ E s
    refine wpAny_bind (thn h fun vs s1 h1 => wpAny_holding ?_)
    rw [if_pos ha]
    exact wpAny_bind (thn h1 fun kvs s2 h2 => wpAny_bind (wpAny_pure (wpAny_pure h2)))
  unfold callWith
  refine wpAny_bind (wpAny_holding (thn inner fun a s1 h1 => wpAny_bind (wpAny_standAt ?_)))
  simp only [hp, hk, Bool.or_false]
  refine wpAny_bind (wpAny_pure ?_)
  exact wpAny_bind (thn h1 fun r s2 hr => wpAny_bind (wpAny_holding (wpAny_point (wpAny_pure hr))))
theorem en_made {self v : Value} {kw : List (Str × Value)} : Meets (Builtin.«object.__init__» ⟨[self, v], kw⟩) (fun _ R s => s.TypeIs self "enumerate" ∧ R (.ok (.ret .none)) s) := by
  refine Meets.of_wp fun prog w A R s hs => ?_
  obtain ⟨hT, hq⟩ := hs
  have hl : typeLookup (.type "enumerate") "__init__" = pure (some (.builtin "object.__init__")) := F.called_enumerate.init.lookup
  have hm : Bind.madeBy (.type "enumerate") = pure (some "enumerate.__new__") := F.called_enumerate.made
  have hne : (some "enumerate.__new__" != some "object.__new__") = true := by decide
  repeat (any_goals (first | assumption | wp_step))
  exact ⟨_, rfl, hq⟩
/-- a class of the table called, whatever the keywords -/
theorem type_called {newId : String} {T : String} {Bn : Builtin} {args : List Value} {kw : List (Str × Value)} {S : PySem.Spec} {Q : Value → Shared → Prop} (ft : TypeCalled T newId "object.__init__") (hct : checkTypeCall T ⟨args, kw⟩ = pure ())
    (hcn : checkBuiltinCall newId ⟨.type T :: args, kw⟩ = pure ()) (hok : ∀ obj, argsOk "object.__init__" ⟨obj :: args, kw⟩) (en : entryFor table newId = some Bn) (g : Meets (Bn ⟨.type T :: args, kw⟩) S)
    (gi : ∀ obj, Meets (Builtin.«object.__init__» ⟨obj :: args, kw⟩) (fun _ R s => s.TypeIs obj T ∧ R (.ok (.ret .none)) s)) (h : S A.in1 (wants (fun obj s1 => s1.TypeIs obj T ∧ Q obj s1) E) s) :
    wpAny (model prog w) A (call (.type T) args kw) Q E s := by
  obtain ⟨c0, t0, m0⟩ := ft.mro
  have m1 := ft.made
  have m2 := ft.sub
  have m3 := ft.notType
  have m4 := ft.canCreate
  refine wpAny_call (codeAny_of_tree ?_)
  show wpAny _ _ (callAny (.type T) _) _ _ _
  refine wpAny_pure ⟨Code.quiet_builtin _ (by decide +kernel), codeAny_builtin F.entry_type_call ?_⟩
  rw [Around.under_plain (weight_type_call_type T args kw) (units_type_call_type T args kw)]
  repeat (any_goals (first | assumption | wp_step))
  refine codeAny_mono (codeAny_call_builtin ft.plain en (wpAny_of_eq hcn (g prog w A.in1 _ s h))) fun r s1 hr => ?_
  rcases r with e | fl
  · exact hr
  cases fl
  all_goals first | exact hr.elim | skip
  rename_i obj
  obtain ⟨hT, hq⟩ := hr
  have m5 := ft.init.lookup
  have m6 := ft.init.bind obj
  repeat (any_goals (first | assumption | wp_step))
  refine codeAny_mono (codeAny_call_builtin (R := wants (fun r s2 => r = .none ∧ Q obj s2) E) ft.init.plain F.entry_object_init (ft.init.check _ _ _ _ _ _ _ _ hT (hok obj) (gi obj prog w A.in1 _ s1 ⟨hT, rfl, hq⟩))) fun r2 s2 hr2 => ?_
  rcases r2 with e | fl
  · exact hr2
  cases fl
  all_goals first | exact hr2.elim | skip
  obtain ⟨rfl, hq⟩ := hr2
  repeat (any_goals (first | assumption | wp_step))
theorem en_check_t (v x : Value) : checkTypeCall "enumerate" ⟨[v], [("start", x)]⟩ = pure () := by kernel_rfl
theorem en_check_n (v x : Value) : checkBuiltinCall "enumerate.__new__" ⟨[.type "enumerate", v], [("start", x)]⟩ = pure () := by kernel_rfl
theorem en_check_o (o v x : Value) : argsOk "object.__init__" ⟨[o, v], [("start", x)]⟩ := by
  unfold argsOk
  rw [signature?_of (id := "object.__init__") (n := ['_', '_', 't', 'i', 'n', 'i', '_', '_']) (o := ['t', 'c', 'e', 'j', 'b', 'o']) (by kernel_rfl) F.owner_object]
  kernel_rfl
/-- the heap with a new iterator o and an enumerate over it -/
abbrev enH (h : Heap) (o : Obj) (k : Int) : Heap := (h.push o).push { cls := .type "enumerate", data := .fields #[.none, .bool false, .ref h.objs.size, rawInt k, .none, .none] }
theorem en_new_kw {v : Value} {o : Obj} {H : Heap → Prop} (B : Begins v o H) (k : Int) (t : Tok) (hfit : Builtin.SmallTypes.fitsIndex k = true) :
    Meets (Builtin.«enumerate.__new__» ⟨[.type "enumerate", v], [("start", .int k t)]⟩) (fun _ R s => H s.heap ∧ R (.ok (.ret (.ref (s.heap.push o).objs.size))) { s with heap := enH s.heap o k }) :=
  .of_wp fun prog w A R s h => by
    obtain ⟨hp, g, d, tk, os⟩ := s
    obtain ⟨h1, h⟩ := h
    have sub := sub_enumerate
    have nf : (!Builtin.SmallTypes.fitsIndex k) = false := by rw [hfit]; rfl
    have q1 : ∀ {A' : Around} {E : Value → Shared → Prop} {Q : Value → Shared → Prop}, Q (.ref hp.objs.size) ⟨hp.push o, g, d, tk, os⟩ → wpAny (model prog w) A' (pyIter v) Q E ⟨hp, g, d, tk, os⟩ := fun q => B.iter prog w _ _ ⟨hp, g, d, tk, os⟩ _ h1 q
    wp_walk using q1
    refine wpAny_stack_any fun st => wpAny_pure ?_
    split
    · rename_i c _ _ _ _ _
      cases (c == Value.type "enumerate") <;> (wp_walk using q1; exact ⟨_, rfl, h⟩)
    · wp_walk using q1
      exact ⟨_, rfl, h⟩
theorem en_new {v : Value} {o : Obj} {H : Heap → Prop} (B : Begins v o H) :
    Meets (Builtin.«enumerate.__new__» ⟨[.type "enumerate", v], []⟩) (fun _ R s => H s.heap ∧ R (.ok (.ret (.ref (s.heap.push o).objs.size))) { s with heap := enH s.heap o 0 }) :=
  .of_wp fun prog w A R s h => by
    obtain ⟨hp, g, d, tk, os⟩ := s
    obtain ⟨h1, h⟩ := h
    have sub := sub_enumerate
    have q1 : ∀ {A' : Around} {E : Value → Shared → Prop} {Q : Value → Shared → Prop}, Q (.ref hp.objs.size) ⟨hp.push o, g, d, tk, os⟩ → wpAny (model prog w) A' (pyIter v) Q E ⟨hp, g, d, tk, os⟩ := fun q => B.iter prog w _ _ ⟨hp, g, d, tk, os⟩ _ h1 q
    wp_walk using q1
    refine wpAny_stack_any fun st => wpAny_pure ?_
    split
    · rename_i c _ _ _ _ _
      cases (c == Value.type "enumerate") <;> (wp_walk using q1; exact ⟨_, rfl, h⟩)
    · wp_walk using q1
      exact ⟨_, rfl, h⟩
/-- what is asked behind the new objects -/
def EnGo (s : Shared) (o : Obj) (k : Int) (Q : Value → Shared → Prop) : Prop := ∀ h', IsEnum h' (s.heap.objs.size + 1) s.heap.objs.size k .none → h'.get? s.heap.objs.size = some o → (∀ b u, s.heap.get? b = some u → h'.get? b = some u) → Q (.ref (s.heap.objs.size + 1)) { s with heap := h' }
theorem EnGo.at {o : Obj} {k : Int} {Q : Value → Shared → Prop} (free : o.isFreed = false) (h : EnGo s o k Q) : wants (fun obj s1 => s1.TypeIs obj "enumerate" ∧ Q obj s1) E (.ok (.ret (.ref (s.heap.push o).objs.size))) { s with heap := enH s.heap o k } := by
  have z : (s.heap.push o).objs.size = s.heap.objs.size + 1 := Heap.size_push ..
  have e : (enH s.heap o k).get? (s.heap.push o).objs.size = some _ := Heap.get?_push_size _ rfl
  show _ ∧ _
  rw [z] at e ⊢
  exact ⟨⟨_, e, rfl⟩, h _ e (Heap.get?_push_of_some _ (Heap.get?_push_size _ free)) fun b u q => Heap.get?_push_of_some _ (Heap.get?_push_of_some _ q)⟩
theorem en_call_kw {v : Value} {o : Obj} {H : Heap → Prop} {k : Int} {t : Tok} {Q : Value → Shared → Prop} (B : Begins v o H) (h1 : H s.heap) (k0 : 0 ≤ k) (k1 : k < 1000) (h : EnGo s o k Q) : wpAny (model prog w) A (call (.type "enumerate") [v] [("start", .int k t)]) Q E s :=
  type_called F.called_enumerate (en_check_t _ _) (en_check_n _ _) (fun o => en_check_o _ _ _) F.entry_enumerate_new (en_new_kw B k t (fits_start (by omega) (by omega))) (fun _ => en_made) ⟨h1, h.at B.free⟩
theorem en_call {v : Value} {o : Obj} {H : Heap → Prop} {Q : Value → Shared → Prop} (B : Begins v o H) (h1 : H s.heap) (h : EnGo s o 0 Q) : wpAny (model prog w) A (call (.type "enumerate") [v]) Q E s :=
  type_called F.called_enumerate (F.typeCall_enumerate_1 _) (F.newCall_enumerate_1 _) (fun obj => F.args_object_init_2 obj _) F.entry_enumerate_new (en_new B) (fun _ => en_made) ⟨h1, h.at B.free⟩
end
/-- a tuple's items, each behind its number, from k on -/
def IteT (K : PySem.W.Frag) (a : Addr) (k : Int) : It where
  stop := fun i H => ∃ xs, SqT K H a xs ∧ xs.length = i
  go := fun i H => ∃ xs x, SqT K H a xs ∧ xs[i]? = some x
  yld := fun i H v H' => ∃ T x, v = .ref T ∧ H T = none ∧ H' = upd H T (.tup [.int (k + (i : Nat)), x]) ∧ ∀ xs, SqT K H a xs → xs[i]? = some x
theorem en_turn {P : Program} {w : World} {K : PySem.W.Frag} {elts : List Expr} {kk : Nat} {tpos : Pos} {a e it : Addr} {k : Int} (ne : e ≠ it) (na : a ≠ it) (nea : e ≠ a) :
    Turn P w K (.Tuple elts kk tpos) (IteT K a k) [e, it] e (fun i h => (∃ old, IsEnum h e it (k + (i : Nat)) old) ∧ h.IsTupleIter it a i) where
  mem := List.mem_cons_self ..
  obj := by
    intro i h st b hb
    obtain ⟨⟨old, he⟩, o, ho, _, hd⟩ := st
    simp only [List.mem_cons, List.not_mem_nil, or_false] at hb
    rcases hb with rfl | rfl
    · exact ⟨_, he, fun v q => by cases q⟩
    · exact ⟨o, ho, fun v q => by rw [hd] at q; cases q⟩
  keep := by
    intro i h h' st kp
    obtain ⟨⟨old, he⟩, hi⟩ := st
    exact ⟨⟨old, kp e (by simp) _ he⟩, hi.at fun o q => kp it (by simp) o q⟩
  item := by
    intro X hP hw hK hc i pins s σ H E I hf st hg
    subst hP hw hK
    obtain ⟨xs, x, hq, hx⟩ := hg
    obtain ⟨⟨old, he⟩, hit⟩ := st
    obtain ⟨us, rx, p, _⟩ := I.tuple hq
    obtain ⟨u, hu, ru⟩ := rx.get hx
    have el : e < s.heap.objs.size := Heap.lt_size he
    have il : it < s.heap.objs.size := by
      obtain ⟨_, q, _⟩ := id hit
      exact Heap.lt_size q
    have lt : i < us.toArray.size := by
      rw [List.size_toArray]
      exact (List.getElem?_eq_some_iff.mp hu).1
    have hef : e ∉ [it, a] := by
      simp only [List.mem_cons, List.not_mem_nil, or_false, not_or]
      exact ⟨ne, nea⟩
    refine wpAny_pyNext_enum_itemC (i := i) (Draws.tuple (A := X.A.in1) (I.ok.hd hc) it a na us.toArray) he ⟨hit, p⟩ lt ne hef fun x' h' tk px ho st' ht sz kp => ?_
    have px : us[i]? = some x' := by simpa using px
    rw [hu] at px
    obtain rfl := Option.some.inj px
    refine ⟨_, rfl, wpAny_letOwnedTupleGo_enum (s := { s with heap := h', toks := tk + 1 }) ho fun h2 he2 sb => ?_⟩
    have ne0 : s.heap.objs.size ≠ e := fun q => Nat.lt_irrefl _ (q ▸ el)
    have ht2 : h2.get? s.heap.objs.size = some { cls := .type "tuple", data := .seq #[.int (k + (i : Nat)) tk, u] } := (sb.2 _ ne0).trans ht
    have I1 : Inv X pins σ (upd H s.heap.objs.size (.tup [.int (k + (i : Nat)), x])) { s with heap := h2, toks := tk + 1 } := by
      refine I.turnedNew (t' := tk + 1) (ch := [e, it]) (fun b o hb q => ?_) hf (Nat.le_refl _) ⟨by show 2 ≤ sizeLine; decide, [.int (k + (i : Nat)) tk, u], .cons ⟨_, rfl⟩ (.cons ru .nil), ⟨_, ht2, rfl, _, rfl⟩⟩
      simp only [List.mem_cons, List.not_mem_nil, or_false, not_or] at hb
      exact (sb.2 b hb.1).trans (kp b o hb.1 hb.2 q)
    refine ⟨.ref s.heap.objs.size, _, I1, rfl, ⟨_, x, rfl, I.hok.fresh (Nat.le_refl _), rfl, fun ys hy => ?_⟩, ⟨⟨u, ?_⟩, st'.1.at fun o q => (sb.2 it (Ne.symm ne)).trans q⟩, fun b hb => ?_⟩
    · rw [I.tuple_inj hy hq]
      exact hx
    · rw [show k + ((i + 1 : Nat) : Int) = k + (i : Nat) + 1 by omega]
      exact he2
    · have lt : b < s.heap.objs.size := by
        simp only [List.mem_cons, List.not_mem_nil, or_false] at hb
        rcases hb with rfl | rfl
        · exact el
        · exact il
      rw [upd_ne (fun z => Nat.lt_irrefl _ (z ▸ lt))]
      exact (hf b hb).1
  done := by
    intro X hP hw hK hc i pins s σ H E I hf st hg
    subst hP hw hK
    obtain ⟨xs, hq, hl⟩ := hg
    obtain ⟨⟨old, he⟩, hit⟩ := st
    obtain ⟨us, rx, p, _⟩ := I.tuple hq
    have m : us.toArray.size = i := by rw [List.size_toArray, ← rx.length, hl]
    refine wpAny_pyNext_enum_endD (Draws.tuple (A := X.A.in1) (I.ok.hd hc) it a na us.toArray) he (by rw [m]; exact ⟨hit, p⟩) fun h' kp => ⟨rfl, ?_⟩
    refine I.turnedL (t' := s.toks) (ch := [e, it]) (fun b o hb q => ?_) hf
    simp only [List.mem_cons, List.not_mem_nil, or_false, not_or] at hb
    exact kp b o hb.2 q
  self := fun A i s Q E st h => by
    obtain ⟨⟨_, he⟩, _⟩ := st
    exact wpAny_pyIter_enum he h
theorem en_pie {X : Cx} {pins : List (Addr × Obj)} {σ : L2.St} {H1 : Hp} {s1 : Shared} {elts : List Expr} {kk : Nat} {tpos : Pos} {a : Addr} {xs : List V} {k : Int} {R : It → Hp → Prop} (I1 : Inv X pins σ H1 s1) (hq : SqT X.K H1 a xs) (q : R (IteT X.K a k) H1) :
    EnGo s1 { cls := .type "tuple_iterator", data := .fields #[.ref a, .int 0 0] } k (fun v s2 => wpAny (model X.prog X.w) X.A (pyIter v) (PIE X pins σ (.Tuple elts kk tpos) R) X.xe s2) := by
  intro h' he hit kp
  obtain ⟨us, rx, p, _⟩ := I1.tuple hq
  have la : a < s1.heap.objs.size := by
    obtain ⟨o, ho, _⟩ := id p
    exact Heap.lt_size ho
  refine wpAny_pyIter_enum he ?_
  have I2 : Inv X pins σ H1 { s1 with heap := h' } := I1.kept (t' := s1.toks) kp
  refine ⟨s1.heap.objs.size + 1, [s1.heap.objs.size + 1, s1.heap.objs.size], _, _, H1, rfl, I2, en_turn (k := k) (a := a) (Nat.succ_ne_self _) (Nat.ne_of_lt la) (Nat.ne_of_gt (Nat.lt_succ_of_lt la)), ⟨⟨.none, ?_⟩, _, hit, rfl, rfl⟩, fun b hb => ?_, q⟩
  · rw [show k + ((0 : Nat) : Int) = k by omega]
    exact he
  · have le : s1.heap.objs.size ≤ b := by
      simp only [List.mem_cons, List.not_mem_nil, or_false] at hb
      rcases hb with z | z
      · rw [z]; exact Nat.le_succ _
      · rw [z]; exact Nat.le_refl _
    exact I1.fpOk le (I1.hok.fresh le)
def iEnT (K : PySem.W.Frag) (k : Int) (ta : TA) : TI := fun σ H R => ta σ H fun vs H1 => ∃ a xs, vs = [.ref a] ∧ SqT K H1 a xs ∧ R (IteT K a k) H1
theorem pi_enT {X : Cx} {e : Expr} {ta : TA} {p pos tpos : Pos} {elts : List Expr} {kk : Nat} (hg : Gl X "enumerate") (hm : X.mg "enumerate" = none) (ha : PA X [e] ta) (hs : starEach [e] X.env = [(false, eval e X.env)] := by rfl) :
    PI X (.Tuple elts kk tpos) (.Call (.Name "enumerate" p) [e] [] pos) (iEnT X.K 0 ta) := by
  constructor
  intro pins s σ H R I h
  refine Call_ (ld_blt I hg hm boot_enumerate (PyProof.Rows.callWith_type1 (thn (ha.run pos pins s σ H _ I h) fun us s1 ⟨vs, H1, I1, r1, q1⟩ => ?_) hs rfl))
  obtain ⟨a, xs, rfl, hq, q⟩ := q1
  obtain ⟨u, rfl, ru⟩ := vals1 r1
  obtain rfl : u = Value.ref a := ru
  obtain ⟨us, rx, p', _⟩ := I1.tuple hq
  exact en_call (begins_tuple a us.toArray) p' (en_pie I1 hq q)
theorem pi_enTk {X : Cx} {e : Expr} {ta : TA} {p pos tpos kp ip : Pos} {elts : List Expr} {kk : Nat} {j : Nat} {k : Int} (k0 : 0 ≤ k) (k1 : k < 1000) (hg : Gl X "enumerate") (hm : X.mg "enumerate" = none) (ha : PA X [e] ta)
    (he : backTo pos (starEach [e] X.env) = (false, eval e X.env) :: backTo pos (starEach [] X.env) := by rfl) (hp : (backTo pos (starEach [e] X.env)).any (·.1) = false := by rfl) :
    PI X (.Tuple elts kk tpos) (.Call (.Name "enumerate" p) [e] [⟨some "start", .Constant (.int k) j ip, kp⟩] pos) (iEnT X.K k ta) := by
  constructor
  intro pins s σ H R I h
  refine wpAny_Call_Name_kw (ld_blt I hg hm boot_enumerate (callWith_kwT (thn (ha.run pos pins s σ H _ I h) fun us s1 ⟨vs, H1, I1, r1, q1⟩ => ?_) he hp rfl rfl))
  obtain ⟨a, xs, rfl, hq, q⟩ := q1
  obtain ⟨u, rfl, ru⟩ := vals1 r1
  obtain rfl : u = Value.ref a := ru
  have pk := (pk_cons (nm := some "start") (kpos := kp) (X := X) (pe_int (i := k) (j := j) (pos := ip)) pk_nil).run pos pins s1 σ H1 (fun zs H2 => zs = [.int k] ∧ H2 = H1) I1 ⟨rfl, rfl⟩
  refine thn pk fun ws s2 ⟨zs, H2, I2, r2, ez, eH⟩ => ?_
  subst ez eH
  obtain ⟨z, rfl, t, rz⟩ := vals1 r2
  subst rz
  obtain ⟨us, rx, p', _⟩ := I2.tuple hq
  exact en_call_kw (begins_tuple a us.toArray) p' k0 k1 (en_pie I2 hq q)
theorem walk_enT {K : PySem.W.Frag} {a : Addr} {k : Int} {xs : List V} : Walk (IteT K a k) xs.length (fun H => SqT K H a xs) (fun i H v H' => ∃ T x, v = .ref T ∧ H T = none ∧ H' = upd H T (.tup [.int (k + (i : Nat)), x]) ∧ xs[i]? = some x) :=
  ⟨fun i H hi q => ⟨xs, xs[i], q, List.getElem?_eq_getElem _⟩, fun H q => ⟨xs, q, rfl⟩, fun i H x H' _ q ⟨T, u, e1, e2, e3, f⟩ => ⟨T, u, e1, e2, e3, f xs q⟩⟩
end Hx
set_option maxRecDepth 100000
set_option maxHeartbeats 8000000
/-! led. -/
namespace Hx
open PySem PySem.Spec PyProof.Rows L2
/-- a run: the stands st ahead of each move and behind the last, the rows bk of each -/
structure Course (h : HouseD) (ms : List MoveD) (st : Nat → List Int × Int) (bk : List PyData) : Prop where
  start : st 0 = (h.cs.map (·.i), 0)
  len : ∀ i, i ≤ ms.length → (st i).1.length = h.cs.length
  few : ms.length ≤ 900
  many : bk.length = ms.length
  step : ∀ (i : Nat) (m : MoveD) (b : PyData), ms[i]? = some m → bk[i]? = some b → IsMv h m ∧ MayB h (st i).1 (st i).2 m true ∧ Behind h (st i).1 (st i).2 m (standD (st (i + 1)).1 (st (i + 1)).2) b
def spLed (D E : Addr) (K : PySem.W.Frag) : Sp := fun vs H Q _ => ∃ (p : Addr) (t : Str) (h : HouseD) (v : V) (ms : List MoveD) (st : Nat → List Int × Int) (bk : List PyData), vs = [.ref p, v] ∧ HouseAt K D E H p t h ∧ (h.ds.map (·.x)).Nodup ∧ h.cs.length ≤ 3 ∧ (∀ c ∈ h.cs, c.z ≠ 0) ∧
  Tp K H v (.tuple (ms.map MoveD.d)) ∧ Course h ms st bk ∧ ∀ a H', Same H H' → Tp K H' a (.tuple [standD (st ms.length).1 (st ms.length).2, .tuple bk]) → Q a H'
abbrev nLed : List Str := ["house", "run", "stand", "book", "number", "move", "rows"]
theorem scLed : FnScope nLed ["house", "run"] (defScope sLed) := ⟨rfl, rfl, rfl, by decide +kernel, rfl, by decide +kernel, by decide +kernel⟩
section
variable {P : Program} {w : World} {K : PySem.W.Frag} {mg : Str → Option Value} {base : Heap} {D E fI : Addr}
theorem ok_led {f : Addr} {fd : FuncData} (F : Fun K "led" "led" sLed f fd) (T : STxt K mg E) (me : mg "enumerate" = none) (GF : DefOk P w K mg base "first_stand" 1 ["house"] (spFirst D E K)) (GM : DefOk P w K mg base "is_move" 3 ["house", "value"] (spIsMove D E K))
    (GP : DefOk P w K mg base "is_possible" 2 ["house", "stand", "move"] (spPoss D E K)) (GB : DefOk P w K mg base "stand_behind" 3 ["house", "stand", "move"] (spBehind D E K)) : FnOk P w K mg base CX0 4 f fd ["house", "run"] (spLed D E K) := by
  refine F.ok scLed (fun vs H Q E h => ?_) (fun cdv A outer s H vs Q Ex hr h => ?_)
  · obtain ⟨p, t, h, v, ms, st, bk, rfl, _⟩ := h
    rfl
  obtain ⟨p, t, h, v, ms, st, bk, rfl, ha, dn, c3, cz, tv, co, k⟩ := h
  have nd := scLed.nd
  have hr2 : Room 2 (A.deeper (envOfC "led" (defScope sLed) s.heap.objs.size f cdv)) := hr.mono (by decide)
  have hr1 : Room 1 (A.deeper (envOfC "led" (defScope sLed) s.heap.objs.size f cdv)) := hr.mono (by decide)
  refine ⟨_, pss_cons (ps_if (pt_not (pt_val (pe_callB call_isi rfl T.F.isi PyProof.Rows.boot_isinstance (pa_cons (pv 1) (pa_cons (pe_bltn (v := .ty "tuple") rfl T.F.tup PyProof.Rows.Boot.«tuple» rfl) pa_nil))))) pss_never pss_nil)
    (pss_cons (ps_set (i := 2) nd rfl (.inl rfl) (pe_D GF hr1 rfl (pa_cons (pv 0) pa_nil)))
    (pss_cons (ps_set (i := 3) nd rfl (.inl rfl) (pe_lst pa_nil))
    (pss_cons (ps_for PassesOwn.never rfl (pi_enTk (k := 1) (by decide) (by decide) rfl me (pa_cons (pv 1) pa_nil)) (pg_tupK K (pgs_cons (pg_name (i := 4) nd rfl (.inl rfl)) (pgs_cons (pg_name (i := 5) nd rfl (.inl rfl)) pgs_nil)))
      (pss_cons (ps_if (PW.pt (pw_or (pt_not (pt_val (pe_D GM hr rfl (pa_cons (pv 0) (pa_cons (pv 5) pa_nil))))) (pw_or1 (pt_not (pt_val (pe_D GP hr2 rfl (pa_cons (pv 0) (pa_cons (pv 2) (pa_cons (pv 5) pa_nil))))))))) pss_never pss_nil)
      (pss_cons (ps_asg (pe_D GB hr rfl (pa_cons (pv 0) (pa_cons (pv 2) (pa_cons (pv 5) pa_nil)))) (pg_tupK K (pgs_cons (pg_name (i := 2) nd rfl (.inl rfl)) (pgs_cons (pg_name (i := 6) nd rfl (.inl rfl)) pgs_nil))))
      (pss_one (ps_expr (pe_bm PySem.F.plainAttrs_list PySem.F.slot_list_append PySem.F.type_list_append mt_append (pv 3) (pa_cons (pv 6) pa_nil)))))))
    (pss_one (ps_ret (pe_tup (pa_cons (pv 2) (pa_cons (pe_callTy call_tuple_of rfl T.tuple PyProof.Rows.Boot.«tuple» (pa_cons (pv 3) pa_nil)) pa_nil)))))))), ?_⟩
  obtain ⟨va, xs, rfl, hva, hvs⟩ := tp_tup tv
  refine ⟨_, rfl, _, _, _, _, true, rfl, .ty _, ty_tup hva, kit_ty (by decide +kernel), _, rfl, iteF ?_⟩
  refine ⟨_, rfl, p, t, h, rfl, ha, c3, fun v0 H1 s1 t0 => ?_⟩
  refine ⟨sz (by decide : 0 ≤ 1000), fun l hl => ?_⟩
  have s2 := same_new hl (.lst [])
  have ln : xs.length = ms.length := by rw [hvs.length, List.length_map]
  refine ⟨_, rfl, va, xs, rfl, same_sqt (s1.trans s2) hva, for_it (walk_enT (xs := xs)) (fun i σ H' => ∃ (v2 : V) (ys : List V) (t4 t5 t6 : Option V), σ = [some (.ref p), some (.ref va), some v2, some (.ref l), t4, t5, t6] ∧ Same H H' ∧ Tp K H' v2 (standD (st i).1 (st i).2) ∧ H' l = some (.lst ys) ∧ TpAll K H' ys (bk.take i))
    ⟨v0, [], none, none, none, rfl, s1.trans s2, ?_, upd_same, .nil⟩ (fun i σ H' _ z => ?_) ?_ ?_⟩
  · rw [co.start]
    exact t0.same s2
  · obtain ⟨_, _, _, _, _, _, sm, _⟩ := z
    exact same_sqt sm hva
  · rintro i x σ H2 H3 hi ⟨v2, ys, t4, t5, t6, rfl, sm, tv2, el, ty⟩ ⟨T', y, rfl, hT, rfl, ey⟩
    obtain ⟨md, em, tm⟩ := hvs.get ey
    rw [List.getElem?_map] at em
    obtain ⟨m, em', rfl⟩ : ∃ m, ms[i]? = some m ∧ md = m.d := by
      cases e : ms[i]? with
      | none =>
        rw [e] at em
        cases em
      | some m =>
        rw [e] at em
        exact ⟨m, rfl, (Option.some.inj em).symm⟩
    have hil : i < ms.length := (List.getElem?_eq_some_iff.mp em').1
    obtain ⟨b, eb⟩ : ∃ b, bk[i]? = some b := ⟨_, List.getElem?_eq_getElem (by rw [co.many]; exact hil)⟩
    obtain ⟨im, may, be⟩ := co.step i m b em' eb
    have sT := same_new hT (.tup [.int (1 + (i : Nat)), y])
    have hl' : l ≠ T' := ne_of_none el hT
    refine ⟨T', _, rfl, SqT.of upd_same, rfl, _, _, rfl, _, _, rfl, rfl, ?_⟩
    have smT := sm.trans sT
    refine ⟨_, rfl, _, rfl, p, t, h, y, m, rfl, ha.same smT, dn, (tm.same sm).same sT, im, fun H4 s4 => ⟨_, rfl, iteF ?_⟩⟩
    refine ⟨_, rfl, _, rfl, _, rfl, p, t, h, v2, y, (st i).1, (st i).2, m, true, rfl, (ha.same smT).same s4, dn, (tv2.same sT).same s4, ((tm.same sm).same sT).same s4, may, fun H5 s5 => ⟨_, rfl, iteF ?_⟩⟩
    have s25 := sT.trans (s4.trans s5)
    refine ⟨_, rfl, _, rfl, _, rfl, p, t, h, v2, y, (st i).1, (st i).2, m, _, b, rfl, ha.same (sm.trans s25), dn, co.len i (by omega), cz, tv2.same s25, tm.same (sm.trans s25), be, fun a H6 s6 ta => ?_⟩
    obtain ⟨aa, ays, rfl, haa, hay⟩ := tp_tup ta
    cases hay with
    | cons g0 g1 =>
    cases g1 with
    | cons g1 g2 =>
    cases g2
    have s26 := s25.trans s6
    refine ⟨aa, _, rfl, haa, rfl, _, _, rfl, _, _, rfl, rfl, ?_⟩
    have el6 := s26 _ _ el
    refine ⟨_, rfl, .inl ⟨rfl, _, SqL.of el6⟩, _, rfl, l, ys, _, rfl, rfl, el6, ?_, ?_⟩
    · rw [ty.length, List.length_take]
      have := co.few
      have := co.many
      exact small1000 (by omega)
    · refine ⟨_, ys ++ [_], _, _, _, rfl, ?_, g0.lst el6, upd_same, ?_⟩
      · exact fun c u e => by
          rw [upd_ne (fun z => ?_)]
          · exact (sm.trans s26) _ _ e
          · subst z
            have e1 := s1 _ _ e
            rw [hl] at e1
            cases e1
      · rw [List.take_add_one, eb]
        exact TpAll.append ((ty.same s26).lst el6) (.cons (g1.lst el6) .nil)
  · rintro σ H2 ⟨v2, ys, t4, t5, t6, rfl, sm, tv2, el, ty⟩
    rw [ln] at tv2 ty
    refine ⟨_, rfl, _, rfl, l, ys, rfl, .inl ⟨SqL.of el, fun c hc => ?_⟩⟩
    have s3 := same_new hc (.tup ys)
    refine ⟨sz (by decide : 2 ≤ 1000), fun e he => ?_⟩
    have s4 := same_new he (.tup [v2, .ref c])
    have et : bk.take ms.length = bk := by rw [← co.many, List.take_length]
    rw [et] at ty
    exact k _ _ (sm.trans (s3.trans s4)) (.tup (SqT.of upd_same) (.cons (tv2.same (s3.trans s4)) (.cons (.tup (same_sqt s4 (SqT.of upd_same)) (ty.same (s3.trans s4))) .nil)))
end
end Hx
set_option maxRecDepth 100000
set_option maxHeartbeats 8000000
/-! The law's own drawing. -/
namespace Hx
open PySem PySem.Spec PyProof.Rows L2
abbrev sPot : Stmt := top 48
abbrev sLTake : Stmt := top 49
abbrev sUnlike : Stmt := top 50
abbrev sText : Stmt := top 51
abbrev sRight : Stmt := top 52
abbrev sLaw : Stmt := top 53
theorem Bar.new {p q : Addr} {H : Hp} (h : H q = none) (o : HO) : Bar p H (L2.upd H q o) := fun b u _ e => by rw [upd_ne (ne_of_none e h)]; exact e
/-- a pot: three numbers, the last one at most c -/
def Pot (H : Hp) (p : Addr) (c : Int) : Prop := ∃ A B C : Int, H p = some (.lst [.int A, .int B, .int C]) ∧ 0 ≤ A ∧ 0 ≤ B ∧ B < 2 ^ 61 ∧ 0 ≤ C ∧ C ≤ c
theorem op_powX {X : Cx} : OpR X (binaryOp .Pow) (rI (fun i j => 0 ≤ j ∧ (Builtin.Int.intBits i : Int) * j ≤ 2 ^ 27) fun i j => .int (i ^ j.toNat)) := opI fun _ _ _ _ _ _ _ hc q => PyProof.Rows.pow_int hc.1 hc.2 q

/-! ### take -/
def spLTake : Sp := fun vs H Q _ => ∃ (p : Addr) (c m : Int), vs = [.ref p, .int m] ∧ Pot H p c ∧ c ≤ 1000 ∧ 1 ≤ m ∧ m ≤ 1000 ∧ ∀ (d : Int) (H' : Hp), 0 ≤ d → d < m → Bar p H H' → Pot H' p (c + 1) → Q (.int d) H'
theorem scLTake : FnScope ["_law_pot", "_law_upto", "_law_digit", "_law_prime", "_law_mixed"] ["_law_pot", "_law_upto"] (defScope sLTake) := ⟨rfl, rfl, rfl, by decide +kernel, rfl, by decide +kernel, by decide +kernel⟩
def primes : List V := [.int 2147483647, .int 2147483629, .int 2147483587, .int 2147483579, .int 2147483563]
theorem a_prime {r : Int} (h0 : 0 ≤ r) (h5 : r < 5) : ∃ v : Int, atI primes r = some (.int v) ∧ 0 < v ∧ v < 2 ^ 32 := by
  have e : r = 0 ∨ r = 1 ∨ r = 2 ∨ r = 3 ∨ r = 4 := by omega
  rcases e with rfl | rfl | rfl | rfl | rfl
  · exact ⟨2147483647, rfl, by decide, by decide⟩
  · exact ⟨2147483629, rfl, by decide, by decide⟩
  · exact ⟨2147483587, rfl, by decide, by decide⟩
  · exact ⟨2147483579, rfl, by decide, by decide⟩
  · exact ⟨2147483563, rfl, by decide, by decide⟩
theorem square {C : Int} (h0 : 0 ≤ C) (h : C ≤ 2000) : 0 ≤ 60037 * C * C ∧ 60037 * C * C ≤ 60037 * 2000 * 2000 := by
  have a : 0 ≤ C * C := Int.mul_nonneg h0 h0
  have b : C * C ≤ 2000 * 2000 := Int.mul_le_mul h h h0 (by decide)
  have e : 60037 * C * C = 60037 * (C * C) := Int.mul_assoc _ _ _
  omega
section
variable {P : Program} {w : World} {K : PySem.W.Frag} {mg : Str → Option Value} {base : Heap}
theorem ok_ltake {f : Addr} {fd : FuncData} (F : Fun K "_law_take" "_law_take" sLTake f fd) (mi : mg "int" = none) : FnOk P w K mg base CX0 1 f fd ["_law_pot", "_law_upto"] spLTake := by
  refine F.ok scLTake (fun vs H Q E h => ?_) (fun cdv A outer s H vs Q E hr h => ?_)
  · obtain ⟨p, c, m, rfl, _⟩ := h
    rfl
  obtain ⟨p, c, m, rfl, ⟨A0, B0, C0, ep, hA, hB, hB2, hC, hCc⟩, hc, hm, hm2, q⟩ := h
  refine ⟨_, pss_cons (ps_if (pt_cmpR op_gt (pe_ix ix_list (pv 0) pe_int (fun _ _ => rfl)) pe_int (nomark _))
      (pss_cons (ps_set (i := 2) scLTake.nd rfl (.inl rfl) (pe_op op_mod (pe_callTy call_int1 rfl mi PyProof.Rows.Boot.«int» (pa_cons (pe_ix ix_list (pv 0) pe_int (fun _ _ => rfl)) pa_nil)) (pv 1)))
      (pss_cons (ps_asg (pe_op op_fdiv (pe_ix ix_list (pv 0) pe_int (fun _ _ => rfl)) (pv 1)) (pg_sub (pv 0) pe_int set_list))
      (pss_one (ps_ret (pv 2))))) pss_nil)
    (pss_cons (ps_asg (pe_op op_add (pe_ix ix_list (pv 0) pe_int (fun _ _ => rfl)) pe_int) (pg_sub (pv 0) pe_int set_list))
    (pss_cons (ps_set (i := 3) scLTake.nd rfl (.inl rfl) (pe_ix ix_list (pe_lst (pa_cons pe_int (pa_cons pe_int (pa_cons pe_int (pa_cons pe_int (pa_cons pe_int pa_nil))))))
        (pe_op op_mod (pe_callTy call_int1 rfl mi PyProof.Rows.Boot.«int» (pa_cons (pe_ix ix_list (pv 0) pe_int (fun _ _ => rfl)) pa_nil)) pe_int) (fun _ _ => rfl)))
    (pss_cons (ps_set (i := 4) scLTake.nd rfl (.inl rfl) (pe_op op_mod (pe_op op_pow (pe_callTy call_int1 rfl mi PyProof.Rows.Boot.«int» (pa_cons (pe_op op_add (pe_op op_add (pe_ix ix_list (pv 0) pe_int (fun _ _ => rfl))
        (pe_op op_mul (pe_op op_mul pe_int (pe_ix ix_list (pv 0) pe_int (fun _ _ => rfl))) (pe_ix ix_list (pv 0) pe_int (fun _ _ => rfl)))) pe_int) pa_nil)) pe_int) (pv 3)))
    (pss_one (ps_ret (pe_op op_mod (pe_op op_fdiv (pe_op op_mod (pe_callTy call_int1 rfl mi PyProof.Rows.Boot.«int» (pa_cons (pe_op op_mul (pv 4)
        (pe_op op_add (pe_op op_mod (pe_callTy call_int1 rfl mi PyProof.Rows.Boot.«int» (pa_cons (pv 4) pa_nil)) pe_int) (pe_op op_mul pe_int (pe_ix ix_list (pv 0) pe_int (fun _ _ => rfl))))) pa_nil)) pe_int) pe_int) (pv 1))))))), ?_⟩
  have sp : SqL K H p [.int A0, .int B0, .int C0] := SqL.of ep
  refine ⟨_, rfl, p, _, 0, _, rfl, rfl, sp, rfl, _, _, rfl, rfl, _, rfl, ?_⟩
  refine ite2 (fun pos => ?_) (fun _ => ?_)
  · refine ⟨_, rfl, p, _, 0, _, rfl, rfl, sp, rfl, .inl ⟨_, rfl, _, rfl, _, _, rfl, rfl, (by omega : (0 : Int) < m), ?_⟩⟩
    refine ⟨_, rfl, p, _, 0, _, rfl, rfl, sp, rfl, _, rfl, _, _, rfl, rfl, ⟨by omega, by omega⟩, _, rfl, p, _, 0, 0, rfl, rfl, ep, rfl, ?_⟩
    refine ⟨_, rfl, ?_⟩
    refine q (A0 % m) _ (Int.emod_nonneg _ (by omega)) (Int.emod_lt_of_pos _ (by omega)) (Bar.upd p H _) ⟨A0 / m, B0, C0, upd_same, Int.ediv_nonneg hA (by omega), hB, hB2, hC, by omega⟩
  · refine ⟨_, rfl, p, _, 2, _, rfl, rfl, sp, rfl, _, _, rfl, rfl, _, rfl, p, _, 2, 2, rfl, rfl, ep, rfl, ?_⟩
    have e1 : upd H p (.lst (([.int A0, .int B0, .int C0] : List V).set 2 (.int (C0 + 1)))) p = some (.lst [.int A0, .int B0, .int (C0 + 1)]) := upd_same
    generalize hH1 : upd H p (.lst (([.int A0, .int B0, .int C0] : List V).set 2 (.int (C0 + 1)))) = H1 at e1
    have o1 : Bar p H H1 := by rw [← hH1]; exact Bar.upd p H _
    obtain ⟨v, hv, v0, v1⟩ := a_prime (r := (C0 + 1) % 5) (Int.emod_nonneg _ (by decide)) (Int.emod_lt_of_pos _ (by decide))
    obtain ⟨q0, q1⟩ := square (C := C0 + 1) (by omega) (by omega)
    refine ⟨sz (by decide : 5 ≤ 1000), fun l hl => ?_⟩
    have nl : p ≠ l := ne_of_none e1 hl
    have e2 : upd H1 l (.lst primes) p = some (.lst [.int A0, .int B0, .int (C0 + 1)]) := by rw [upd_ne nl]; exact e1
    have s2 : SqL K (upd H1 l (.lst primes)) p [.int A0, .int B0, .int (C0 + 1)] := SqL.of e2
    have o2 : Bar p H (upd H1 l (.lst primes)) := o1.trans (Bar.new hl _)
    have s3 : SqL K (upd H1 l (.lst primes)) l primes := SqL.of upd_same
    refine ⟨_, rfl, p, _, 2, _, rfl, rfl, s2, rfl, .inl ⟨_, rfl, _, _, rfl, rfl, (by decide : (0 : Int) < 5), l, primes, _, _, rfl, rfl, s3, hv, ?_⟩⟩
    refine ⟨_, rfl, p, _, 1, _, rfl, rfl, s2, rfl, _, rfl, p, _, 2, _, rfl, rfl, s2, rfl, _, _, rfl, rfl, .inl ⟨by decide, by decide⟩, _, rfl, p, _, 2, _, rfl, rfl, s2, rfl, _, _, rfl, rfl, .inl ⟨by omega, by omega⟩,
      _, _, rfl, rfl, _, _, rfl, rfl, .inl ⟨_, rfl, _, _, rfl, rfl, ⟨by decide, by decide, by omega⟩, _, rfl, _, _, rfl, rfl, v0, ?_⟩⟩
    have m0 := Int.emod_nonneg ((B0 + 60037 * (C0 + 1) * (C0 + 1) + 59) ^ (3 : Int).toNat) (show v ≠ 0 by omega)
    have m1 := Int.emod_lt_of_pos ((B0 + 60037 * (C0 + 1) * (C0 + 1) + 59) ^ (3 : Int).toNat) v0
    refine ⟨_, rfl, _, rfl, .inl ⟨_, rfl, _, _, rfl, rfl, (by decide : (0 : Int) < 10037), _, rfl, p, _, 2, _, rfl, rfl, s2, rfl, _, _, rfl, rfl, .inl ⟨by decide, by decide⟩, _, _, rfl, rfl, _, _, rfl, rfl, .inl ⟨by omega, by omega⟩, .inl ⟨_, rfl,
      _, _, rfl, rfl, (by decide : (0 : Int) < 2305843009213693951), _, _, rfl, rfl, ⟨by decide, by decide⟩, _, rfl, _, _, rfl, rfl, (by omega : (0 : Int) < m), ?_⟩⟩⟩
    exact q _ _ (Int.emod_nonneg _ (by omega)) (Int.emod_lt_of_pos _ (by omega)) o2 ⟨A0, B0, C0 + 1, e2, hA, hB, hB2, by omega, by omega⟩
end
theorem Pot.mono {H : Hp} {p : Addr} {c c' : Int} (h : c ≤ c') : Pot H p c → Pot H p c' := fun ⟨A, B, C, e, a, b, b2, x, y⟩ => ⟨A, B, C, e, a, b, b2, x, by omega⟩
theorem Pot.new {H : Hp} {p q : Addr} {c : Int} (P : Pot H p c) (h : H q = none) (o : HO) : Pot (upd H q o) p c := by
  obtain ⟨A, B, C, e, r⟩ := P
  exact ⟨A, B, C, by rw [upd_ne (ne_of_none e h)]; exact e, r⟩
theorem Pot.ne {H : Hp} {p q : Addr} {c : Int} (P : Pot H p c) (h : H q = none) : q ≠ p := by
  obtain ⟨A, B, C, e, r⟩ := P
  exact (ne_of_none e h).symm
theorem bit_lo (b : Bool) : -(2 ^ 64) < (if b = true then (1 : Int) else 0) := by cases b <;> decide
theorem bit_hi (b : Bool) : (if b = true then (1 : Int) else 0) < 2 ^ 64 := by cases b <;> decide
theorem bit_nn (b : Bool) : 0 ≤ (if b = true then (1 : Int) else 0) := by cases b <;> decide
/-! ### pot_of -/
def spPot (K : PySem.W.Frag) : Sp := fun vs H Q _ => ∃ (a : Addr) (ns : List Int) (k : Int), vs = [.ref a, .int k] ∧ SqL K H a (ns.map V.int) ∧ 0 ≤ k ∧ k ≤ 3 ∧
  ∀ (p : Addr) (A B : Int), H p = none → 0 ≤ A → 0 ≤ B → B < 2 ^ 61 → Q (.ref p) (upd H p (.lst [.int A, .int B, .int 0]))
theorem scPot : FnScope ["_law_script", "_law_k", "_law_cell", "_law_own"] ["_law_script", "_law_k"] (defScope sPot) := ⟨rfl, rfl, rfl, by decide +kernel, rfl, by decide +kernel, by decide +kernel⟩
section
variable {P : Program} {w : World} {K : PySem.W.Frag} {mg : Str → Option Value} {base : Heap}
theorem ok_pot {f : Addr} {fd : FuncData} (F : Fun K "_law_pot_of" "_law_pot_of" sPot f fd) (ml : mg "len" = none) (mi : mg "int" = none) (ma : mg "abs" = none) : FnOk P w K mg base CX0 1 f fd ["_law_script", "_law_k"] (spPot K) := by
  refine F.ok scPot (fun vs H Q E h => ?_) (fun cdv A outer s H vs Q E hr h => ?_)
  · obtain ⟨a, ns, k, rfl, _⟩ := h
    rfl
  obtain ⟨a, ns, k, rfl, hS, k0, k3, q⟩ := h
  refine ⟨_, pss_cons (ps_set (i := 2) scPot.nd rfl (.inl rfl) (pe_ifExp (pt_cmpR op_lt (pv 1) (pe_callB call_len_seq rfl ml PySem.boot_len (pa_cons (pv 0) pa_nil)) (nomark _)) (pe_ix ix_list (pv 0) (pv 1) (fun _ _ => rfl)) (pe_op op_add (pe_op op_mul pe_int (pv 1)) pe_int)))
    (pss_cons (ps_set (i := 3) scPot.nd rfl (.inl rfl) (pe_op op_mul (pe_op op_mod (pe_callTy call_int1 rfl mi PyProof.Rows.Boot.«int» (pa_cons (pe_callB call_abs rfl ma PyProof.Rows.Boot.«abs» (pa_cons (pv 2) pa_nil)) pa_nil)) (pe_op op_powX (pe_op op_powX pe_int pe_int) pe_int))
      (pe_callTy call_int1 rfl mi PyProof.Rows.Boot.«int» (pa_cons (pe_cmpR op_ge (pe_callB call_abs rfl ma PyProof.Rows.Boot.«abs» (pa_cons (pv 2) pa_nil)) (pe_op op_powX pe_int pe_int) (nomark _)) pa_nil))))
    (pss_one (ps_ret (pe_lst (pa_cons (pv 3) (pa_cons (pe_op op_mod (pe_op op_add (pe_op op_add (pe_op op_mul (pe_op op_mod (pe_callTy call_int1 rfl mi PyProof.Rows.Boot.«int» (pa_cons (pv 2) pa_nil)) pe_int) pe_int)
      (pe_op op_mul (pe_op op_mul pe_int (pv 1)) (pv 1))) pe_int) pe_int) (pa_cons pe_int pa_nil))))))), ?_⟩
  have big : (0 : Int) < (10 ^ (60 : Int).toNat) ^ (5 : Int).toNat := by decide +kernel
  refine ⟨_, rfl, _, rfl, a, _, rfl, .inl hS, _, _, rfl, rfl, _, rfl, ite2 (fun c => ?_) (fun c => ?_)⟩
  · have c' : k < ((ns.map V.int).length : Nat) := of_decide_eq_true c
    rw [List.length_map] at c'
    have hk : k.toNat < ns.length := by omega
    have at_k := atI_nat (xs := ns.map V.int) (j := k.toNat) (v := .int ns[k.toNat]) (by rw [List.getElem?_map, List.getElem?_eq_getElem hk] <;> rfl)
    rw [show ((k.toNat : Nat) : Int) = k by omega] at at_k
    refine ⟨_, rfl, _, rfl, a, _, k, _, rfl, rfl, hS, at_k, ?_⟩
    generalize ns[k.toNat] = z
    refine ⟨_, rfl, _, rfl, .inl ⟨_, rfl, _, _, rfl, rfl, ⟨by decide, by decide +kernel⟩, _, _, rfl, rfl, ⟨by decide, by decide +kernel⟩, _, _, rfl, rfl, big, _, rfl, _, rfl, _, _, rfl, rfl, ⟨by decide, by decide +kernel⟩, _, _, rfl, rfl, .inr ⟨_, rfl, _, _, rfl, rfl, .inr ⟨bit_lo _, bit_hi _⟩, ?_⟩⟩⟩
    refine ⟨_, rfl, _, rfl, .inl ⟨_, rfl, _, _, rfl, rfl, (by decide : (0 : Int) < 2305843009213693951), _, _, rfl, rfl, .inr ⟨by decide, by decide⟩, _, rfl, _, _, rfl, rfl, .inl ⟨by decide, by decide⟩, _, rfl, _, _, rfl, rfl, .inl ⟨by omega, by omega⟩,
      _, _, rfl, rfl, _, _, rfl, rfl, _, _, rfl, rfl, (by decide : (0 : Int) < 2305843009213693921), sz (by decide : 3 ≤ 1000), fun p hp => ?_⟩⟩
    refine q p _ _ hp (Int.mul_nonneg (Int.emod_nonneg _ (Int.ne_of_gt big)) (bit_nn _)) (Int.emod_nonneg _ (by decide)) (Int.lt_trans (Int.emod_lt_of_pos _ (by decide)) (by decide))
  · refine ⟨_, rfl, _, _, rfl, rfl, .inl ⟨by decide, by decide⟩, _, _, rfl, rfl, ?_⟩
    generalize 47 * k + 19 = z
    refine ⟨_, rfl, _, rfl, .inl ⟨_, rfl, _, _, rfl, rfl, ⟨by decide, by decide +kernel⟩, _, _, rfl, rfl, ⟨by decide, by decide +kernel⟩, _, _, rfl, rfl, big, _, rfl, _, rfl, _, _, rfl, rfl, ⟨by decide, by decide +kernel⟩, _, _, rfl, rfl, .inr ⟨_, rfl, _, _, rfl, rfl, .inr ⟨bit_lo _, bit_hi _⟩, ?_⟩⟩⟩
    refine ⟨_, rfl, _, rfl, .inl ⟨_, rfl, _, _, rfl, rfl, (by decide : (0 : Int) < 2305843009213693951), _, _, rfl, rfl, .inr ⟨by decide, by decide⟩, _, rfl, _, _, rfl, rfl, .inl ⟨by decide, by decide⟩, _, rfl, _, _, rfl, rfl, .inl ⟨by omega, by omega⟩,
      _, _, rfl, rfl, _, _, rfl, rfl, _, _, rfl, rfl, (by decide : (0 : Int) < 2305843009213693921), sz (by decide : 3 ≤ 1000), fun p hp => ?_⟩⟩
    refine q p _ _ hp (Int.mul_nonneg (Int.emod_nonneg _ (Int.ne_of_gt big)) (bit_nn _)) (Int.emod_nonneg _ (by decide)) (Int.lt_trans (Int.emod_lt_of_pos _ (by decide)) (by decide))
end
end Hx
set_option maxRecDepth 100000
set_option maxHeartbeats 8000000
/-! So many of some names. -/
namespace Hx
open PySem PySem.Spec PyProof.Rows L2
def spUnlike (K : PySem.W.Frag) : Sp := fun vs H Q _ => ∃ (p l : Addr) (c : Int) (xs : List Str) (n : Nat), vs = [.ref p, .ref l, .int (n : Nat)] ∧ Pot H p c ∧ c ≤ 900 ∧ SqL K H l (xs.map V.str) ∧ xs.Nodup ∧ n ≤ xs.length ∧ xs.length ≤ 90 ∧
  ∀ (a : Addr) (ys : List Str) (H' : Hp), Bar p H H' → Pot H' p (c + (n : Nat)) → SqT K H' a (ys.map V.str) → ys.length = n → ys.Nodup → (∀ y ∈ ys, y ∈ xs) → Q (.ref a) H'
abbrev nUnlike : List Str := ["_law_pot", "_law_some", "_law_upmost", "_law_spare", "_law_found", "_law_turn"]
theorem scUnlike : FnScope nUnlike ["_law_pot", "_law_some", "_law_upmost"] (defScope sUnlike) := ⟨rfl, rfl, rfl, by decide +kernel, rfl, by decide +kernel, by decide +kernel⟩
theorem erase_perm {α : Type} : ∀ {xs : List α} {k : Nat} {y : α}, xs[k]? = some y → (y :: xs.eraseIdx k).Perm xs
  | [], _, _, h => by simp at h
  | x :: xs, 0, y, h => by
    obtain rfl : x = y := by simpa using h
    exact List.Perm.refl _
  | x :: xs, k + 1, y, h => by
    have ih := erase_perm (xs := xs) (k := k) (y := y) (by simpa using h)
    rw [List.eraseIdx_cons_succ]
    exact (List.Perm.swap x y _).trans (ih.cons x)
theorem map_erase {α β : Type} (f : α → β) : ∀ (xs : List α) (k : Nat), (xs.map f).eraseIdx k = (xs.eraseIdx k).map f
  | [], _ => by simp
  | x :: xs, 0 => rfl
  | x :: xs, k + 1 => by
    rw [List.map_cons, List.eraseIdx_cons_succ, List.eraseIdx_cons_succ, List.map_cons, map_erase f xs k]
theorem Pot.put {H : Hp} {p q : Addr} {c : Int} (P : Pot H p c) (h : q ≠ p) (o : HO) : Pot (upd H q o) p c := by
  obtain ⟨A, B, C, e, r⟩ := P
  exact ⟨A, B, C, by rw [upd_ne h.symm]; exact e, r⟩
theorem Bar.put {p q : Addr} {H H' : Hp} (b : Bar p H H') (h : H q = none) (o : HO) : Bar p H (L2.upd H' q o) := fun c u n e => by
  rw [upd_ne (ne_of_none e h)]
  exact b c u n e
theorem seq_ix {d : Int} {n : Nat} (h0 : 0 ≤ d) (h1 : d < (n : Nat)) : seqIndex? d n = some d.toNat := by
  unfold seqIndex?
  have c1 : ¬ d < 0 := by omega
  simp only [c1, if_false]
  rw [if_pos (by simp only [Bool.and_eq_true, decide_eq_true_eq]; exact ⟨h0, h1⟩)]
section
variable {P : Program} {w : World} {K : PySem.W.Frag} {mg : Str → Option Value} {base : Heap}
theorem ok_unlike {f : Addr} {fd : FuncData} (F : Fun K "_law_unlike" "_law_unlike" sUnlike f fd) (GT : DefOk P w K mg base "_law_take" 1 ["_law_pot", "_law_upto"] spLTake) (ml : mg "len" = none) (mr : mg "range" = none) (mli : mg "list" = none) (mtu : mg "tuple" = none) :
    FnOk P w K mg base CX0 2 f fd ["_law_pot", "_law_some", "_law_upmost"] (spUnlike K) := by
  refine F.ok scUnlike (fun vs H Q E h => ?_) (fun cdv A outer s H vs Q E hr h => ?_)
  · obtain ⟨p, l, c, xs, n, rfl, _⟩ := h
    rfl
  obtain ⟨p, l, c, xs, n, rfl, hp, hc, hl, nd, hn, few, k⟩ := h
  have ndS := scUnlike.nd
  refine ⟨_, pss_cons (ps_par (i := 3) (j := 4) rfl ndS rfl rfl (by decide) rfl rfl (pa_cons (pe_callTy call_list_of rfl mli PyProof.Rows.Boot.«list» (pa_cons (pv 1) pa_nil)) (pa_cons (pe_lst pa_nil) pa_nil)) rfl)
    (pss_cons (ps_for PassesOwn.never rfl (pi_range1 rfl mr (pa_cons (pv 2) pa_nil)) (pg_name (i := 5) ndS rfl (.inl rfl))
      (pss_one (ps_expr (pe_bm PySem.F.plainAttrs_list PySem.F.slot_list_append PySem.F.type_list_append mt_append (pv 4) (pa_cons (pe_bm PySem.F.plainAttrs_list PySem.F.slot_list_pop PySem.F.type_list_pop mt_popAt (pv 3)
        (pa_cons (pe_D GT hr rfl (pa_cons (pv 0) (pa_cons (pe_callB call_len_seq rfl ml PySem.boot_len (pa_cons (pv 3) pa_nil)) pa_nil))) pa_nil)) pa_nil)))))
    (pss_one (ps_ret (pe_callTy call_tuple_of rfl mtu PyProof.Rows.Boot.«tuple» (pa_cons (pv 4) pa_nil))))), ?_⟩
  refine ⟨_, rfl, l, _, rfl, .inl hl, fun sA hs => ⟨sz (by decide : 0 ≤ 1000), fun fA hf => ⟨_, _, rfl, ?_⟩⟩⟩
  have hfH : H fA = none := by
    have : sA ≠ fA := fun z => by
      rw [← z, upd_same] at hf
      cases hf
    rw [upd_ne this.symm] at hf
    exact hf
  have nsf : sA ≠ fA := fun z => by
    rw [← z, upd_same] at hf
    cases hf
  have nsp := hp.ne hs
  have nfp := hp.ne hfH
  have p1 := (hp.put nsp (.lst (xs.map V.str))).put nfp (.lst [])
  have b1 : Bar p H (upd (upd H sA (.lst (xs.map V.str))) fA (.lst [])) := (Bar.new hs _).trans (Bar.new hf _)
  refine ⟨_, rfl, (n : Nat), rfl, by omega, by omega, ?_⟩
  have en : ((n : Nat) : Int).toNat = n := by omega
  rw [en]
  refine for_range (n := n) (fun i σ H' => ∃ (sp fo : List Str) (t5 : Option V), σ = [some (.ref p), some (.ref l), some (.int (n : Nat)), some (.ref sA), some (.ref fA), t5] ∧ H' sA = some (.lst (sp.map V.str)) ∧ H' fA = some (.lst (fo.map V.str)) ∧ (fo ++ sp).Perm xs ∧ fo.length = i ∧ Bar p H H' ∧ Pot H' p (c + (i : Nat)))
    ⟨xs, [], none, rfl, by rw [upd_ne nsf, upd_same], upd_same, List.Perm.refl _, rfl, b1, p1.mono (by omega)⟩ ?_ ?_
  · rintro i σ H' hi ⟨sp, fo, t5, rfl, es, ef, pm, lf, bar, pt⟩
    have lp := pm.length_eq
    rw [List.length_append] at lp
    have sp0 : 1 ≤ sp.length := by omega
    refine ⟨_, rfl, .inl ⟨rfl, _, SqL.of ef⟩, _, rfl, .inl ⟨rfl, _, SqL.of es⟩, _, rfl, _, rfl, sA, _, rfl, .inl (SqL.of es), p, c + (i : Nat), (sp.length : Nat), ?_, pt, by omega, by omega, by omega, ?_⟩
    · rw [List.length_map]
      rfl
    intro d H2 d0 d1 bar2 pt2
    have hd : d.toNat < sp.length := by omega
    have ed : ((d.toNat : Nat) : Int) = d := by omega
    have ey : sp[d.toNat]? = some sp[d.toNat] := List.getElem?_eq_getElem hd
    have es2 := bar2 sA _ nsp es
    have ef2 := bar2 fA _ nfp ef
    refine ⟨sA, sp.map V.str, d, d.toNat, .str sp[d.toNat], rfl, rfl, es2, by omega, by omega, ?_, by rw [List.getElem?_map, ey]; rfl, ?_⟩
    · rw [List.length_map]
      exact seq_ix d0 d1
    refine ⟨fA, fo.map V.str, _, rfl, rfl, ?_, ?_, ?_⟩
    · rw [upd_ne nsf.symm]
      exact ef2
    · rw [List.length_map]
      exact small1000 (by omega)
    · refine ⟨sp.eraseIdx d.toNat, fo ++ [sp[d.toNat]], _, rfl, ?_, ?_, ?_, ?_, ?_, ?_⟩
      · rw [upd_ne nsf, upd_same, map_erase]
      · rw [upd_same, List.map_append]
        rfl
      · rw [List.append_assoc]
        exact (List.Perm.append_left fo (erase_perm ey)).trans pm
      · rw [List.length_append, lf]
        rfl
      · exact ((bar.trans bar2).put hs _).put hfH _
      · exact ((pt2.put nsp _).put nfp _).mono (by omega)
  · rintro σ H' ⟨sp, fo, t5, rfl, es, ef, pm, lf, bar, pt⟩
    refine ⟨_, rfl, fA, _, rfl, .inl ⟨SqL.of ef, fun a ha => ?_⟩⟩
    have nd2 : (fo ++ sp).Nodup := pm.nodup_iff.mpr nd
    exact k a fo _ (bar.trans (Bar.new ha _)) (pt.new ha _) (SqT.of upd_same) lf (List.nodup_append.mp nd2).1 fun y hy => pm.mem_iff.mp (List.mem_append_left _ hy)
end
end Hx
set_option maxRecDepth 100000
set_option maxHeartbeats 8000000
/-! The text of the law's house. -/
namespace Hx
open PySem PySem.Spec PyProof.Rows L2
/-! ### readings that give a plain value, whatever the heap -/
def RdS (t : TE) (σ : L2.St) (v : V) : Prop := ∀ (H : Hp) (Q : VK), (∀ H', Same H H' → Q v H') → t σ H Q
def RdA (t : TA) (σ : L2.St) (vs : List V) : Prop := ∀ (H : Hp) (Q : List V → Hp → Prop), (∀ H', Same H H' → Q vs H') → t σ H Q
def rStrAdd : R2 := fun x y H Q => ∃ i j, x = .str i ∧ y = .str j ∧ i.length + j.length ≤ sizeLine ∧ Q (.str (i ++ j)) H
theorem op_addS {X : Cx} : OpR X (binaryOp .Add) rStrAdd := op_add_str
def rStrI : List V → Hp → VK → Prop := fun xs H Q => ∃ i, xs = [.int i] ∧ i.natAbs.log2 < 1920 ∧ Q (.str (numS i)) H
theorem call_strI {X : Cx} : CallR X (.type "str") rStrI := call_str_int
def rJoin (K : PySem.W.Frag) : V → List V → Hp → VK → Prop := fun x xs H Q => ∃ a p, ∃ ys : List Str, x = .str a ∧ xs = [.ref p] ∧ (SqL K H p (ys.map V.str) ∨ SqT K H p (ys.map V.str)) ∧ (ys.map (·.length)).sum + ys.length * a.length ≤ 16777216 ∧ Q (.str (Txt.join a ys)) H
theorem mt_joinK {X : Cx} : MtR X "str.join" (rJoin X.K) := mt_join
section
variable {K : PySem.W.Frag} {σ : L2.St} {ta tb : TE} {ts : TA} {v : V} {vs : List V} {x y : Str}
theorem rd_var {i : Nat} (e : σ[i]? = some (some v)) : RdS (tVar i) σ v := fun H Q k => ⟨v, e, k H (Same.refl H)⟩
theorem rd_c : RdS (tC v) σ v := fun H Q k => k H (Same.refl H)
theorem rd_add (ha : RdS ta σ (.str x)) (hb : RdS tb σ (.str y)) (l : x.length + y.length ≤ 1000) : RdS (tOp rStrAdd ta tb) σ (.str (x ++ y)) := fun H Q k => by
  refine ha H _ fun H1 s1 => hb H1 _ fun H2 s2 => ⟨x, y, rfl, rfl, sz l, k H2 (s1.trans s2)⟩
theorem rd_num {i : Int} (ha : RdS ta σ (.int i)) (h0 : 0 ≤ i) (h1 : i < 10) : RdS (tCB rStrI (tCons ta tNil)) σ (.str (numS i)) := fun H Q k => by
  refine ha H _ fun H1 s1 => ⟨i, rfl, ?_, k H1 s1⟩
  have e : i = 0 ∨ i = 1 ∨ i = 2 ∨ i = 3 ∨ i = 4 ∨ i = 5 ∨ i = 6 ∨ i = 7 ∨ i = 8 ∨ i = 9 := by omega
  rcases e with rfl | rfl | rfl | rfl | rfl | rfl | rfl | rfl | rfl | rfl <;> decide +kernel
theorem rda_nil : RdA tNil σ [] := fun H Q k => k H (Same.refl H)
theorem rda_cons (ha : RdS ta σ v) (hr : RdA ts σ vs) : RdA (tCons ta ts) σ (v :: vs) := fun H Q k => ha H _ fun H1 s1 => hr H1 _ fun H2 s2 => k H2 (s1.trans s2)
theorem rd_lst {H : Hp} {Q : VK} (ha : RdA ts σ vs) (l : vs.length ≤ 900) (k : ∀ p H', Same H H' → H' p = some (.lst vs) → Q (.ref p) H') : tLst ts σ H Q := ha H _ fun H1 s1 => ⟨sz (by omega), fun p hp => k p _ (s1.trans (same_new hp _)) upd_same⟩
theorem rd_tup {H : Hp} {Q : VK} (ha : RdA ts σ vs) (l : vs.length ≤ 900) (k : ∀ p H', Same H H' → H' p = some (.tup vs) → Q (.ref p) H') : tTup ts σ H Q := ha H _ fun H1 s1 => ⟨sz (by omega), fun p hp => k p _ (s1.trans (same_new hp _)) upd_same⟩
theorem rd_join {a : Str} {ys : List Str} (ha : RdA ts σ (ys.map V.str)) (l : ys.length ≤ 900) (l2 : (ys.map (·.length)).sum + ys.length * a.length ≤ 1000) : RdS (tBM K "str" (rJoin K) (tC (.str a)) (tCons (tLst ts) tNil)) σ (.str (Txt.join a ys)) := fun H Q k =>
  ⟨rfl, rd_lst ha (by rw [List.length_map]; exact l) fun p H1 s1 e => ⟨a, p, ys, rfl, rfl, .inl (SqL.of e), Nat.le_trans l2 (by decide), k H1 s1⟩⟩
theorem rd_catl {i : Nat} {l : Addr} {xs : List V} {H : Hp} {Q : VK} (e : σ[i]? = some (some (.ref l))) (hl : H l = some (.lst xs)) (ha : RdA ts σ vs) (n1 : xs.length ≤ 400) (n2 : vs.length ≤ 400) (k : ∀ p H', Same H H' → H' p = some (.lst (xs ++ vs)) → Q (.ref p) H') : tOp rCat (tVar i) (tLst ts) σ H Q :=
  ⟨_, e, rd_lst ha (by omega) fun p H1 s1 e1 => ⟨l, p, xs, vs, rfl, rfl, s1 _ _ hl, e1, sz (by omega), fun q hq => k q _ (s1.trans (same_new hq _)) upd_same⟩⟩
end
/-! ### the lines -/
theorem str_assoc (a b c : Str) : a ++ b ++ c = a ++ (b ++ c) := TL.ext_tl (by rw [TL.tl_append, TL.tl_append, TL.tl_append, TL.tl_append, List.append_assoc])
theorem len_add (a b : Str) : (a ++ b).length = a.length + b.length := by rw [TL.len_tl, TL.tl_append, List.length_append, ← TL.len_tl, ← TL.len_tl]
/-- the names that are drawn -/
structure Nms where
  ann : Str
  bob : Str
  tally : Str
  last : Str
  kind : Str
  put : Str
  rest : Str
def Nms.list (N : Nms) : List Str := [N.ann, N.bob, N.tally, N.last, N.kind, N.put, N.rest]
/-- the house by hand -/
def Nms.cells (N : Nms) (a : Int) : List CellD := [⟨N.tally, 4, a⟩, ⟨N.last, 3, 0⟩]
def Nms.kinds (N : Nms) : List KindD := [⟨N.kind, [⟨"w", none⟩, ⟨"n", some 4⟩, ⟨"m", some 3⟩]⟩]
def Nms.dPut (N : Nms) (b : Int) : DeedD := ⟨N.put, some [N.ann], [], 3, [⟨false, 1, .it⟩, ⟨true, 0, .cell 1⟩, ⟨true, 0, .num b⟩], [⟨0, [.who, .cell 0, .cell 1]⟩]⟩
def Nms.dRest (N : Nms) : DeedD := ⟨N.rest, none, [⟨1, false, 0⟩], 1, [⟨false, 1, .num 0⟩], [⟨0, [.person N.ann, .num 3, .it]⟩]⟩
def Nms.house (N : Nms) (a b : Int) : HouseD := ⟨[N.bob, N.ann], N.cells a, N.kinds, [N.dPut b, N.dRest], 2⟩
def Nms.lines1 (N : Nms) (a : Int) : List Str := ["people " ++ N.bob ++ " " ++ N.ann, "cell " ++ N.tally ++ " 4 " ++ numS a, "cell " ++ N.last ++ " 3 0", "kind " ++ N.kind]
def Nms.lines2 (N : Nms) : List Str := ["  who w", "  worth n 4", "  worth m 3", "deed " ++ N.put, "  by " ++ N.ann, "  pick 3"]
def Nms.lines3 (N : Nms) (b : Int) : List Str := ["  set " ++ N.last ++ " it", "  add " ++ N.tally ++ " " ++ N.last, "  add " ++ N.tally ++ " " ++ numS b]
def Nms.lines4 (N : Nms) : List Str := ["  row " ++ Txt.join " " [N.kind, "who", N.tally, N.last], "deed " ++ N.rest, "  if " ++ N.last ++ " != 0"]
def Nms.lines5 (N : Nms) : List Str := ["  set " ++ N.last ++ " 0", "  row " ++ Txt.join " " [N.kind, N.ann, "3", "it"], "day 2"]
def Nms.lines (N : Nms) (a b : Int) : List Str := N.lines1 a ++ N.lines2 ++ N.lines3 b ++ N.lines4 ++ N.lines5
theorem s_cut (x y z : Str) (r : Str) (h : z = x ++ y) : z ++ r = x ++ (y ++ r) := by rw [h, str_assoc]
theorem lit1 : ("people " : Str) = "people" ++ " " := by decide +kernel
theorem lit2 : ("cell " : Str) = "cell" ++ " " := by decide +kernel
theorem lit3 : (" 4 " : Str) = " " ++ ("4" ++ " ") := by decide +kernel
theorem lit4 : (" 3 0" : Str) = " " ++ ("3" ++ (" " ++ "0")) := by decide +kernel
theorem lit5 : ("kind " : Str) = "kind" ++ " " := by decide +kernel
theorem lit6 : ("deed " : Str) = "deed" ++ " " := by decide +kernel
theorem lit7 : ("  by " : Str) = "  " ++ ("by" ++ " ") := by decide +kernel
theorem lit8 : ("  set " : Str) = "  " ++ ("set" ++ " ") := by decide +kernel
theorem lit9 : ("  add " : Str) = "  " ++ ("add" ++ " ") := by decide +kernel
theorem lit10 : ("  row " : Str) = "  " ++ ("row" ++ " ") := by decide +kernel
theorem lit11 : ("  if " : Str) = "  " ++ ("if" ++ " ") := by decide +kernel
theorem lit12 : (" it" : Str) = " " ++ "it" := by decide +kernel
theorem lit13 : (" != 0" : Str) = " " ++ ("!=" ++ (" " ++ "0")) := by decide +kernel
theorem lit14 : (" 0" : Str) = " " ++ "0" := by decide +kernel
theorem lit15 : ("  who w" : Str) = "  " ++ ("who" ++ (" " ++ "w")) := by decide +kernel
theorem lit16 : ("  worth n 4" : Str) = "  " ++ ("worth" ++ (" " ++ ("n" ++ (" " ++ "4")))) := by decide +kernel
theorem lit17 : ("  worth m 3" : Str) = "  " ++ ("worth" ++ (" " ++ ("m" ++ (" " ++ "3")))) := by decide +kernel
theorem lit18 : ("  pick 3" : Str) = "  " ++ ("pick" ++ (" " ++ "3")) := by decide +kernel
theorem lit19 : ("day 2" : Str) = "day" ++ (" " ++ "2") := by decide +kernel
theorem join1 (x : Str) : Str.join " " [x] = x := rfl
theorem join2 (x y : Str) (r : List Str) : Str.join " " (x :: y :: r) = x ++ (" " ++ Str.join " " (y :: r)) := by rw [join_cons, str_assoc]
theorem num0 : numS 0 = "0" := by decide +kernel
theorem num2 : numS 2 = "2" := by decide +kernel
theorem num3 : numS 3 = "3" := by decide +kernel
theorem num4 : numS 4 = "4" := by decide +kernel
theorem page_lines (N : Nms) (a b : Int) : (N.house a b).page.map Rw.text = N.lines a b := by
  have e : (N.house a b).page = [⟨false, ["people", N.bob, N.ann]⟩, ⟨false, ["cell", N.tally, "4", numS a]⟩, ⟨false, ["cell", N.last, "3", "0"]⟩, ⟨false, ["kind", N.kind]⟩, ⟨true, ["who", "w"]⟩, ⟨true, ["worth", "n", "4"]⟩, ⟨true, ["worth", "m", "3"]⟩,
      ⟨false, ["deed", N.put]⟩, ⟨true, ["by", N.ann]⟩, ⟨true, ["pick", "3"]⟩, ⟨true, ["set", N.last, "it"]⟩, ⟨true, ["add", N.tally, N.last]⟩, ⟨true, ["add", N.tally, numS b]⟩, ⟨true, ["row", N.kind, "who", N.tally, N.last]⟩,
      ⟨false, ["deed", N.rest]⟩, ⟨true, ["if", N.last, "!=", "0"]⟩, ⟨true, ["set", N.last, "0"]⟩, ⟨true, ["row", N.kind, N.ann, "3", "it"]⟩, ⟨false, ["day", "2"]⟩] := by
    rw [← num0, ← num2, ← num3, ← num4]
    rfl
  rw [e]
  simp only [List.map_cons, List.map_nil, Rw.text, pad, Nms.lines, Nms.lines1, Nms.lines2, Nms.lines3, Nms.lines4, Nms.lines5, TL.join_eq, join2, join1, lit1, lit2, lit3, lit4, lit5, lit6, lit7, lit8, lit9, lit10, lit11, lit12, lit13, lit14, lit15, lit16, lit17, lit18, lit19,
    str_assoc, empty_app, if_true, if_false, Bool.false_eq_true, List.cons_append, List.nil_append]
/-- the names may be put so -/
structure Nms.Ok (N : Nms) : Prop where
  nd : N.list.Nodup
  nm : ∀ x ∈ N.list, nameB x = true ∧ x ≠ "who"
  i2 : N.tally ≠ "it"
  i3 : N.last ≠ "it"
def spText (K : PySem.W.Frag) : Sp := fun vs H Q _ => ∃ (l : Addr) (N : Nms) (a b : Int), vs = [.ref l, .int a, .int b] ∧ SqL K H l (N.list.map V.str) ∧ N.Ok ∧ 0 ≤ a ∧ a < 4 ∧ 0 ≤ b ∧ b < 4 ∧ ∀ H', Same H H' → Q (.str (Str.join "\n" ((N.house a b).page.map Rw.text))) H'
abbrev nText : List Str := ["_law_names", "_law_first", "_law_step", "_law_ann", "_law_bob", "_law_tally", "_law_last", "_law_kind", "_law_put", "_law_rest", "_law_rows"]
theorem scText : FnScope nText ["_law_names", "_law_first", "_law_step"] (defScope sText) := ⟨rfl, rfl, rfl, by decide +kernel, rfl, by decide +kernel, by decide +kernel⟩
end Hx
set_option maxRecDepth 100000
set_option maxHeartbeats 1000000
namespace Hx
open PySem PySem.Spec PyProof.Rows L2
theorem num_len {v : Int} (h0 : 0 ≤ v) (h : v < 10) : (numS v).length = 1 := by
  have e : v = 0 ∨ v = 1 ∨ v = 2 ∨ v = 3 ∨ v = 4 ∨ v = 5 ∨ v = 6 ∨ v = 7 ∨ v = 8 ∨ v = 9 := by omega
  rcases e with rfl | rfl | rfl | rfl | rfl | rfl | rfl | rfl | rfl | rfl <;> decide +kernel
theorem ll1 : ("people " : Str).length = 7 := by decide +kernel
theorem ll2 : ("cell " : Str).length = 5 := by decide +kernel
theorem ll3 : (" 4 " : Str).length = 3 := by decide +kernel
theorem ll4 : (" 3 0" : Str).length = 4 := by decide +kernel
theorem ll5 : ("kind " : Str).length = 5 := by decide +kernel
theorem ll6 : ("deed " : Str).length = 5 := by decide +kernel
theorem ll7 : ("  by " : Str).length = 5 := by decide +kernel
theorem ll8 : ("  set " : Str).length = 6 := by decide +kernel
theorem ll9 : ("  add " : Str).length = 6 := by decide +kernel
theorem ll10 : ("  row " : Str).length = 6 := by decide +kernel
theorem ll11 : ("  if " : Str).length = 5 := by decide +kernel
theorem ll12 : (" it" : Str).length = 3 := by decide +kernel
theorem ll13 : (" != 0" : Str).length = 5 := by decide +kernel
theorem ll14 : (" 0" : Str).length = 2 := by decide +kernel
theorem ll15 : ("  who w" : Str).length = 7 := by decide +kernel
theorem ll16 : ("  worth n 4" : Str).length = 11 := by decide +kernel
theorem ll17 : ("  worth m 3" : Str).length = 11 := by decide +kernel
theorem ll18 : ("  pick 3" : Str).length = 8 := by decide +kernel
theorem ll19 : ("day 2" : Str).length = 5 := by decide +kernel
theorem ll20 : (" " : Str).length = 1 := by decide +kernel
theorem ll21 : ("who" : Str).length = 3 := by decide +kernel
theorem ll22 : ("3" : Str).length = 1 := by decide +kernel
theorem ll23 : ("it" : Str).length = 2 := by decide +kernel
theorem ll24 : ("\n" : Str).length = 1 := by decide +kernel
theorem join_len (y : Str) : ∀ xs : List Str, (Str.join y xs).length ≤ (xs.map (·.length)).sum + xs.length * y.length
  | [] => by
    show Str.empty.length ≤ _
    exact Nat.zero_le _
  | [x] => by
    show x.length ≤ _
    simp
  | x :: z :: r => by
    have ih := join_len y (z :: r)
    show (x ++ y ++ Str.join y (z :: r)).length ≤ _
    rw [len_add, len_add, List.map_cons, List.sum_cons, List.length_cons, Nat.succ_mul]
    omega
theorem sum_le : ∀ xs : List Str, (∀ x ∈ xs, x.length ≤ 100) → (xs.map (·.length)).sum ≤ 100 * xs.length
  | [], _ => by simp
  | x :: r, h => by
    have ih := sum_le r fun y hy => h y (List.mem_cons_of_mem _ hy)
    have a := h x (List.mem_cons_self ..)
    rw [List.map_cons, List.sum_cons, List.length_cons]
    omega
theorem Nms.Ok.len {N : Nms} (ok : N.Ok) : N.ann.length ≤ 8 ∧ N.bob.length ≤ 8 ∧ N.tally.length ≤ 8 ∧ N.last.length ≤ 8 ∧ N.kind.length ≤ 8 ∧ N.put.length ≤ 8 ∧ N.rest.length ≤ 8 := by
  have h : ∀ x ∈ N.list, x.length ≤ 8 := fun x hx => (name_is (ok.nm x hx).1).2.1
  simp only [Nms.list, List.forall_mem_cons] at h
  obtain ⟨h1, h2, h3, h4, h5, h6, h7, _⟩ := h
  exact ⟨h1, h2, h3, h4, h5, h6, h7⟩
theorem join4 {x y z u : Str} (hx : x.length ≤ 8) (hy : y.length ≤ 8) (hz : z.length ≤ 8) (hu : u.length ≤ 8) : (Txt.join " " [x, y, z, u]).length ≤ 40 ∧ (([x, y, z, u] : List Str).map (·.length)).sum + ([x, y, z, u] : List Str).length * (" " : Str).length ≤ 40 := by
  have e : (([x, y, z, u] : List Str).map (·.length)).sum + ([x, y, z, u] : List Str).length * (" " : Str).length ≤ 40 := by
    rw [ll20]
    simp only [List.map_cons, List.map_nil, List.sum_cons, List.sum_nil, List.length_cons, List.length_nil]
    omega
  refine ⟨?_, e⟩
  rw [TL.join_eq]
  exact Nat.le_trans (join_len _ _) e
theorem Nms.Ok.lines {N : Nms} (ok : N.Ok) {a b : Int} (a0 : 0 ≤ a) (a1 : a < 4) (b0 : 0 ≤ b) (b1 : b < 4) : ∀ x ∈ N.lines a b, x.length ≤ 100 := by
  obtain ⟨h1, h2, h3, h4, h5, h6, h7⟩ := ok.len
  have na := num_len a0 (by omega : a < 10)
  have nb := num_len b0 (by omega : b < 10)
  have j1 := (join4 h5 (by rw [ll21]; omega : ("who" : Str).length ≤ 8) h3 h4).1
  have j2 := (join4 h5 h1 (by rw [ll22]; omega : ("3" : Str).length ≤ 8) (by rw [ll23]; omega : ("it" : Str).length ≤ 8)).1
  simp only [Nms.lines, Nms.lines1, Nms.lines2, Nms.lines3, Nms.lines4, Nms.lines5, List.forall_mem_append, List.forall_mem_cons, len_add, ll1, ll2, ll3, ll4, ll5, ll6, ll7, ll8, ll9, ll10, ll11, ll12, ll13, ll14, ll15, ll16, ll17, ll18, ll19, ll20]
  refine ⟨⟨⟨⟨⟨?_, ?_, ?_, ?_, fun _ z => nomatch z⟩, ?_, ?_, ?_, ?_, ?_, ?_, fun _ z => nomatch z⟩, ?_, ?_, ?_, fun _ z => nomatch z⟩, ?_, ?_, ?_, fun _ z => nomatch z⟩, ?_, ?_, ?_, fun _ z => nomatch z⟩ <;> omega
section
variable {P : Program} {w : World} {K : PySem.W.Frag} {mg : Str → Option Value} {base : Heap}
theorem ok_text {f : Addr} {fd : FuncData} (F : Fun K "_law_house_text" "_law_house_text" sText f fd) (ms : mg "str" = none) : FnOk P w K mg base CX0 1 f fd ["_law_names", "_law_first", "_law_step"] (spText K) := by
  refine F.ok scText (fun vs H Q E h => ?_) (fun cdv A outer s H vs Q E hr h => ?_)
  · obtain ⟨l, N, a, b, rfl, _⟩ := h
    rfl
  obtain ⟨l, N, a, b, rfl, hl, ok, a0, a1, b0, b1, k⟩ := h
  have nd := scText.nd
  refine ⟨_, pss_cons (ps_asg (pv 0) (pg_unl rfl (pgs_cons (pg_name (i := 3) nd rfl (.inl rfl)) (pgs_cons (pg_name (i := 4) nd rfl (.inl rfl)) (pgs_cons (pg_name (i := 5) nd rfl (.inl rfl)) (pgs_cons (pg_name (i := 6) nd rfl (.inl rfl)) (pgs_cons (pg_name (i := 7) nd rfl (.inl rfl)) (pgs_cons (pg_name (i := 8) nd rfl (.inl rfl)) (pgs_cons (pg_name (i := 9) nd rfl (.inl rfl)) pgs_nil)))))))))
    (pss_cons (ps_set (i := 10) nd rfl (.inl rfl) (pe_lst (pa_cons (pe_op op_addS (pe_op op_addS (pe_op op_addS pe_str (pv 4)) pe_str) (pv 3)) (pa_cons (pe_op op_addS (pe_op op_addS (pe_op op_addS pe_str (pv 5)) pe_str) (pe_callTy call_strI rfl ms PyProof.Rows.Boot.«str» (pa_cons (pv 1) pa_nil)))
      (pa_cons (pe_op op_addS (pe_op op_addS pe_str (pv 6)) pe_str) (pa_cons (pe_op op_addS pe_str (pv 7)) pa_nil))))))
    (pss_cons (ps_set (i := 10) nd rfl (.inl rfl) (pe_op op_cat (pv 10) (pe_lst (pa_cons pe_str (pa_cons pe_str (pa_cons pe_str (pa_cons (pe_op op_addS pe_str (pv 8)) (pa_cons (pe_op op_addS pe_str (pv 3)) (pa_cons pe_str pa_nil)))))))))
    (pss_cons (ps_set (i := 10) nd rfl (.inl rfl) (pe_op op_cat (pv 10) (pe_lst (pa_cons (pe_op op_addS (pe_op op_addS pe_str (pv 6)) pe_str) (pa_cons (pe_op op_addS (pe_op op_addS (pe_op op_addS pe_str (pv 5)) pe_str) (pv 6))
      (pa_cons (pe_op op_addS (pe_op op_addS (pe_op op_addS pe_str (pv 5)) pe_str) (pe_callTy call_strI rfl ms PyProof.Rows.Boot.«str» (pa_cons (pv 2) pa_nil))) pa_nil))))))
    (pss_cons (ps_set (i := 10) nd rfl (.inl rfl) (pe_op op_cat (pv 10) (pe_lst (pa_cons (pe_op op_addS pe_str (pe_bm PySem.F.plainAttrs_str PySem.F.slot_str_join PySem.F.type_str_join mt_joinK pe_str (pa_cons (pe_lst (pa_cons (pv 7) (pa_cons pe_str (pa_cons (pv 5) (pa_cons (pv 6) pa_nil))))) pa_nil)))
      (pa_cons (pe_op op_addS pe_str (pv 9)) (pa_cons (pe_op op_addS (pe_op op_addS pe_str (pv 6)) pe_str) pa_nil))))))
    (pss_one (ps_ret (pe_bm PySem.F.plainAttrs_str PySem.F.slot_str_join PySem.F.type_str_join mt_joinK pe_str (pa_cons (pe_op op_cat (pv 10) (pe_lst (pa_cons (pe_op op_addS (pe_op op_addS pe_str (pv 6)) pe_str)
      (pa_cons (pe_op op_addS pe_str (pe_bm PySem.F.plainAttrs_str PySem.F.slot_str_join PySem.F.type_str_join mt_joinK pe_str (pa_cons (pe_lst (pa_cons (pv 7) (pa_cons (pv 3) (pa_cons pe_str (pa_cons pe_str pa_nil))))) pa_nil))) (pa_cons pe_str pa_nil))))) pa_nil)))))))), ?_⟩
  obtain ⟨h1, h2, h3, h4, h5, h6, h7⟩ := ok.len
  have na := num_len a0 (by omega : a < 10)
  have nb := num_len b0 (by omega : b < 10)
  have w8 : ("who" : Str).length ≤ 8 := by rw [ll21]; omega
  have t8 : ("3" : Str).length ≤ 8 := by rw [ll22]; omega
  have i8 : ("it" : Str).length ≤ 8 := by rw [ll23]; omega
  refine ⟨_, rfl, l, _, rfl, hl, rfl, ?_⟩
  refine ⟨_, _, rfl, _, _, rfl, _, _, rfl, _, _, rfl, _, _, rfl, _, _, rfl, _, _, rfl, rfl, ?_⟩
  have ln : ∀ {x y : Str}, x.length ≤ 50 → y.length ≤ 50 → x.length + y.length ≤ 1000 := fun h h' => by omega
  dsimp only
  show tSeq (tAsg _ _) _ _ [some (V.ref l), some (V.int a), some (V.int b), some (V.str N.ann), some (V.str N.bob), some (V.str N.tally), some (V.str N.last), some (V.str N.kind), some (V.str N.put), some (V.str N.rest), none] _
  refine seq_asg ?_
  refine rd_lst (vs := (N.lines1 a).map V.str) (rda_cons (rd_add (rd_add (rd_add rd_c (rd_var rfl) (by simp only [len_add, ll1, ll2, ll3, ll4, ll5, ll6, ll7, ll8, ll9, ll10, ll11, ll12, ll13, ll14, ll20]; omega)) rd_c (by simp only [len_add, ll1, ll2, ll3, ll4, ll5, ll6, ll7, ll8, ll9, ll10, ll11, ll12, ll13, ll14, ll20]; omega)) (rd_var rfl) (by simp only [len_add, ll1, ll2, ll3, ll4, ll5, ll6, ll7, ll8, ll9, ll10, ll11, ll12, ll13, ll14, ll20]; omega)) (rda_cons (rd_add (rd_add (rd_add rd_c (rd_var rfl) (by simp only [len_add, ll1, ll2, ll3, ll4, ll5, ll6, ll7, ll8, ll9, ll10, ll11, ll12, ll13, ll14, ll20]; omega)) rd_c (by simp only [len_add, ll1, ll2, ll3, ll4, ll5, ll6, ll7, ll8, ll9, ll10, ll11, ll12, ll13, ll14, ll20]; omega)) (rd_num (rd_var rfl) a0 (by omega)) (by simp only [len_add, ll1, ll2, ll3, ll4, ll5, ll6, ll7, ll8, ll9, ll10, ll11, ll12, ll13, ll14, ll20]; omega)) (rda_cons (rd_add (rd_add rd_c (rd_var rfl) (by simp only [len_add, ll1, ll2, ll3, ll4, ll5, ll6, ll7, ll8, ll9, ll10, ll11, ll12, ll13, ll14, ll20]; omega)) rd_c (by simp only [len_add, ll1, ll2, ll3, ll4, ll5, ll6, ll7, ll8, ll9, ll10, ll11, ll12, ll13, ll14, ll20]; omega)) (rda_cons (rd_add rd_c (rd_var rfl) (by simp only [len_add, ll1, ll2, ll3, ll4, ll5, ll6, ll7, ll8, ll9, ll10, ll11, ll12, ll13, ll14, ll20]; omega)) rda_nil)))) (by show 4 ≤ 900; decide) fun p1 H1 s1 e1 => ?_
  show tSeq (tAsg _ _) _ _ [some (V.ref l), some (V.int a), some (V.int b), some (V.str N.ann), some (V.str N.bob), some (V.str N.tally), some (V.str N.last), some (V.str N.kind), some (V.str N.put), some (V.str N.rest), some (V.ref p1)] _
  refine seq_asg ?_
  refine rd_catl (i := 10) (vs := N.lines2.map V.str) rfl e1 (rda_cons rd_c (rda_cons rd_c (rda_cons rd_c (rda_cons (rd_add rd_c (rd_var rfl) (by simp only [len_add, ll1, ll2, ll3, ll4, ll5, ll6, ll7, ll8, ll9, ll10, ll11, ll12, ll13, ll14, ll20]; omega)) (rda_cons (rd_add rd_c (rd_var rfl) (by simp only [len_add, ll1, ll2, ll3, ll4, ll5, ll6, ll7, ll8, ll9, ll10, ll11, ll12, ll13, ll14, ll20]; omega)) (rda_cons rd_c rda_nil)))))) (by show 4 ≤ 400; decide) (by show 6 ≤ 400; decide) fun p2 H2 s2 e2 => ?_
  show tSeq (tAsg _ _) _ _ [some (V.ref l), some (V.int a), some (V.int b), some (V.str N.ann), some (V.str N.bob), some (V.str N.tally), some (V.str N.last), some (V.str N.kind), some (V.str N.put), some (V.str N.rest), some (V.ref p2)] _
  refine seq_asg ?_
  refine rd_catl (i := 10) (vs := (N.lines3 b).map V.str) rfl e2 (rda_cons (rd_add (rd_add rd_c (rd_var rfl) (by simp only [len_add, ll1, ll2, ll3, ll4, ll5, ll6, ll7, ll8, ll9, ll10, ll11, ll12, ll13, ll14, ll20]; omega)) rd_c (by simp only [len_add, ll1, ll2, ll3, ll4, ll5, ll6, ll7, ll8, ll9, ll10, ll11, ll12, ll13, ll14, ll20]; omega)) (rda_cons (rd_add (rd_add (rd_add rd_c (rd_var rfl) (by simp only [len_add, ll1, ll2, ll3, ll4, ll5, ll6, ll7, ll8, ll9, ll10, ll11, ll12, ll13, ll14, ll20]; omega)) rd_c (by simp only [len_add, ll1, ll2, ll3, ll4, ll5, ll6, ll7, ll8, ll9, ll10, ll11, ll12, ll13, ll14, ll20]; omega)) (rd_var rfl) (by simp only [len_add, ll1, ll2, ll3, ll4, ll5, ll6, ll7, ll8, ll9, ll10, ll11, ll12, ll13, ll14, ll20]; omega)) (rda_cons (rd_add (rd_add (rd_add rd_c (rd_var rfl) (by simp only [len_add, ll1, ll2, ll3, ll4, ll5, ll6, ll7, ll8, ll9, ll10, ll11, ll12, ll13, ll14, ll20]; omega)) rd_c (by simp only [len_add, ll1, ll2, ll3, ll4, ll5, ll6, ll7, ll8, ll9, ll10, ll11, ll12, ll13, ll14, ll20]; omega)) (rd_num (rd_var rfl) b0 (by omega)) (by simp only [len_add, ll1, ll2, ll3, ll4, ll5, ll6, ll7, ll8, ll9, ll10, ll11, ll12, ll13, ll14, ll20]; omega)) rda_nil))) (by show 10 ≤ 400; decide) (by show 3 ≤ 400; decide) fun p3 H3 s3 e3 => ?_
  show tSeq (tAsg _ _) _ _ [some (V.ref l), some (V.int a), some (V.int b), some (V.str N.ann), some (V.str N.bob), some (V.str N.tally), some (V.str N.last), some (V.str N.kind), some (V.str N.put), some (V.str N.rest), some (V.ref p3)] _
  refine seq_asg ?_
  refine rd_catl (i := 10) (vs := N.lines4.map V.str) rfl e3 (rda_cons (rd_add rd_c (rd_join (a := " ") (ys := [N.kind, "who", N.tally, N.last]) (rda_cons (rd_var rfl) (rda_cons rd_c (rda_cons (rd_var rfl) (rda_cons (rd_var rfl) rda_nil)))) (by show 4 ≤ 900; decide) (Nat.le_trans (join4 h5 w8 h3 h4).2 (by decide))) (Nat.le_trans (Nat.add_le_add (Nat.le_of_eq ll10) (join4 h5 w8 h3 h4).1) (by decide))) (rda_cons (rd_add rd_c (rd_var rfl) (by simp only [len_add, ll1, ll2, ll3, ll4, ll5, ll6, ll7, ll8, ll9, ll10, ll11, ll12, ll13, ll14, ll20]; omega)) (rda_cons (rd_add (rd_add rd_c (rd_var rfl) (by simp only [len_add, ll1, ll2, ll3, ll4, ll5, ll6, ll7, ll8, ll9, ll10, ll11, ll12, ll13, ll14, ll20]; omega)) rd_c (by simp only [len_add, ll1, ll2, ll3, ll4, ll5, ll6, ll7, ll8, ll9, ll10, ll11, ll12, ll13, ll14, ll20]; omega)) rda_nil))) (by show 13 ≤ 400; decide) (by show 3 ≤ 400; decide) fun p4 H4 s4 e4 => ?_
  show tRet _ _ [some (V.ref l), some (V.int a), some (V.int b), some (V.str N.ann), some (V.str N.bob), some (V.str N.tally), some (V.str N.last), some (V.str N.kind), some (V.str N.put), some (V.str N.rest), some (V.ref p4)] _
  refine ⟨rfl, ?_⟩
  refine rd_catl (i := 10) (vs := N.lines5.map V.str) rfl e4 (rda_cons (rd_add (rd_add rd_c (rd_var rfl) (by simp only [len_add, ll1, ll2, ll3, ll4, ll5, ll6, ll7, ll8, ll9, ll10, ll11, ll12, ll13, ll14, ll20]; omega)) rd_c (by simp only [len_add, ll1, ll2, ll3, ll4, ll5, ll6, ll7, ll8, ll9, ll10, ll11, ll12, ll13, ll14, ll20]; omega)) (rda_cons (rd_add rd_c (rd_join (a := " ") (ys := [N.kind, N.ann, "3", "it"]) (rda_cons (rd_var rfl) (rda_cons (rd_var rfl) (rda_cons rd_c (rda_cons rd_c rda_nil)))) (by show 4 ≤ 900; decide) (Nat.le_trans (join4 h5 h1 t8 i8).2 (by decide))) (Nat.le_trans (Nat.add_le_add (Nat.le_of_eq ll10) (join4 h5 h1 t8 i8).1) (by decide))) (rda_cons rd_c rda_nil))) (by show 16 ≤ 400; decide) (by show 3 ≤ 400; decide) fun p5 H5 s5 e5 => ?_
  have el : H5 p5 = some (.lst ((N.lines a b).map V.str)) := by
    rw [e5]
    simp only [Nms.lines, List.map_append]
  have sm := sum_le (N.lines a b) (ok.lines a0 a1 b0 b1)
  refine ⟨"\n", p5, N.lines a b, rfl, rfl, .inl (SqL.of el), ?_, ?_⟩
  · rw [ll24]
    have : (N.lines a b).length = 19 := rfl
    omega
  · have e := k H5 (s1.trans (s2.trans (s3.trans (s4.trans s5))))
    rw [page_lines, ← TL.join_eq] at e
    exact e
end
end Hx
set_option maxRecDepth 100000
set_option maxHeartbeats 2000000
/-! Promises of defs that are called where no repr is under way. -/
namespace L2
open PySem PySem.Spec PyProof.Rows
structure FnG (P : Program) (w : World) (K : PySem.W.Frag) (mg : Str → Option Value) (base : Heap) (k : Nat) (f : Addr) (fd : FuncData) (ps : List Str) (sp : Sp) : Prop where
  len : ∀ vs H Q E, sp vs H Q E → vs.length = ps.length
  run : ∀ (A : Around) (outer : List Env) (s : Shared) (H : Hp) (args : Args) (us : List Value) (vs : List V) (Q : VK), A.guards = some [] → Room k A → Env0 P w K mg base A outer s H → BindsTo s fd args (ps.zip us) → Vals vs us → sp vs H Q E0 →
    codeAny (model P w) A (.call (.ref f) args) (CR CX0 outer P w H s Q E0) s

section
variable {P : Program} {w : World} {K : PySem.W.Frag} {mg : Str → Option Value} {base : Heap} {k : Nat} {f : Addr} {fd : FuncData} {ps : List Str} {sp : Sp}
theorem FnG.mono {j : Nat} (F : FnG P w K mg base j f fd ps sp) (h : j ≤ k) : FnG P w K mg base k f fd ps sp :=
  ⟨F.len, fun A outer s H args us vs Q hg hr => F.run A outer s H args us vs Q hg (hr.mono h)⟩
/-- such a def by its body -/
theorem Fun.okG {x qual : Str} {st : Stmt} {N : List Str} (F : Fun K x qual st f fd) (S : FnScope N ps (defScope st)) (len : ∀ vs H Q E, sp vs H Q E → vs.length = ps.length)
    (hbody : ∀ (cdv : Value) (A : Around) (outer : List Env) (s : Shared) (H : Hp) (vs : List V) (Q : VK), A.guards = some [] → Room k (A.deeper (envOfC qual (defScope st) s.heap.objs.size f cdv)) → sp vs H Q E0 →
      ∃ t, PSs (cxOf CX0 P w K mg base N qual (defScope st) f cdv A outer s H E0).nox (defBody st) t ∧ t { nx := fun _ H' => Q .non H', rt := Q } (start N vs) H) : FnG P w K mg base (k + 1) f fd ps sp := by
  obtain ⟨oc, od, kV, doc, pm, an, cdv, ct, osl, rfl, found, code⟩ := F.ex
  refine ⟨len, fun A outer s H args us vs Q hg hr e0 hb rv hsp => ?_⟩
  have many := len _ _ _ _ hsp
  have X0 : K.In s.heap := e0.mod.kin.keeps fun b o e => (e0.bs b o e).1
  have kinds : ∀ y ∈ ps.zip us, (defScope st).names.lookup y.1 = some .local ∨ ((defScope st).names.lookup y.1 = some .cell ∧ ((cellsFrom (s.heap.objs.size + 1) (defScope st).names []).lookup y.1).isSome = true) := fun ⟨n, v⟩ hy =>
    (S.par n (List.of_mem_zip hy).1).imp id fun q => ⟨q, PySem.W.cellsFrom_some _ _ _ (.inl q)⟩
  refine codeAny_call_function hr.depth (X0 _ _ found) rfl S.co S.gen rfl (PySem.W.codeRec_of X0 code) (hb _ _ _ _ (wpAny_newFunctionEnv_cells S.kind kinds fun env he s1 x => ?_))
  subst he
  refine ⟨(e0.mod.nolimit.keeps fun b o e => (e0.bs b o e).1).keeps x.toInCall.keep, codeAny_func ?_⟩
  obtain ⟨t, ht, hq⟩ := hbody cdv A outer s H vs Q hg (hr.deeper _) hsp
  refine wpAny_mono (ht.nox.run [] s1 (start N vs) H _ (inv_start S hr.hd e0 many rv x) hq) (fun fl s' hs => ?_) fun e s' hs => hs
  rcases fl with _ | _ | _ | u
  all_goals first
    | (obtain ⟨σ', H', J, q⟩ := hs; exact ⟨V.non, H', J.os, J.bare, J.base, J.hok, rfl, q⟩)
    | (obtain ⟨v, σ', H', J, r, q⟩ := hs; exact ⟨v, H', J.os, J.bare, J.base, J.hok, r, q⟩)
    | (obtain ⟨_, _, _, q⟩ := hs; exact q.elim)
end
section
variable {X : Cx} {k : Nat} {f : Addr} {fd : FuncData} {ps : List Str} {sp : Sp} {x : Str} {p pos : Pos} {e : Expr} {es : List Expr} {t : TA}
/-- f(e, ..) -/
theorem pe_callG (F : FnG X.prog X.w X.K X.mg X.base k f fd ps sp) (hA : X.A.guards = some []) (hr : Room k X.A) (hg : Gl X x) (hm : X.mg x = some (.ref f)) (hk : PySem.W.keepIn X.K (.ref f) = true) (hb : Binds X.K fd ps []) (ha : PA X (e :: es) t)
    (hdb : (x == ("__debug__" : Str)) = false := by decide) (he : starEach (e :: es) X.env = (false, eval e X.env) :: starEach es X.env := by rfl) (hpl : (backTo pos (starEach es X.env)).any (·.1) = false := by rfl) :
    PE X (.Call (.Name x p) (e :: es) [] pos) (fun σ H Q => t σ H fun vs H1 => sp vs H1 Q E0) := by
  refine ⟨fun pins s σ H Q I h => wpAny_Call_Name_kw (ld_glob I hg hm ?_ hdb)⟩
  refine PySem.W.callWith_K (h₀ := X.base) I.ok.mod.kin hk (thn (ha.run pos pins s σ H _ I h) fun us s1 hh => ?_) he hpl
  obtain ⟨vs, H1, I1, r, q⟩ := hh
  have hl : (us ++ []).length = ps.length := by
    rw [List.append_nil, ← r.length]
    exact F.len _ _ _ _ q
  have bound := hb s1 us I1.kIn hl
  rw [List.append_nil] at bound
  refine ⟨I1.kIn, wpAny_call (codeAny_mono (F.run X.A X.stack s1 H1 ⟨us, []⟩ us vs Q hA hr I1.env0 bound r q) fun res s' z => ?_)⟩
  rcases res with er | (u | _ | _ | _)
  · exact False.elim z
  all_goals first | exact I1.after z | exact False.elim z
end
end L2
set_option maxRecDepth 100000
set_option maxHeartbeats 2000000
/-! The end of a law over such promises. -/
namespace L2
open PySem PySem.Spec PyProof.Rows
section
variable {P : Program} {w : World} {K : PySem.W.Frag} {mg mb : Str → Option Value} {k : Nat} {fa a : Addr} {fd : FuncData} {x : Str} {sp : Sp} {s₁ : Shared} {vs : List Value} {ns : List Int}
/-- with what is tracked given: H, the script alone or nothing -/
theorem endG (KX : K.In s₁.heap) (gl : s₁.heap.Ns mainGlobals mg) (bl : s₁.heap.Ns builtinsNs mb) (bb : ∀ x : Str, x ≠ "__name__" → mb x = bootBuiltins x) (lim : s₁.heap.NoLimit) (gens : s₁.gens = #[])
    (ha : s₁.heap.get? a = some { cls := .type "list", data := .seq vs.toArray }) (hr : Room k callerA) (F : ∀ base : Heap, K.In base → base.Ns mainGlobals mg → FnG P w K mg base k fa fd [x] sp)
    (bind : ∀ (s : Shared) (u : Value), BindsTo s fd ⟨[u], []⟩ [(x, u)]) {H : Hp} (only : Only H) (ok : HOk P w H s₁.heap) (at_a : ∀ b, H b ≠ none → b = a) (noK : H a ≠ none → K.lookup a = none) (hsp : sp [.ref a] H (fun v _ => v = .bl true) E0) :
    codeAny (model P w) callerA (.call (.ref fa) ⟨[.ref a], []⟩) (fun r s' => r = .ok (.ret (.bool true)) ∧ OldK s₁.heap s'.heap ∧ s'.os = s₁.os ∧ AllBare s'.gens) s₁ := by
  have free : ∀ {b : Addr} {o : Obj}, s₁.heap.get? b = some o → (b = a → False) → H b = none := fun {b o} _ n => by
    cases q : H b with
    | none => rfl
    | some u => exact (n (at_a b (by rw [q]; exact fun z => nomatch z))).elim
  have spaces : ∀ {b : Addr} {m : Str → Option Value}, s₁.heap.Ns b m → (hidT s₁.heap H).Ns b m := fun {b m} hn => by
    obtain ⟨o, es, ep, e, d, r⟩ := hn
    refine ⟨o, es, ep, hidT_get e (free e fun z => ?_), d, r⟩
    rw [z, ha] at e
    cases e
    cases d
  have KB : K.In (hidT s₁.heap H) := fun b o e => by
    refine hidT_get (KX b o e) ?_
    cases q : H b with
    | none => rfl
    | some u =>
      have z := at_a b (by rw [q]; exact fun z => nomatch z)
      subst z
      rw [noK (by rw [q]; exact fun z => nomatch z)] at e
      cases e
  have mod : Mod K mg (hidT s₁.heap H) := by
    obtain ⟨mc, l1, l2⟩ := lim
    exact ⟨KB, spaces gl, ⟨mb, spaces bl, bb⟩, mc, spaces l1, l2⟩
  have e0 : Env0 P w K mg (hidT s₁.heap H) callerA [] s₁ H := ⟨rfl, mod, fun b o e => of_hidT e, Nat.le_of_eq (hidT_size _ _), trivial, (fun _ z => nomatch z), ok, .of_eq gens⟩
  refine codeAny_mono ((F _ KB (spaces gl)).run callerA [] s₁ H ⟨[.ref a], []⟩ [.ref a] [.ref a] _ rfl hr e0 (bind s₁ (.ref a)) (.cons rfl .nil) hsp) fun r s' z => ?_
  cases r with
  | error er => exact False.elim z
  | ok fl =>
  cases fl with
  | next => exact False.elim z
  | brk => exact False.elim z
  | cont => exact False.elim z
  | ret u =>
  obtain ⟨v, H', os, bare, un, ok', rv, q⟩ := z
  obtain rfl : v = .bl true := q
  obtain rfl : u = Value.bool true := rv
  refine ⟨rfl, OldK.of_keep fun b o e => ?_, os, bare⟩
  cases q : H b with
  | none => exact un.keep b o e q (fun z => nomatch z) (fun z => nomatch z)
  | some t =>
    rcases only b with z | ⟨ob, xs, z⟩
    · rw [q] at z
      cases z
    · obtain ⟨e1, _⟩ := ok b _ z
      obtain ⟨e2, _⟩ := ok' b _ (un.frzs b ob _ z)
      rw [e] at e1
      cases e1
      exact e2
/-- the law, called -/
theorem callG (KX : K.In s₁.heap) (gl : s₁.heap.Ns mainGlobals mg) (bl : s₁.heap.Ns builtinsNs mb) (bb : ∀ x : Str, x ≠ "__name__" → mb x = bootBuiltins x) (lim : s₁.heap.NoLimit) (gens : s₁.gens = #[])
    (ha : s₁.heap.get? a = some { cls := .type "list", data := .seq vs.toArray }) (whole : IntsAre vs ns) (hl : ns.length ≤ sizeLine) (hr : Room k callerA) (F : ∀ base : Heap, K.In base → base.Ns mainGlobals mg → FnG P w K mg base k fa fd [x] sp)
    (bind : ∀ (s : Shared) (u : Value), BindsTo s fd ⟨[u], []⟩ [(x, u)]) (hsp : ∀ H : Hp, Only H → SqL K H a (ns.map V.int) → sp [.ref a] H (fun v _ => v = .bl true) E0) :
    codeAny (model P w) callerA (.call (.ref fa) ⟨[.ref a], []⟩) (fun r s' => r = .ok (.ret (.bool true)) ∧ OldK s₁.heap s'.heap ∧ s'.os = s₁.os ∧ AllBare s'.gens) s₁ := by
  have rv := vals_ints whole
  cases hk : K.lookup a with
  | some o =>
    have e := KX a o hk
    rw [ha] at e
    cases e
    have only : Only (fun _ => none) := fun _ => .inl rfl
    exact endG KX gl bl bb lim gens ha hr F bind only (fun b u z => nomatch z) (fun b z => (z rfl).elim) (fun z => (z rfl).elim) (hsp _ only (.inr ⟨_, vs.toArray, _, hk, rfl, rfl, rfl, by rw [List.size_toArray, whole.length]; exact hl, by simpa using rv⟩))
  | none =>
    let S : HO := .frz { cls := .type "list", data := .seq vs.toArray } (.lst (ns.map V.int))
    let H : Hp := fun b => if b = a then some S else none
    have ha' : H a = some S := if_pos rfl
    have ne' : ∀ b, b ≠ a → H b = none := fun b n => if_neg n
    have only : Only H := fun b => by
      by_cases hb : b = a
      · exact .inr ⟨_, _, by rw [hb]; exact ha'⟩
      · exact .inl (ne' b hb)
    refine endG KX gl bl bb lim gens ha hr F bind only (fun b u z => ?_) (fun b z => ?_) (fun _ => hk) (hsp H only (.inl (.inr ⟨_, ha'⟩)))
    · by_cases hb : b = a
      · subst hb
        rw [ha'] at z
        cases z
        exact ⟨ha, by rw [List.length_map]; exact hl, vs, _, rv, ha⟩
      · rw [ne' b hb] at z
        cases z
    · by_cases hb : b = a
      · exact hb
      · exact (z (ne' b hb)).elim
end
/-- what the head leaves -/
theorem walkG {l : PySem.W.OpenLaw} {n k : Nat} {q : Program} {loose : List Str} {XP : (Str → Option Value) → Heap → Prop} {YP : World → Heap → Prop} {d : DefRec} {K : Params → PySem.W.Frag} {sp : PySem.W.Frag → Sp} {x : Str}
    (most : l.most = some n) (fits : n ≤ sizeLine) (nod : d.params.defaults = []) (room : Room k callerA) (hY : ∀ (w : World) (h : Heap), YP w h → (K w.params).In h)
    (F : ∀ (w : World) (mg : Str → Option Value) (fa : Addr) (h : Heap), (K w.params).In h → h.Ns mainGlobals mg → mg d.name = some (.ref fa) →
      ∃ fd : FuncData, (∀ (s : Shared) (u : Value), BindsTo s fd ⟨[u], []⟩ [(x, u)]) ∧ ∀ base : Heap, (K w.params).In base → base.Ns mainGlobals mg → FnG l.prog w (K w.params) mg base k fa fd [x] (sp (K w.params)))
    (hsp : ∀ (K : PySem.W.Frag) (H : Hp) (a : Addr) (ns : List Int), ns.length ≤ n → Only H → SqL K H a (ns.map V.int) → sp K [.ref a] H (fun v _ => v = .bl true) E0) :
    PySem.W.WalkO q loose XP YP l.row.toRowW d [] (fun f vs => PySem.call f vs) := by
  refine Att.attach_call most nod fun w s₀ s₁ mg mb fa o pm cd doc a vs ns G Y ho hd hcd hmg hobj whole len gens => ?_
  have KX := hY w _ Y
  obtain ⟨fd, bind, made⟩ := F w mg fa _ KX G.T.g hmg
  exact callG KX G.T.g G.T.b G.T.builtins G.T.nolimit gens hobj whole (Nat.le_trans len fits) room made bind fun H only sq => hsp _ H a ns len only sq
end L2
set_option maxRecDepth 100000
set_option maxHeartbeats 1000000
/-! Small data: figures and names in tuples and lists; their repr. -/
namespace Hx
open PySem PySem.Spec PyProof.Rows L2
mutual
def smB : PyData → Bool
  | .int i => decide (0 ≤ i) && decide (i < 10)
  | .str x => nameB x
  | .list xs => smAll xs
  | .tuple xs => smAll xs
  | _ => false
def smAll : List PyData → Bool
  | [] => true
  | x :: xs => smB x && smAll xs
end
mutual
def nodes : PyData → Nat
  | .list xs => nodesAll xs + 1
  | .tuple xs => nodesAll xs + 1
  | _ => 1
def nodesAll : List PyData → Nat
  | [] => 0
  | x :: xs => nodes x + nodesAll xs
end
theorem ten {i : Int} (h0 : 0 ≤ i) (h1 : i < 10) (p : Int → Prop) (a0 : p 0) (a1 : p 1) (a2 : p 2) (a3 : p 3) (a4 : p 4) (a5 : p 5) (a6 : p 6) (a7 : p 7) (a8 : p 8) (a9 : p 9) : p i := by
  have e : i = 0 ∨ i = 1 ∨ i = 2 ∨ i = 3 ∨ i = 4 ∨ i = 5 ∨ i = 6 ∨ i = 7 ∨ i = 8 ∨ i = 9 := by omega
  rcases e with rfl | rfl | rfl | rfl | rfl | rfl | rfl | rfl | rfl | rfl <;> assumption
structure SmD (d : PyData) : Prop where
  p1 : d.canLay0 = true
  p2 : d.showable = true
  p3 : d.intsShort 13 = true
  p4 : d.hasDict = false
  p5 : PyData.eqv d d = true
  p6 : d.weight + 1 ≤ 10 * nodes d
structure SmA (ds : List PyData) : Prop where
  p1 : PyData.canLayAll0 ds = true
  p2 : PyData.showableAll ds = true
  p3 : PyData.intsShortAll 13 ds = true
  p4 : PyData.hasDictAll ds = false
  p5 : PyData.eqvAll ds ds = true
  p6 : PyData.weightAll ds ≤ 10 * nodesAll ds
theorem sm_int {i : Int} (h0 : 0 ≤ i) (h1 : i < 10) : SmD (.int i) := by
  refine ten h0 h1 (fun i => SmD (.int i)) ?_ ?_ ?_ ?_ ?_ ?_ ?_ ?_ ?_ ?_
  all_goals exact ⟨by decide +kernel, by decide +kernel, by decide +kernel, by decide +kernel, by decide +kernel, by decide +kernel⟩
theorem sm_str {x : Str} (h : nameB x = true) : SmD (.str x) := by
  obtain ⟨h1, h2, _⟩ := name_is h
  refine ⟨?_, rfl, rfl, rfl, ?_, ?_⟩
  · simp only [PyData.canLay0]
    exact name_str h
  · simp only [PyData.eqv, beq_self_eq_true]
  · simp only [PyData.weight, nodes]
    have : x.cps.size = x.length := rfl
    omega
mutual
theorem sm_all : ∀ d : PyData, smB d = true → SmD d
  | .none, h => by simp [smB] at h
  | .bool _, h => by simp [smB] at h
  | .dict _, h => by simp [smB] at h
  | .int i, h => by
    simp only [smB, Bool.and_eq_true, decide_eq_true_eq] at h
    exact sm_int h.1 h.2
  | .str x, h => sm_str (by simpa [smB] using h)
  | .list xs, h => by
    obtain ⟨a1, a2, a3, a4, a5, a6⟩ := sma_all xs (by simpa [smB] using h)
    exact ⟨by simpa [PyData.canLay0] using a1, by simpa [PyData.showable] using a2, by simpa [PyData.intsShort] using a3, by simpa [PyData.hasDict] using a4, by simpa [PyData.eqv] using a5, by simp only [PyData.weight, nodes]; omega⟩
  | .tuple xs, h => by
    obtain ⟨a1, a2, a3, a4, a5, a6⟩ := sma_all xs (by simpa [smB] using h)
    exact ⟨by simpa [PyData.canLay0] using a1, by simpa [PyData.showable] using a2, by simpa [PyData.intsShort] using a3, by simpa [PyData.hasDict] using a4, by simpa [PyData.eqv] using a5, by simp only [PyData.weight, nodes]; omega⟩
theorem sma_all : ∀ ds : List PyData, smAll ds = true → SmA ds
  | [], _ => ⟨rfl, rfl, rfl, rfl, rfl, by simp [PyData.weightAll, nodesAll]⟩
  | d :: ds, h => by
    simp only [smAll, Bool.and_eq_true] at h
    obtain ⟨a1, a2, a3, a4, a5, a6⟩ := sm_all d h.1
    obtain ⟨b1, b2, b3, b4, b5, b6⟩ := sma_all ds h.2
    refine ⟨by simp [PyData.canLayAll0, a1, b1], by simp [PyData.showableAll, a2, b2], by simp [PyData.intsShortAll, a3, b3], by simp [PyData.hasDictAll, a4, b4], by simp [PyData.eqvAll, a5, b5], ?_⟩
    simp only [PyData.weightAll, nodesAll]
    omega
end
/-- small data of a shape that is told -/
structure Small (d : PyData) : Prop where
  b : smB d = true
  dep : d.depth ≤ 20
  few : nodes d ≤ 1000
theorem Small.shaped {d : PyData} (h : Small d) : SeqAt.shaped d = true := by
  have := h.dep
  unfold SeqAt.shaped
  rw [(sm_all d h.b).p1, decide_eq_true (by omega)]
  rfl
theorem Small.self {d : PyData} (h : Small d) : PyData.eqv d d = true := (sm_all d h.b).p5
theorem Small.len {d : PyData} (h : Small d) : d.shown.length ≤ sizeLine := by
  have s := sm_all d h.b
  have hw := s.p6
  have hf := h.few
  have hd := h.dep
  have e : (2 : Nat) ^ 20 = 1048576 := by decide
  have l : PyData.layable0 d = true := by
    unfold PyData.layable0
    rw [s.p1, decide_eq_true (by omega), decide_eq_true (by omega)]
    rfl
  exact Nat.le_trans (PyProof.Rows.shown_le13 l s.p3) (by decide)
/-- repr of such tuples -/
def rReprP (K : PySem.W.Frag) : List V → Hp → VK → Prop := fun xs H Q => ∃ (x : V) (ds : List PyData), xs = [x] ∧ Tp K H x (.tuple ds) ∧ Small (.tuple ds) ∧ Q (.str (PyData.tuple ds).shown) H
theorem call_reprP {X : Cx} (hg : X.A.guards = some []) (hu : X.A.units + 64 < cLine) : CallR X (.builtin "repr") (rReprP X.K) := by
  intro pins s σ H xs us Q I r h
  obtain ⟨x, ds, rfl, tx, sm, q⟩ := h
  obtain ⟨u, rfl, ru⟩ := vals1 r
  obtain ⟨as, hr⟩ := Dp.reads I _ x u tx.dp ru
  obtain ⟨a, ys, rfl, _, _⟩ := tp_tup tx
  obtain rfl := (show u = Value.ref _ from ru)
  have hd := sm.dep
  have s := sm_all _ sm.b
  exact repr_of_reads' hr s.p2 (fun z => by rw [s.p4] at z; cases z) hg (by omega) (fun _ _ e => e) (fun h' u tk k => ⟨.str _, H, I.kept k, ⟨_, rfl⟩, q⟩) sm.len
/-- unlike data never: the two are one -/
theorem ne_same {K : PySem.W.Frag} {H : Hp} {x y : V} {d : PyData} {Q : VK} (s : Small d) (hx : Dp K H x d) (hy : Dp K H y d) (q : Q (.bl false) H) : rNeD K x y H Q :=
  ⟨d, d, hx, hy, s.shaped, s.shaped, by rw [s.self]; exact q⟩
theorem eq_same {K : PySem.W.Frag} {H : Hp} {x y : V} {d : PyData} {Q : VK} (s : Small d) (hx : Dp K H x d) (hy : Dp K H y d) (q : Q (.bl true) H) : rEqD K x y H Q :=
  ⟨d, d, hx, hy, s.shaped, s.shaped, by rw [s.self]; exact q⟩
theorem DpAll.of_tp {K : PySem.W.Frag} {H : Hp} : ∀ {vs : List V} {ds : List PyData}, TpAll K H vs ds → DpAll K H vs ds := fun h => h.dp
end Hx
set_option maxRecDepth 100000
set_option maxHeartbeats 1000000
/-! What is true of the law's house. -/
namespace Hx
open PySem PySem.Spec PyProof.Rows L2
/-- the names, one by one -/
structure Nms.Apart (N : Nms) : Prop where
  ab : N.ann ≠ N.bob
  tl : N.tally ≠ N.last
  pr : N.put ≠ N.rest
  n1 : nameB N.ann = true ∧ N.ann ≠ "who"
  n2 : nameB N.bob = true ∧ N.bob ≠ "who"
  n3 : nameB N.tally = true ∧ N.tally ≠ "who"
  n4 : nameB N.last = true ∧ N.last ≠ "who"
  n5 : nameB N.kind = true ∧ N.kind ≠ "who"
  n6 : nameB N.put = true ∧ N.put ≠ "who"
  n7 : nameB N.rest = true ∧ N.rest ≠ "who"
theorem Nms.Ok.apart {N : Nms} (ok : N.Ok) : N.Apart := by
  have nd := ok.nd
  have nm := ok.nm
  simp only [Nms.list, List.nodup_cons, List.mem_cons, List.not_mem_nil, or_false, not_or] at nd
  simp only [Nms.list, List.forall_mem_cons] at nm
  obtain ⟨m1, m2, m3, m4, m5, m6, m7, _⟩ := nm
  exact ⟨nd.1.1, nd.2.2.1.1, nd.2.2.2.2.2.1, m1, m2, m3, m4, m5, m6, m7⟩
theorem name_word {x : Str} (h : nameB x = true) : wordB x = true := by
  obtain ⟨h1, _, hc⟩ := name_is h
  unfold wordB
  simp only [Bool.and_eq_true, decide_eq_true_eq, List.all_eq_true]
  refine ⟨h1, fun c hm => ?_⟩
  have := hc c hm
  omega
theorem by_put {N : Nms} (ap : N.Apart) : byOf [N.bob, N.ann] (some [N.ann]) = [N.ann] := by
  show [N.bob, N.ann].filter (fun x => decide (x ∈ [N.ann])) = _
  rw [List.filter_cons_of_neg (by simp [ap.ab.symm]), List.filter_cons_of_pos (by simp)]
  rfl
theorem house_ok {N : Nms} (ok : N.Ok) {a b : Int} (a0 : 0 ≤ a) (a1 : a < 4) (b0 : 0 ≤ b) (b1 : b < 4) : (N.house a b).Ok := by
  have ap := ok.apart
  have c1 : CellD.ok ⟨N.tally, 4, a⟩ := ⟨ap.n3.1, ok.i2, by show (2 : Int) ≤ 4; decide, by show (4 : Int) < 5; decide, a0, a1⟩
  have c2 : CellD.ok ⟨N.last, 3, 0⟩ := ⟨ap.n4.1, ok.i3, by show (2 : Int) ≤ 3; decide, by show (3 : Int) < 5; decide, by show (0 : Int) ≤ 0; decide, by show (0 : Int) < 3; decide⟩
  have ck : KindD.ok ⟨N.kind, [⟨"w", none⟩, ⟨"n", some 4⟩, ⟨"m", some 3⟩]⟩ := by
    refine ⟨ap.n5.1, by show 3 ≤ 3; decide, ?_, ?_⟩
    · show ([("w" : Str), "n", "m"] : List Str).Nodup
      decide +kernel
    · intro f hf
      simp only [List.mem_cons, List.not_mem_nil, or_false] at hf
      rcases hf with rfl | rfl | rfl
      · exact ⟨by decide +kernel, fun z e => by cases e⟩
      · exact ⟨by decide +kernel, fun z e => by cases e; decide⟩
      · exact ⟨by decide +kernel, fun z e => by cases e; decide⟩
  refine ⟨by show 1 ≤ 2; decide, by show 2 ≤ 3; decide, ?_, ?_, by show 1 ≤ 2; decide, ⟨by show 2 ≤ 3; decide, ?_, ?_⟩, by show 1 ≤ 3; decide, ?_, ?_, by show 1 ≤ 2; decide, by show 2 ≤ 4; decide, ?_, ?_, by show (1 : Int) ≤ 2; decide, by show (2 : Int) < 4; decide⟩
  · show [N.bob, N.ann].Nodup
    simp [ap.ab.symm]
  · intro x hx
    have hx : x = N.bob ∨ x = N.ann := by simpa [Nms.house] using hx
    rcases hx with rfl | rfl
    · exact ap.n2
    · exact ap.n1
  · intro c hc
    have hc : c = ⟨N.tally, 4, a⟩ ∨ c = ⟨N.last, 3, 0⟩ := by simpa [Nms.house, Nms.cells] using hc
    rcases hc with rfl | rfl
    · exact c1
    · exact c2
  · show [N.tally, N.last].Nodup
    simp [ap.tl]
  · intro k hk
    have hk : k = ⟨N.kind, [⟨"w", none⟩, ⟨"n", some 4⟩, ⟨"m", some 3⟩]⟩ := by simpa [Nms.house, Nms.kinds] using hk
    rw [hk]
    exact ck
  · show [N.kind].Nodup
    simp
  · intro d hd
    have hd : d = N.dPut b ∨ d = N.dRest := by simpa [Nms.house] using hd
    rcases hd with rfl | rfl
    · refine ⟨ap.n6.1, ⟨by show 1 ≤ 1; decide, by show 1 ≤ 3; decide, by simp, fun x hx => ?_⟩, by show 0 ≤ 2; decide, (fun t z => nomatch z), by show (1 : Int) ≤ 3; decide, by show (3 : Int) < 5; decide, by show 3 ≤ 3; decide, fun t ht => ?_, by show 1 ≤ 2; decide, fun t ht => ?_⟩
      · have : x = N.ann := by simpa using hx
        rw [this]
        simp [Nms.house]
      · have ht : t = ⟨false, 1, .it⟩ ∨ t = ⟨true, 0, .cell 1⟩ ∨ t = ⟨true, 0, .num b⟩ := by simpa [Nms.dPut] using ht
        rcases ht with rfl | rfl | rfl
        · exact ⟨_, rfl, by show (3 : Int) ≤ 3; decide⟩
        · exact ⟨_, rfl, _, rfl, by show (3 : Int) ≤ 4; decide⟩
        · exact ⟨_, rfl, b0, b1, by show (4 : Int) < 10; decide⟩
      · have ht : t = ⟨0, [.who, .cell 0, .cell 1]⟩ := by simpa [Nms.dPut] using ht
        rw [ht]
        refine ⟨_, rfl, rfl, by show 3 ≤ 3; decide, fun i f s ef es => ?_⟩
        match i, ef, es with
        | 0, ef, es => cases ef; cases es; trivial
        | 1, ef, es => cases ef; cases es; exact ⟨_, rfl, by show (4 : Int) ≤ 4; decide⟩
        | 2, ef, es => cases ef; cases es; exact ⟨_, rfl, by show (3 : Int) ≤ 3; decide⟩
        | n + 3, ef, es => cases es
    · refine ⟨ap.n7.1, trivial, by show 1 ≤ 2; decide, fun t ht => ?_, by show (1 : Int) ≤ 1; decide, by show (1 : Int) < 5; decide, by show 1 ≤ 3; decide, fun t ht => ?_, by show 1 ≤ 2; decide, fun t ht => ?_⟩
      · have ht : t = ⟨1, false, 0⟩ := by simpa [Nms.dRest] using ht
        rw [ht]
        exact ⟨_, rfl, by show (0 : Int) ≤ 0; decide, by show (0 : Int) < 3; decide⟩
      · have ht : t = ⟨false, 1, .num 0⟩ := by simpa [Nms.dRest] using ht
        rw [ht]
        exact ⟨_, rfl, by show (0 : Int) ≤ 0; decide, by show (0 : Int) < 3; decide, by show (3 : Int) < 10; decide⟩
      · have ht : t = ⟨0, [.person N.ann, .num 3, .it]⟩ := by simpa [Nms.dRest] using ht
        rw [ht]
        refine ⟨_, rfl, rfl, by show 3 ≤ 3; decide, fun i f s ef es => ?_⟩
        match i, ef, es with
        | 0, ef, es => cases ef; cases es; exact ⟨by simp [Nms.house], ap.n1.2⟩
        | 1, ef, es => cases ef; cases es; exact ⟨by show (0 : Int) ≤ 3; decide, by show (3 : Int) < 4; decide, by show (4 : Int) < 10; decide⟩
        | 2, ef, es => cases ef; cases es; show (1 : Int) ≤ 3; decide
        | n + 3, ef, es => cases es
  · show [N.put, N.rest].Nodup
    simp [ap.pr]
theorem word_num {v : Int} (h0 : 0 ≤ v) (h : v < 10) : wordB (numS v) = true := (num_ok h0 h).2.2
theorem page_ok {N : Nms} (ok : N.Ok) {a b : Int} (a0 : 0 ≤ a) (a1 : a < 4) (b0 : 0 ≤ b) (b1 : b < 4) : PageOk (N.house a b).page := by
  have ap := ok.apart
  refine ⟨by show 19 ≤ 900; decide, fun r hr => ?_⟩
  have len : r.text.length ≤ 900 := by
    have m : r.text ∈ N.lines a b := by
      rw [← page_lines]
      exact List.mem_map.mpr ⟨r, hr, rfl⟩
    have := ok.lines a0 a1 b0 b1 _ m
    omega
  have wa := word_num a0 (by omega : a < 10)
  have wb := word_num b0 (by omega : b < 10)
  have w1 := name_word ap.n1.1
  have w2 := name_word ap.n2.1
  have w3 := name_word ap.n3.1
  have w4 := name_word ap.n4.1
  have w5 := name_word ap.n5.1
  have w6 := name_word ap.n6.1
  have w7 := name_word ap.n7.1
  have words : r.ws ≠ [] ∧ r.ws.all wordB = true := by
    have e : (N.house a b).page = [⟨false, ["people", N.bob, N.ann]⟩, ⟨false, ["cell", N.tally, "4", numS a]⟩, ⟨false, ["cell", N.last, "3", "0"]⟩, ⟨false, ["kind", N.kind]⟩, ⟨true, ["who", "w"]⟩, ⟨true, ["worth", "n", "4"]⟩, ⟨true, ["worth", "m", "3"]⟩,
        ⟨false, ["deed", N.put]⟩, ⟨true, ["by", N.ann]⟩, ⟨true, ["pick", "3"]⟩, ⟨true, ["set", N.last, "it"]⟩, ⟨true, ["add", N.tally, N.last]⟩, ⟨true, ["add", N.tally, numS b]⟩, ⟨true, ["row", N.kind, "who", N.tally, N.last]⟩,
        ⟨false, ["deed", N.rest]⟩, ⟨true, ["if", N.last, "!=", "0"]⟩, ⟨true, ["set", N.last, "0"]⟩, ⟨true, ["row", N.kind, N.ann, "3", "it"]⟩, ⟨false, ["day", "2"]⟩] := by
      rw [← num0, ← num2, ← num3, ← num4]
      rfl
    rw [e] at hr
    have k1 : wordB "people" = true := by decide +kernel
    have k2 : wordB "cell" = true := by decide +kernel
    have k3 : wordB "kind" = true := by decide +kernel
    have k4 : wordB "who" = true := by decide +kernel
    have k5 : wordB "w" = true := by decide +kernel
    have k6 : wordB "worth" = true := by decide +kernel
    have k7 : wordB "n" = true := by decide +kernel
    have k8 : wordB "m" = true := by decide +kernel
    have k9 : wordB "4" = true := by decide +kernel
    have k10 : wordB "3" = true := by decide +kernel
    have k11 : wordB "0" = true := by decide +kernel
    have k12 : wordB "2" = true := by decide +kernel
    have k13 : wordB "deed" = true := by decide +kernel
    have k14 : wordB "by" = true := by decide +kernel
    have k15 : wordB "pick" = true := by decide +kernel
    have k16 : wordB "set" = true := by decide +kernel
    have k17 : wordB "add" = true := by decide +kernel
    have k18 : wordB "row" = true := by decide +kernel
    have k19 : wordB "if" = true := by decide +kernel
    have k20 : wordB "!=" = true := by decide +kernel
    have k21 : wordB "it" = true := by decide +kernel
    have k22 : wordB "day" = true := by decide +kernel
    simp only [List.mem_cons, List.not_mem_nil, or_false] at hr
    rcases hr with rfl | rfl | rfl | rfl | rfl | rfl | rfl | rfl | rfl | rfl | rfl | rfl | rfl | rfl | rfl | rfl | rfl | rfl | rfl <;>
      exact ⟨List.cons_ne_nil _ _, by simp only [List.all_cons, List.all_nil, wa, wb, w1, w2, w3, w4, w5, w6, w7, k1, k2, k3, k4, k5, k6, k7, k8, k9, k10, k11, k12, k13, k14, k15, k16, k17, k18, k19, k20, k21, k22, Bool.and_true]⟩
  unfold rwB
  rw [words.2, decide_eq_true words.1, decide_eq_true len]
  rfl
theorem text_short {N : Nms} (ok : N.Ok) {a b : Int} (a0 : 0 ≤ a) (a1 : a < 4) (b0 : 0 ≤ b) (b1 : b < 4) : (Str.join "\n" ((N.house a b).page.map Rw.text)).length ≤ 10000 := by
  rw [page_lines]
  have h1 := join_len "\n" (N.lines a b)
  have h2 := sum_le (N.lines a b) (ok.lines a0 a1 b0 b1)
  rw [ll24] at h1
  have h3 : (N.lines a b).length = 19 := rfl
  omega
end Hx
set_option maxRecDepth 100000
set_option maxHeartbeats 1000000
/-! The run of the law, the moves that are possible. -/
namespace Hx
open PySem PySem.Spec PyProof.Rows L2
/-- what the law draws -/
structure Dr where
  N : Nms
  a : Int
  b : Int
  c : Int
  d : Int
structure Dr.Ok (R : Dr) : Prop where
  n : R.N.Ok
  a0 : 0 ≤ R.a
  a1 : R.a < 4
  b0 : 0 ≤ R.b
  b1 : R.b < 4
  c0 : 0 ≤ R.c
  c1 : R.c < 3
  d0 : 1 ≤ R.d
  d1 : R.d < 3
def Dr.h (R : Dr) : HouseD := R.N.house R.a R.b
def Dr.here (R : Dr) : Int := (R.a + R.c + R.b) % 4
def Dr.there (R : Dr) : Int := (R.here + R.d + R.b) % 4
def Dr.ms (R : Dr) : List MoveD := [.act R.N.put R.N.ann R.c, .night, .act R.N.put R.N.ann R.d, .act R.N.rest R.N.bob 0, .night, .night]
def Dr.st (R : Dr) : Nat → List Int × Int
  | 0 => ([R.a, 0], 0)
  | 1 => ([R.here, R.c], 1)
  | 2 => ([R.here, R.c], 0)
  | 3 => ([R.there, R.d], 1)
  | 4 => ([R.there, 0], 2)
  | _ => ([R.there, 0], 0)
def Dr.row (R : Dr) (i j : Int) : PyData := .tuple [.tuple [.str R.N.kind, .tuple [.str R.N.ann, .int i, .int j]]]
def Dr.bk (R : Dr) : List PyData := [R.row R.here R.c, .tuple [], R.row R.there R.d, R.row 3 0, .tuple [], .tuple []]
theorem there_is {x y z : Int} (hx : 0 ≤ x) (hy : 0 ≤ y) (hz : 0 ≤ z) : ((x + y).fmod 4 + z).fmod 4 = (x + y + z) % 4 := by
  rw [Int.fmod_eq_emod_of_nonneg _ (by decide), Int.fmod_eq_emod_of_nonneg _ (by decide)]
  omega
theorem Dr.Ok.ok {R : Dr} (ok : R.Ok) : R.h.Ok := house_ok ok.n ok.a0 ok.a1 ok.b0 ok.b1
theorem Dr.Ok.here {R : Dr} (ok : R.Ok) : 0 ≤ R.here ∧ R.here < 4 := by
  unfold Dr.here
  omega
theorem Dr.Ok.there {R : Dr} (ok : R.Ok) : 0 ≤ R.there ∧ R.there < 4 := by
  unfold Dr.there
  omega
theorem put_worths {R : Dr} (ok : R.Ok) (x y z : Int) (hx : 0 ≤ x) (hz : 0 ≤ z) : chAll R.h.cs z [x, y] (R.N.dPut R.b).chs = [(x + z + R.b) % 4, z] := by
  have e : chAll R.h.cs z [x, y] (R.N.dPut R.b).chs = [((x + z).fmod 4 + R.b).fmod 4, z] := rfl
  rw [e, there_is hx hz ok.b0]
theorem rest_worths {R : Dr} (x y : Int) : chAll R.h.cs 0 [x, y] R.N.dRest.chs = [x, 0] := rfl
theorem put_fit {R : Dr} (x y : Int) : DeedFit [x, y] (R.N.dPut R.b) := by
  refine ⟨(fun t z => nomatch z), by show 0 ≤ 2; decide, fun c hc => ?_, fun r hr => ?_, by show 1 ≤ 900; decide⟩
  · have hc : c = ⟨false, 1, .it⟩ ∨ c = ⟨true, 0, .cell 1⟩ ∨ c = ⟨true, 0, .num R.b⟩ := by simpa [Nms.dPut] using hc
    rcases hc with rfl | rfl | rfl
    · exact ⟨by show 1 < 2; decide, trivial⟩
    · exact ⟨by show 0 < 2; decide, by show 1 < 2; decide⟩
    · exact ⟨by show 0 < 2; decide, trivial⟩
  · have hr : r = ⟨0, [.who, .cell 0, .cell 1]⟩ := by simpa [Nms.dPut] using hr
    rw [hr]
    refine ⟨fun s hs => ?_, by show 3 ≤ 900; decide⟩
    have hs : s = .who ∨ s = .cell 0 ∨ s = .cell 1 := by simpa using hs
    rcases hs with rfl | rfl | rfl
    · trivial
    · show 0 < 2
      decide
    · show 1 < 2
      decide
theorem rest_fit {R : Dr} (x y : Int) : DeedFit [x, y] R.N.dRest := by
  refine ⟨fun t ht => ?_, by show 1 ≤ 2; decide, fun c hc => ?_, fun r hr => ?_, by show 1 ≤ 900; decide⟩
  · have ht : t = ⟨1, false, 0⟩ := by simpa [Nms.dRest] using ht
    rw [ht]
    show 1 < 2
    decide
  · have hc : c = ⟨false, 1, .num 0⟩ := by simpa [Nms.dRest] using hc
    rw [hc]
    exact ⟨by show 1 < 2; decide, trivial⟩
  · have hr : r = ⟨0, [.person R.N.ann, .num 3, .it]⟩ := by simpa [Nms.dRest] using hr
    rw [hr]
    refine ⟨fun s hs => ?_, by show 3 ≤ 900; decide⟩
    have hs : s = .person R.N.ann ∨ s = .num 3 ∨ s = .it := by simpa using hs
    rcases hs with rfl | rfl | rfl <;> trivial
theorem put_move {R : Dr} (ok : R.Ok) {z : Int} (hz : 0 ≤ z) (hz' : z < 3) : IsMv R.h (.act R.N.put R.N.ann z) := by
  have ap := ok.n.apart
  refine IsMv.act (j := 0) (d := R.N.dPut R.b) rfl (name_str ap.n6.1) (name_str ap.n1.1) ?_ hz hz'
  have e : byOf R.h.people (R.N.dPut R.b).by_ = [R.N.ann] := by_put ap
  rw [e]
  exact List.mem_singleton.mpr rfl
theorem rest_move {R : Dr} (ok : R.Ok) : IsMv R.h (.act R.N.rest R.N.bob 0) := by
  have ap := ok.n.apart
  exact IsMv.act (j := 1) (d := R.N.dRest) rfl (name_str ap.n7.1) (name_str ap.n2.1) (List.mem_cons_self ..) (by decide) (by show (0 : Int) < 1; decide)
theorem may_put {R : Dr} (ok : R.Ok) {x y z n : Int} (hn : n < 2) : MayB R.h [x, y] n (.act R.N.put R.N.ann z) true := by
  have ap := ok.n.apart
  have h := MayB.act (h := R.h) (ws := [x, y]) (n := n) (j := 0) (d := R.N.dPut R.b) (who := R.N.ann) (it := z) rfl (name_str ap.n6.1) (name_str ap.n1.1) (fun t z => nomatch z) (by show 0 ≤ 2; decide)
  have e : (decide (n < R.h.day) && holdsB (R.N.dPut R.b).ts [x, y]) = true := by
    show (decide (n < 2) && true) = true
    rw [decide_eq_true hn]
    rfl
  rw [e] at h
  exact h
theorem may_rest {R : Dr} (ok : R.Ok) {x y n : Int} (hn : n < 2) (hy : y ≠ 0) : MayB R.h [x, y] n (.act R.N.rest R.N.bob 0) true := by
  have ap := ok.n.apart
  have h := MayB.act (h := R.h) (ws := [x, y]) (n := n) (j := 1) (d := R.N.dRest) (who := R.N.bob) (it := 0) rfl (name_str ap.n7.1) (name_str ap.n2.1) (rest_fit (R := R) x y).1 (by show 1 ≤ 2; decide)
  have e : (decide (n < R.h.day) && holdsB R.N.dRest.ts [x, y]) = true := by
    show (decide (n < 2) && (([decide (y = 0) == false] : List Bool).all id)) = true
    rw [decide_eq_true hn, decide_eq_false hy]
    rfl
  rw [e] at h
  exact h
theorem be_put {R : Dr} (ok : R.Ok) {x y z n u : Int} (hx : 0 ≤ x) (hz : 0 ≤ z) (hu : (x + z + R.b) % 4 = u) : Behind R.h [x, y] n (.act R.N.put R.N.ann z) (standD [u, z] (n + 1)) (R.row u z) := by
  have ap := ok.n.apart
  have h := Behind.act (h := R.h) (ws := [x, y]) (n := n) (j := 0) (d := R.N.dPut R.b) (who := R.N.ann) (it := z) rfl (name_str ap.n6.1) (name_str ap.n1.1) (put_fit x y)
  rw [put_worths ok x y z hx hz, hu] at h
  exact h
theorem be_rest {R : Dr} (ok : R.Ok) {x y n : Int} : Behind R.h [x, y] n (.act R.N.rest R.N.bob 0) (standD [x, 0] (n + 1)) (R.row 3 0) := by
  have ap := ok.n.apart
  exact Behind.act (h := R.h) (ws := [x, y]) (n := n) (j := 1) (d := R.N.dRest) (who := R.N.bob) (it := 0) rfl (name_str ap.n7.1) (name_str ap.n2.1) (rest_fit x y)
theorem course {R : Dr} (ok : R.Ok) {k : Nat} (hk : k ≤ 6) : Course R.h (R.ms.take k) R.st (R.bk.take k) := by
  have e1 : (R.ms.take k).length = k := by rw [List.length_take]; exact Nat.min_eq_left hk
  have e2 : (R.bk.take k).length = k := by rw [List.length_take]; exact Nat.min_eq_left hk
  obtain ⟨h0, _⟩ := ok.here
  refine ⟨rfl, fun i hi => ?_, by omega, by rw [e1, e2], fun i m b em eb => ?_⟩
  · rw [e1] at hi
    match i with
    | 0 => rfl
    | 1 => rfl
    | 2 => rfl
    | 3 => rfl
    | 4 => rfl
    | 5 => rfl
    | 6 => rfl
    | n + 7 => omega
  · have il : i < 6 := by
      have := (List.getElem?_eq_some_iff.mp em).1
      omega
    have em : R.ms[i]? = some m := by
      rw [List.getElem?_take] at em
      split at em
      · exact em
      · cases em
    have eb : R.bk[i]? = some b := by
      rw [List.getElem?_take] at eb
      split at eb
      · exact eb
      · cases eb
    have c0 := ok.c0
    have d0 := ok.d0
    match i, il, em, eb with
    | 0, _, em, eb => cases em; cases eb; exact ⟨put_move ok c0 ok.c1, may_put ok (by show (0 : Int) < 2; decide), be_put ok ok.a0 c0 rfl⟩
    | 1, _, em, eb => cases em; cases eb; exact ⟨.night, .night, .night⟩
    | 2, _, em, eb => cases em; cases eb; exact ⟨put_move ok (by omega) ok.d1, may_put ok (by show (0 : Int) < 2; decide), be_put ok h0 (by omega) rfl⟩
    | 3, _, em, eb => cases em; cases eb; exact ⟨rest_move ok, may_rest ok (by show (1 : Int) < 2; decide) (by omega), be_rest ok⟩
    | 4, _, em, eb => cases em; cases eb; exact ⟨.night, .night, .night⟩
    | 5, _, em, eb => cases em; cases eb; exact ⟨.night, .night, .night⟩
/-! ### the moves -/
def Dr.puts (R : Dr) : List (List V) := [[V.str "do", .str R.N.put, .str R.N.ann, .int 0], [V.str "do", .str R.N.put, .str R.N.ann, .int 1], [V.str "do", .str R.N.put, .str R.N.ann, .int 2]]
def Dr.rests (R : Dr) : List (List V) := [[V.str "do", .str R.N.rest, .str R.N.bob, .int 0], [V.str "do", .str R.N.rest, .str R.N.ann, .int 0]]
theorem all_moves {R : Dr} (ok : R.Ok) : doL R.h.people R.h.ds = R.puts ++ R.rests := by
  have e : byOf R.h.people (R.N.dPut R.b).by_ = [R.N.ann] := by_put ok.n.apart
  show doOf R.h.people (R.N.dPut R.b) ++ (doOf R.h.people R.N.dRest ++ []) = _
  unfold doOf
  rw [e]
  rfl
theorem ready0 {R : Dr} (x : Int) : readyOf R.h.ds [x, 0] = [R.N.put] := by
  show ((([R.N.dPut R.b, R.N.dRest] : List DeedD).filter fun d => holdsB d.ts [x, 0]).map (·.x)) = _
  rw [List.filter_cons_of_pos (by rfl), List.filter_cons_of_neg (by show ¬ (([decide ((0 : Int) = 0) == false] : List Bool).all id) = true; decide)]
  rfl
theorem ready1 {R : Dr} {x y : Int} (hy : y ≠ 0) : readyOf R.h.ds [x, y] = [R.N.put, R.N.rest] := by
  show ((([R.N.dPut R.b, R.N.dRest] : List DeedD).filter fun d => holdsB d.ts [x, y]).map (·.x)) = _
  have e : holdsB R.N.dRest.ts [x, y] = true := by
    show (([decide (y = 0) == false] : List Bool).all id) = true
    rw [decide_eq_false hy]
    rfl
  rw [List.filter_cons_of_pos (by rfl), List.filter_cons_of_pos (p := fun d : DeedD => holdsB d.ts [x, y]) e]
  rfl
theorem moves0 {R : Dr} (ok : R.Ok) (x : Int) : (doL R.h.people R.h.ds).filter (inReady (readyOf R.h.ds [x, 0])) = R.puts := by
  have ap := ok.n.apart
  rw [all_moves ok, ready0]
  have p : ∀ r ∈ R.puts, inReady [R.N.put] r = true := fun r hr => by
    have hr : r = [V.str "do", .str R.N.put, .str R.N.ann, .int 0] ∨ r = [V.str "do", .str R.N.put, .str R.N.ann, .int 1] ∨ r = [V.str "do", .str R.N.put, .str R.N.ann, .int 2] := by simpa [Dr.puts] using hr
    rcases hr with rfl | rfl | rfl <;> exact decide_eq_true (List.mem_singleton.mpr rfl)
  have q : ∀ r ∈ R.rests, ¬ inReady [R.N.put] r = true := fun r hr => by
    have hr : r = [V.str "do", .str R.N.rest, .str R.N.bob, .int 0] ∨ r = [V.str "do", .str R.N.rest, .str R.N.ann, .int 0] := by simpa [Dr.rests] using hr
    rcases hr with rfl | rfl <;> (intro z; exact ap.pr (List.mem_singleton.mp (of_decide_eq_true (p := R.N.rest ∈ [R.N.put]) z)).symm)
  rw [List.filter_append, List.filter_eq_self.mpr p, List.filter_eq_nil_iff.mpr q, List.append_nil]
theorem moves1 {R : Dr} (ok : R.Ok) {x y : Int} (hy : y ≠ 0) : (doL R.h.people R.h.ds).filter (inReady (readyOf R.h.ds [x, y])) = R.puts ++ R.rests := by
  rw [all_moves ok, ready1 hy]
  refine List.filter_eq_self.mpr fun r hr => ?_
  have hr : (r = [V.str "do", .str R.N.put, .str R.N.ann, .int 0] ∨ r = [V.str "do", .str R.N.put, .str R.N.ann, .int 1] ∨ r = [V.str "do", .str R.N.put, .str R.N.ann, .int 2]) ∨ (r = [V.str "do", .str R.N.rest, .str R.N.bob, .int 0] ∨ r = [V.str "do", .str R.N.rest, .str R.N.ann, .int 0]) := by
    simpa [Dr.puts, Dr.rests, or_assoc] using hr
  rcases hr with (rfl | rfl | rfl) | (rfl | rfl)
  · exact decide_eq_true (List.mem_cons_self ..)
  · exact decide_eq_true (List.mem_cons_self ..)
  · exact decide_eq_true (List.mem_cons_self ..)
  · exact decide_eq_true (List.mem_cons_of_mem _ (List.mem_cons_self ..))
  · exact decide_eq_true (List.mem_cons_of_mem _ (List.mem_cons_self ..))
/-! ### rows in one order -/
theorem itLt_no {x y : V} (h1 : itLt x y = false) (h2 : itLt y x = false) (hx : (∃ i j, x = .int i ∧ y = .int j) ∨ ∃ s t, x = .str s ∧ y = .str t) : x = y := by
  rcases hx with ⟨i, j, rfl, rfl⟩ | ⟨s, t, rfl, rfl⟩
  · have a := of_decide_eq_false (p := i < j) h1
    have b := of_decide_eq_false (p := j < i) h2
    rw [show i = j by omega]
  · have a := of_decide_eq_false (p := s.cps.toList < t.cps.toList) h1
    have b := of_decide_eq_false (p := t.cps.toList < s.cps.toList) h2
    rw [str_toList (nat_tri _ _ a b)]
theorem rowLt_no {shape : Nat → Bool} : ∀ {k : Nat} {xs ys : List V}, fitsAt shape k xs = true → fitsAt shape k ys = true → rowLt xs ys = false → rowLt ys xs = false → xs = ys
  | _, [], [], _, _, _, _ => rfl
  | _, [], _ :: _, _, _, h, _ => by cases h
  | _, _ :: _, [], _, _, _, h => by cases h
  | k, x :: xs, y :: ys, fx, fy, h1, h2 => by
    obtain ⟨fx', cx⟩ := fits_case fx
    obtain ⟨fy', cy⟩ := fits_case fy
    have h1 : (itLt x y || (decide (x = y) && rowLt xs ys)) = false := h1
    have h2 : (itLt y x || (decide (y = x) && rowLt ys xs)) = false := h2
    simp only [Bool.or_eq_false_iff] at h1 h2
    have e : x = y := itLt_no h1.1 h2.1 (by
      rcases cx with ⟨i, rfl, s1⟩ | ⟨t, rfl, s1⟩ <;> rcases cy with ⟨j, rfl, s2⟩ | ⟨u, rfl, s2⟩
      · exact .inl ⟨i, j, rfl, rfl⟩
      · rw [s1] at s2; cases s2
      · rw [s1] at s2; cases s2
      · exact .inr ⟨t, u, rfl, rfl⟩)
    subst e
    have h3 := h1.2
    have h4 := h2.2
    rw [decide_eq_true rfl, Bool.true_and] at h3 h4
    rw [rowLt_no fx' fy' h3 h4]
theorem rows_one {shape : Nat → Bool} {l m : List (List V)} (hl : ∀ r ∈ l, fitsAt shape 0 r = true) (sl : l.Pairwise fun x y => rowLt y x = false) (sm : m.Pairwise fun x y => rowLt y x = false) (p : l.Perm m) : l = m :=
  List.Perm.eq_of_pairwise (fun a b ha hb h1 h2 => rowLt_no (hl a ha) (hl b (p.mem_iff.mpr hb)) h2 h1) sl sm p
def shp : Nat → Bool := fun k => decide (k < 3)
theorem do_fit (x y : Str) (i : Int) : fitsAt shp 0 [V.str "do", .str x, .str y, .int i] = true := rfl
theorem night_fit : fitsAt shp 0 [V.str "night"] = true := rfl
theorem do_night : itLt (V.str "do") (V.str "night") = true := by decide +kernel
theorem night_do : itLt (V.str "night") (V.str "do") = false := by decide +kernel
theorem put_sorted (R : Dr) : R.puts.Pairwise fun x y => rowLt y x = false := by
  have same : ∀ t : Str, itLt (V.str t) (V.str t) = false := fun t => decide_eq_false (List.lt_irrefl _)
  have le : ∀ i j : Int, i < j → rowLt [V.str "do", .str R.N.put, .str R.N.ann, .int j] [V.str "do", .str R.N.put, .str R.N.ann, .int i] = false := fun i j h => by
    show (itLt (V.str "do") (V.str "do") || (decide (V.str "do" = V.str "do") && (itLt (.str R.N.put) (.str R.N.put) || (decide (V.str R.N.put = .str R.N.put) && (itLt (.str R.N.ann) (.str R.N.ann) || (decide (V.str R.N.ann = .str R.N.ann) && (decide (j < i) || (decide (V.int j = .int i) && false)))))))) = false
    rw [same, same, same, decide_eq_false (by omega : ¬ j < i)]
    simp
  unfold Dr.puts
  refine List.pairwise_cons.mpr ⟨fun y hy => ?_, List.pairwise_cons.mpr ⟨fun y hy => ?_, List.pairwise_cons.mpr ⟨fun y hy => ?_, .nil⟩⟩⟩
  · have hy : y = [V.str "do", .str R.N.put, .str R.N.ann, .int 1] ∨ y = [V.str "do", .str R.N.put, .str R.N.ann, .int 2] := by simpa using hy
    rcases hy with rfl | rfl
    · exact le 0 1 (by decide)
    · exact le 0 2 (by decide)
  · have hy : y = [V.str "do", .str R.N.put, .str R.N.ann, .int 2] := by simpa using hy
    rw [hy]
    exact le 1 2 (by decide)
  · cases hy
/-- a deed's row -/
def IsDo (r : List V) : Prop := ∃ (x y : Str) (i : Int), r = [V.str "do", .str x, .str y, .int i] ∧ nameB x = true ∧ nameB y = true ∧ 0 ≤ i ∧ i < 10
theorem IsDo.fit {r : List V} (h : IsDo r) : fitsAt shp 0 r = true := by
  obtain ⟨x, y, i, rfl, _⟩ := h
  rfl
theorem IsDo.before {r : List V} (h : IsDo r) : rowLt [V.str "night"] r = false := by
  obtain ⟨x, y, i, rfl, _⟩ := h
  show (itLt (V.str "night") (V.str "do") || (decide (V.str "night" = V.str "do") && true)) = false
  rw [night_do, decide_eq_false (by decide +kernel)]
  rfl
theorem puts_do {R : Dr} (ok : R.Ok) : ∀ r ∈ R.puts, IsDo r := fun r hr => by
  have ap := ok.n.apart
  have hr : r = [V.str "do", .str R.N.put, .str R.N.ann, .int 0] ∨ r = [V.str "do", .str R.N.put, .str R.N.ann, .int 1] ∨ r = [V.str "do", .str R.N.put, .str R.N.ann, .int 2] := by simpa [Dr.puts] using hr
  rcases hr with rfl | rfl | rfl
  · exact ⟨_, _, 0, rfl, ap.n6.1, ap.n1.1, by decide, by decide⟩
  · exact ⟨_, _, 1, rfl, ap.n6.1, ap.n1.1, by decide, by decide⟩
  · exact ⟨_, _, 2, rfl, ap.n6.1, ap.n1.1, by decide, by decide⟩
theorem rests_do {R : Dr} (ok : R.Ok) : ∀ r ∈ R.rests, IsDo r := fun r hr => by
  have ap := ok.n.apart
  have hr : r = [V.str "do", .str R.N.rest, .str R.N.bob, .int 0] ∨ r = [V.str "do", .str R.N.rest, .str R.N.ann, .int 0] := by simpa [Dr.rests] using hr
  rcases hr with rfl | rfl
  · exact ⟨_, _, 0, rfl, ap.n7.1, ap.n2.1, by decide, by decide⟩
  · exact ⟨_, _, 0, rfl, ap.n7.1, ap.n1.1, by decide, by decide⟩
theorem with_night {rs : List (List V)} (h : ∀ r ∈ rs, IsDo r) (s : rs.Pairwise fun x y => rowLt y x = false) : (rs ++ [[V.str "night"]]).Pairwise fun x y => rowLt y x = false := by
  refine List.pairwise_append.mpr ⟨s, List.pairwise_singleton _ _, fun r hr y hy => ?_⟩
  have hy : y = [V.str "night"] := by simpa using hy
  rw [hy]
  exact (h r hr).before
/-! ### such rows are small -/
theorem sm_forall : ∀ {ds : List PyData}, (∀ d ∈ ds, smB d = true) → smAll ds = true
  | [], _ => rfl
  | d :: ds, h => by
    simp only [smAll, Bool.and_eq_true]
    exact ⟨h d (List.mem_cons_self ..), sm_forall fun e he => h e (List.mem_cons_of_mem _ he)⟩
theorem dep_forall {n : Nat} : ∀ {ds : List PyData}, (∀ d ∈ ds, d.depth ≤ n) → PyData.depthAll ds ≤ n
  | [], _ => Nat.zero_le _
  | d :: ds, h => by
    simp only [PyData.depthAll]
    exact Nat.max_le.mpr ⟨h d (List.mem_cons_self ..), dep_forall fun e he => h e (List.mem_cons_of_mem _ he)⟩
theorem nodes_forall {n : Nat} : ∀ {ds : List PyData}, (∀ d ∈ ds, nodes d ≤ n) → nodesAll ds ≤ n * ds.length
  | [], _ => Nat.zero_le _
  | d :: ds, h => by
    simp only [nodesAll, List.length_cons, Nat.mul_succ]
    have a := h d (List.mem_cons_self ..)
    have b := nodes_forall (n := n) (ds := ds) fun e he => h e (List.mem_cons_of_mem _ he)
    omega
theorem do_small {r : List V} (h : IsDo r) : smB (rowD r) = true ∧ (rowD r).depth ≤ 1 ∧ nodes (rowD r) ≤ 10 := by
  obtain ⟨x, y, i, rfl, hx, hy, h0, h1⟩ := h
  have e : rowD [V.str "do", .str x, .str y, .int i] = .tuple [.str "do", .str x, .str y, .int i] := rfl
  rw [e]
  have n : nameB "do" = true := by decide +kernel
  refine ⟨?_, ?_, ?_⟩
  · simp only [smB, smAll, n, hx, hy, decide_eq_true h0, decide_eq_true h1, Bool.and_true]
  · simp [PyData.depth, PyData.depthAll]
  · simp [nodes, nodesAll]
theorem night_small : smB (rowD [V.str "night"]) = true ∧ (rowD [V.str "night"]).depth ≤ 1 ∧ nodes (rowD [V.str "night"]) ≤ 10 := by
  refine ⟨by decide +kernel, by decide +kernel, by decide +kernel⟩
theorem rows_small {rs : List (List V)} (h : ∀ r ∈ rs, IsDo r) (few : rs.length ≤ 20) : Small (.tuple (rs.map rowD ++ [rowD [V.str "night"]])) := by
  have all : ∀ d ∈ rs.map rowD ++ [rowD [V.str "night"]], smB d = true ∧ d.depth ≤ 1 ∧ nodes d ≤ 10 := fun d hd => by
    rcases List.mem_append.mp hd with hd | hd
    · obtain ⟨r, hr, rfl⟩ := List.mem_map.mp hd
      exact do_small (h r hr)
    · rw [List.mem_singleton.mp hd]
      exact night_small
  refine ⟨?_, ?_, ?_⟩
  · simp only [smB]
    exact sm_forall fun d hd => (all d hd).1
  · have := dep_forall fun d hd => (all d hd).2.1
    simp only [PyData.depth]
    omega
  · have := nodes_forall fun d hd => (all d hd).2.2
    simp only [nodes]
    rw [List.length_append, List.length_map] at this
    simp only [List.length_singleton] at this
    omega
end Hx
set_option maxRecDepth 100000
set_option maxHeartbeats 1000000
/-! The law's own look. -/
namespace Hx
open PySem PySem.Spec PyProof.Rows L2
theorem sl_tupK {X : Cx} (K : PySem.W.Frag) (h : X.K = K := by rfl) : SlR X (rSlT K) := by
  subst h
  exact sl_tup
theorem op_notInK {X : Cx} (K : PySem.W.Frag) (h : X.K = K := by rfl) : OpR X (compareOp .NotIn) (rIn K true) := by
  subst h
  exact op_notIn_seq
abbrev nRight : List Str := ["_law_pot", "_law_names", "_law_ann", "_law_bob", "_law_tally", "_law_last", "_law_kind", "_law_put", "_law_rest", "_law_first", "_law_step", "_law_one", "_law_two", "_law_house", "_law_puts", "_law_rests", "_law_run", "_law_here", "_law_there", "_law_book", "_law_stands_here", "_law_due", "_law_at", "_law_name", "_law_it", "_law_size"]
theorem scRight : FnScope nRight ["_law_pot"] (defScope sRight) := ⟨rfl, rfl, rfl, by decide +kernel, rfl, by decide +kernel, by decide +kernel⟩
def spRight : Sp := fun vs H Q _ => ∃ (p : Addr) (c : Int), vs = [.ref p] ∧ Pot H p c ∧ c ≤ 800 ∧ ∀ H', Bar p H H' → Pot H' p (c + 11) → Q (.bl true) H'
/-- the names that the law's text uses, as the module has them -/
structure RTxt (P : Program) (w : World) (K : PySem.W.Frag) (mg : Str → Option Value) (base : Heap) (D E : Addr) : Prop where
  take : DefOk P w K mg base "_law_take" 1 ["_law_pot", "_law_upto"] spLTake
  unlike : DefOk P w K mg base "_law_unlike" 2 ["_law_pot", "_law_some", "_law_upmost"] (spUnlike K)
  text : DefOk P w K mg base "_law_house_text" 1 ["_law_names", "_law_first", "_law_step"] (spText K)
  house : ∃ f fd, Mk K E f ∧ FnOk P w K mg base CX0 7 f fd ["self", "text"] (spHouse D E K) ∧ Binds K fd ["self", "text"] []
  mH : mg "House" = some (.ref E)
  first : DefOk P w K mg base "first_stand" 1 ["house"] (spFirst D E K)
  moves : DefOk P w K mg base "moves" 3 ["house", "stand"] (spMoves D E K)
  after : DefOk P w K mg base "after" 4 ["house", "stand", "move"] (spAfter D E K)
  led : DefOk P w K mg base "led" 4 ["house", "run"] (spLed D E K)
  me : mg "enumerate" = none
  mr : mg "range" = none
  mso : mg "sorted" = none
  mtu : mg "tuple" = none
  mi : mg "int" = none
  mre : mg "repr" = none
end Hx
set_option maxRecDepth 100000
set_option maxHeartbeats 1000000
/-! The law's own look, statement by statement. -/
namespace Hx
open PySem PySem.Spec PyProof.Rows L2
section
variable (D E : Addr) (K : PySem.W.Frag)
abbrev xNight : TE := tTup (tCons (tC (V.str "night")) tNil)
abbrev xDo (i j : Nat) (t : TE) : TE := tTup (tCons (tC (V.str "do")) (tCons (tVar i) (tCons (tVar j) (tCons t tNil))))
abbrev xStand (a b n : TE) : TE := tTup (tCons (tTup (tCons a (tCons b tNil))) (tCons n tNil))
abbrev xRow (a b : TE) : TE := tTup (tCons (tTup (tCons (tVar 6) (tCons (tTup (tCons (tVar 2) (tCons a (tCons b tNil)))) tNil))) tNil)
abbrev xTake (n : Int) : TE := tCall spLTake [] E0 (tCons (tVar 0) (tCons (tC (.int n)) tNil))
abbrev xI (n : Int) : TE := tC (.int n)
abbrev rAddI : R2 := rI0 fun i j => V.int (i + j)
abbrev rModI : R2 := rI (fun x j => 0 < j) fun i j => V.int (i % j)
abbrev rInt1 : List V → Hp → VK → Prop := fun xs H Q => (∃ i, xs = [V.int i] ∧ Q (V.int i) H) ∨ ∃ k, xs = [V.bl k] ∧ Q (V.int (if k = true then 1 else 0)) H
abbrev q1 : TS := tAsg (tCall (spUnlike K) [] E0 (tCons (tVar 0) (tCons (tLst (tCons (tC (.str "a")) (tCons (tC (.str "b")) (tCons (tC (.str "ann")) (tCons (tC (.str "it")) (tCons (tC (.str "cell")) (tCons (tC (.str "x")) (tCons (tC (.str "row")) (tCons (tC (.str "day")) (tCons (tC (.str "if")) tNil)))))))))) (tCons (xI 7) tNil)))) (gName 1)
abbrev xNames : TE := tLc (iEnT K 0 (tCons (tVar 1) tNil)) (gTup K 2 (gCons (gName 22) (gCons (gName 23) gNil))) tYes (tIf (tOr (tTest (tOp (rIn K true) (tVar 22) (tTup (tCons (xI 2) (tCons (xI 3) tNil))))) (tTest (tOp rNe (tVar 23) (tC (.str "it"))))) (tVar 23) (tC (.str "zz"))) [23, 22]
abbrev q2 : TS := tAsg (xNames K) (gName 1)
abbrev q3 : TS := tAsg (tVar 1) (gUnl K 7 (gCons (gName 2) (gCons (gName 3) (gCons (gName 4) (gCons (gName 5) (gCons (gName 6) (gCons (gName 7) (gCons (gName 8) gNil))))))))
abbrev q4 : TS := tAsg (tTup (tCons (xTake 4) (tCons (xTake 4) (tCons (xTake 3) (tCons (tOp rAddI (xI 1) (xTake 2)) tNil))))) (gTup K 4 (gCons (gName 9) (gCons (gName 10) (gCons (gName 11) (gCons (gName 12) gNil)))))
abbrev q5 : TS := tAsg (tMake E (spHouse D E K) [] E0 (tCons (tCall (spText K) [] E0 (tCons (tVar 1) (tCons (tVar 9) (tCons (tVar 10) tNil)))) tNil)) (gName 13)
abbrev xPuts : TE := tLc (iRng1 (tCons (xI 3) tNil)) (gName 24) tYes (xDo 7 2 (tVar 24)) [24]
abbrev q6 : TS := tAsg xPuts (gName 14)
abbrev q7 : TS := tAsg (tCB (rSortT K) (tCons (tLst (tCons (xDo 8 2 (xI 0)) (tCons (xDo 8 3 (xI 0)) tNil))) tNil)) (gName 15)
abbrev xNo : TS := tRet (tC (.bl false))
abbrev q8 : TS := tIfS (tOr (tTest (tOp (rNeD K) (tCall (spFirst D E K) [] E0 (tCons (tVar 13) tNil)) (xStand (tVar 9) (xI 0) (xI 0)))) (tTest (tOp (rNeD K) (tCall (spMoves D E K) [] E0 (tCons (tVar 13) (tCons (xStand (tVar 9) (xI 0) (xI 0)) tNil))) (tCB (rTupOf K) (tCons (tOp rCat (tVar 14) (tLst (tCons xNight tNil))) tNil))))) xNo tNext
abbrev q9 : TS := tAsg (tTup (tCons (xDo 7 2 (tVar 11)) (tCons xNight (tCons (xDo 7 2 (tVar 12)) (tCons (xDo 8 3 (xI 0)) (tCons xNight (tCons xNight tNil))))))) (gName 16)
abbrev q10 : TS := tAsg (tOp rModI (tCB rInt1 (tCons (tOp rAddI (tOp rAddI (tVar 9) (tVar 11)) (tVar 10)) tNil)) (xI 4)) (gName 17)
abbrev q11 : TS := tAsg (tOp rModI (tCB rInt1 (tCons (tOp rAddI (tOp rAddI (tVar 17) (tVar 12)) (tVar 10)) tNil)) (xI 4)) (gName 18)
abbrev q12 : TS := tAsg (tTup (tCons (xRow (tVar 17) (tVar 11)) (tCons (tTup tNil) (tCons (xRow (tVar 18) (tVar 12)) tNil)))) (gName 19)
abbrev q13 : TS := tAsg (tOp (rCatT K) (tVar 19) (tTup (tCons (xRow (xI 3) (xI 0)) (tCons (tTup tNil) (tCons (tTup tNil) tNil))))) (gName 19)
abbrev q14 : TS := tIfS (tTest (tOp rNe (tCB (rReprP K) (tCons (tCall (spLed D E K) [] E0 (tCons (tVar 13) (tCons (tVar 16) tNil))) tNil)) (tCB (rReprP K) (tCons (tTup (tCons (xStand (tVar 18) (xI 0) (xI 0)) (tCons (tVar 19) tNil))) tNil)))) xNo tNext
abbrev xStands : TE := tLc (iRng1 (tCons (xI 5) tNil)) (gName 25) tYes (tOp (rIxT K) (tCall (spLed D E K) [] E0 (tCons (tVar 13) (tCons (tSl (rSlT K) (tVar 16) tNoPart (tPart (tVar 25))) tNil))) (xI 0)) [25]
abbrev q15 : TS := tAsg (xStands D E K) (gName 20)
abbrev q16 : TS := tIfS (tTest (tOp (rNeD K) (tVar 20) (tLst (tCons (xStand (tVar 9) (xI 0) (xI 0)) (tCons (xStand (tVar 17) (tVar 11) (xI 1)) (tCons (xStand (tVar 17) (tVar 11) (xI 0)) (tCons (xStand (tVar 18) (tVar 12) (xI 1)) (tCons (xStand (tVar 18) (xI 0) (xI 2)) tNil)))))))) xNo tNext
abbrev q17 : TS := tAsg (tCB (rTupOf K) (tCons (tCB (rSortT K) (tCons (tOp rCat (tOp rCat (tVar 14) (tIf (tTest (tOp rNe (tVar 12) (xI 0))) (tVar 15) (tLst tNil))) (tLst (tCons xNight tNil))) tNil)) tNil)) (gName 21)
abbrev q18 : TS := tIfS (tOr (tTest (tOp (rNeD K) (tCall (spMoves D E K) [] E0 (tCons (tVar 13) (tCons (tOp (rIxL K) (tVar 20) (xI 3)) tNil))) (tVar 21))) (tTest (tOp (rNeD K) (tCall (spMoves D E K) [] E0 (tCons (tVar 13) (tCons (tOp (rIxL K) (tVar 20) (xI 4)) tNil))) (tTup (tCons xNight tNil))))) xNo tNext
abbrev q19 : TS := tRet (tOp (rEqD K) (tCall (spAfter D E K) [] E0 (tCons (tVar 13) (tCons (xStand (tVar 18) (xI 0) (xI 2)) (tCons xNight tNil)))) (tTup (tCons (xStand (tVar 18) (xI 0) (xI 0)) (tCons (tTup tNil) tNil))))
def rdRight : TS := tSeq (q1 K) (tSeq (q2 K) (tSeq (q3 K) (tSeq (q4 K) (tSeq (q5 D E K) (tSeq q6 (tSeq (q7 K) (tSeq (q8 D E K) (tSeq q9 (tSeq q10 (tSeq q11 (tSeq q12 (tSeq (q13 K) (tSeq (q14 D E K) (tSeq (q15 D E K) (tSeq (q16 K) (tSeq (q17 K) (tSeq (q18 D E K) (q19 D E K))))))))))))))))))
end
end Hx
set_option maxRecDepth 100000
set_option maxHeartbeats 4000000
namespace Hx
open PySem PySem.Spec PyProof.Rows L2
section
variable {P : Program} {w : World} {K : PySem.W.Frag} {mg : Str → Option Value} {base : Heap} {D E : Addr}
theorem ok_right0 {f : Addr} {fd : FuncData} (F : Fun K "_law_right" "_law_right" sRight f fd) (T : RTxt P w K mg base D E) (reads : ∀ (p : Addr) (c : Int) (H : Hp) (Q : VK), Pot H p c → c ≤ 800 → (∀ H', Bar p H H' → Pot H' p (c + 11) → Q (.bl true) H') → rdRight D E K { nx := fun _ H' => Q V.non H', rt := Q } (start nRight [V.ref p]) H) : FnG P w K mg base 9 f fd ["_law_pot"] spRight := by
  refine F.okG scRight (fun vs H Q E h => ?_) (fun cdv A outer s H vs Q hA hr h => ?_)
  · obtain ⟨p, c, rfl, _⟩ := h
    rfl
  obtain ⟨p, c, rfl, hp, hc, k⟩ := h
  have hA' : (A.deeper (envOfC "_law_right" (defScope sRight) s.heap.objs.size f cdv)).guards = some [] := hA
  have hu : (A.deeper (envOfC "_law_right" (defScope sRight) s.heap.objs.size f cdv)).units + 64 < cLine := hr.units
  have hr1 : Room 1 (A.deeper (envOfC "_law_right" (defScope sRight) s.heap.objs.size f cdv)) := hr.mono (by decide)
  have hr2 : Room 2 (A.deeper (envOfC "_law_right" (defScope sRight) s.heap.objs.size f cdv)) := hr.mono (by decide)
  have hr3 : Room 3 (A.deeper (envOfC "_law_right" (defScope sRight) s.heap.objs.size f cdv)) := hr.mono (by decide)
  have hr4 : Room 4 (A.deeper (envOfC "_law_right" (defScope sRight) s.heap.objs.size f cdv)) := hr.mono (by decide)
  have nd := scRight.nd
  obtain ⟨GT, GU, GX, ⟨fH, fdH, MH, GH, bH⟩, mH, GF, GM, GA, GL, me, mr, mso, mtu, mi, mre⟩ := T
  refine ⟨_, (pss_cons (ps_set (i := 1) nd rfl (.inl rfl) (pe_D GU hr2 rfl (pa_cons (pv 0) (pa_cons (pe_lst (pa_cons pe_str (pa_cons pe_str (pa_cons pe_str (pa_cons pe_str (pa_cons pe_str (pa_cons pe_str (pa_cons pe_str (pa_cons pe_str (pa_cons pe_str pa_nil)))))))))) (pa_cons pe_int pa_nil)))))
    (pss_cons (ps_setLc (i := 1) (own := [("_law_name", 23), ("_law_at", 22)]) (g := gTup K 2 (gCons (gName 22) (gCons (gName 23) gNil))) (tt := tYes) rfl nd rfl rfl (sw_true rfl rfl rfl (by decide +kernel)) (pi_enT rfl me (pa_cons (pv 1) pa_nil)) (blkOk_by (N := nRight) (sc := defScope sRight) (by decide +kernel)) (fun _ _ _ _ _ => pg_tupK K (pgs_cons (pg_name (i := 22) nd rfl (Or.inl rfl)) (pgs_cons (pg_name (i := 23) nd rfl (Or.inl rfl)) pgs_nil))) (fun _ _ _ _ _ => pts_nil) (fun _ _ _ _ _ => pe_ifExp (PW.pt (pw_or (pt_cmpR (op_notInK K) (pv 22) (pe_tup (pa_cons pe_int (pa_cons pe_int pa_nil))) (by rfl)) (pw_or1 (pt_cmpR op_ne (pv 23) pe_str (nomark _))))) (pv 23) pe_str))
    (pss_cons (ps_asg (pv 1) (pg_unl rfl (pgs_cons (pg_name (i := 2) nd rfl (.inr rfl)) (pgs_cons (pg_name (i := 3) nd rfl (.inl rfl)) (pgs_cons (pg_name (i := 4) nd rfl (.inl rfl)) (pgs_cons (pg_name (i := 5) nd rfl (.inl rfl)) (pgs_cons (pg_name (i := 6) nd rfl (.inl rfl)) (pgs_cons (pg_name (i := 7) nd rfl (.inr rfl)) (pgs_cons (pg_name (i := 8) nd rfl (.inl rfl)) pgs_nil)))))))))
    (pss_cons (ps_asg (pe_tup (pa_cons (pe_D GT hr1 rfl (pa_cons (pv 0) (pa_cons pe_int pa_nil))) (pa_cons (pe_D GT hr1 rfl (pa_cons (pv 0) (pa_cons pe_int pa_nil))) (pa_cons (pe_D GT hr1 rfl (pa_cons (pv 0) (pa_cons pe_int pa_nil))) (pa_cons (pe_op op_add pe_int (pe_D GT hr1 rfl (pa_cons (pv 0) (pa_cons pe_int pa_nil)))) pa_nil))))) (pg_tupK K (pgs_cons (pg_name (i := 9) nd rfl (.inl rfl)) (pgs_cons (pg_name (i := 10) nd rfl (.inl rfl)) (pgs_cons (pg_name (i := 11) nd rfl (.inl rfl)) (pgs_cons (pg_name (i := 12) nd rfl (.inl rfl)) pgs_nil))))))
    (pss_cons (ps_set (i := 13) nd rfl (.inr rfl) (pe_make MH GH hr rfl mH bH .nil pass0 (pa_cons (pe_D GX hr1 rfl (pa_cons (pv 1) (pa_cons (pv 9) (pa_cons (pv 10) pa_nil)))) pa_nil)))
    (pss_cons (ps_setLc (i := 14) (own := [("_law_it", 24)]) (g := gName 24) (tt := tYes) rfl nd rfl rfl (sw_true rfl rfl rfl (by decide +kernel)) (pi_range1 rfl mr (pa_cons pe_int pa_nil)) (blkOk_by (N := nRight) (sc := defScope sRight) (by decide +kernel)) (fun _ _ _ _ _ => pg_name (i := 24) nd rfl (Or.inl rfl)) (fun _ _ _ _ _ => pts_nil) (fun _ _ _ _ _ => pe_tup (pa_cons pe_str (pa_cons (pv 7) (pa_cons (pv 2) (pa_cons (pv 24) pa_nil))))))
    (pss_cons (ps_set (i := 15) nd rfl (.inl rfl) (pe_callB cr_sortedT rfl mso PyProof.Rows.Boot.«sorted» (pa_cons (pe_lst (pa_cons (pe_tup (pa_cons pe_str (pa_cons (pv 8) (pa_cons (pv 2) (pa_cons pe_int pa_nil))))) (pa_cons (pe_tup (pa_cons pe_str (pa_cons (pv 8) (pa_cons (pv 3) (pa_cons pe_int pa_nil))))) pa_nil))) pa_nil)))
    (pss_cons (ps_if (PW.pt (pw_or (pt_cmpR (op_neD hu) (pe_D GF hr1 rfl (pa_cons (pv 13) pa_nil)) (pe_tup (pa_cons (pe_tup (pa_cons (pv 9) (pa_cons pe_int pa_nil))) (pa_cons pe_int pa_nil))) (nomark _)) (pw_or1 (pt_cmpR (op_neD hu) (pe_D GM hr3 rfl (pa_cons (pv 13) (pa_cons (pe_tup (pa_cons (pe_tup (pa_cons (pv 9) (pa_cons pe_int pa_nil))) (pa_cons pe_int pa_nil))) pa_nil))) (pe_callTy call_tuple_of rfl mtu PyProof.Rows.Boot.«tuple» (pa_cons (pe_op op_cat (pv 14) (pe_lst (pa_cons (pe_tup (pa_cons pe_str pa_nil)) pa_nil))) pa_nil)) (nomark _))))) (pss_one (ps_ret pe_bl)) pss_nil)
    (pss_cons (ps_set (i := 16) nd rfl (.inr rfl) (pe_tup (pa_cons (pe_tup (pa_cons pe_str (pa_cons (pv 7) (pa_cons (pv 2) (pa_cons (pv 11) pa_nil))))) (pa_cons (pe_tup (pa_cons pe_str pa_nil)) (pa_cons (pe_tup (pa_cons pe_str (pa_cons (pv 7) (pa_cons (pv 2) (pa_cons (pv 12) pa_nil))))) (pa_cons (pe_tup (pa_cons pe_str (pa_cons (pv 8) (pa_cons (pv 3) (pa_cons pe_int pa_nil))))) (pa_cons (pe_tup (pa_cons pe_str pa_nil)) (pa_cons (pe_tup (pa_cons pe_str pa_nil)) pa_nil))))))))
    (pss_cons (ps_set (i := 17) nd rfl (.inl rfl) (pe_op op_mod (pe_callTy call_int1 rfl mi PyProof.Rows.Boot.«int» (pa_cons (pe_op op_add (pe_op op_add (pv 9) (pv 11)) (pv 10)) pa_nil)) pe_int))
    (pss_cons (ps_set (i := 18) nd rfl (.inl rfl) (pe_op op_mod (pe_callTy call_int1 rfl mi PyProof.Rows.Boot.«int» (pa_cons (pe_op op_add (pe_op op_add (pv 17) (pv 12)) (pv 10)) pa_nil)) pe_int))
    (pss_cons (ps_set (i := 19) nd rfl (.inl rfl) (pe_tup (pa_cons (pe_tup (pa_cons (pe_tup (pa_cons (pv 6) (pa_cons (pe_tup (pa_cons (pv 2) (pa_cons (pv 17) (pa_cons (pv 11) pa_nil)))) pa_nil))) pa_nil)) (pa_cons (pe_tup pa_nil) (pa_cons (pe_tup (pa_cons (pe_tup (pa_cons (pv 6) (pa_cons (pe_tup (pa_cons (pv 2) (pa_cons (pv 18) (pa_cons (pv 12) pa_nil)))) pa_nil))) pa_nil)) pa_nil)))))
    (pss_cons (ps_set (i := 19) nd rfl (.inl rfl) (pe_op op_catT (pv 19) (pe_tup (pa_cons (pe_tup (pa_cons (pe_tup (pa_cons (pv 6) (pa_cons (pe_tup (pa_cons (pv 2) (pa_cons pe_int (pa_cons pe_int pa_nil)))) pa_nil))) pa_nil)) (pa_cons (pe_tup pa_nil) (pa_cons (pe_tup pa_nil) pa_nil))))))
    (pss_cons (ps_if (pt_cmpR op_ne (pe_callB (call_reprP hA' hu) rfl mre PyProof.Rows.boot_repr (pa_cons (pe_D GL hr4 rfl (pa_cons (pv 13) (pa_cons (pv 16) pa_nil))) pa_nil)) (pe_callB (call_reprP hA' hu) rfl mre PyProof.Rows.boot_repr (pa_cons (pe_tup (pa_cons (pe_tup (pa_cons (pe_tup (pa_cons (pv 18) (pa_cons pe_int pa_nil))) (pa_cons pe_int pa_nil))) (pa_cons (pv 19) pa_nil))) pa_nil)) (nomark _)) (pss_one (ps_ret pe_bl)) pss_nil)
    (pss_cons (ps_setLc (i := 20) (own := [("_law_size", 25)]) (g := gName 25) (tt := tYes) rfl nd rfl rfl (sw_true rfl rfl rfl (by decide +kernel)) (pi_range1 rfl mr (pa_cons pe_int pa_nil)) (blkOk_by (N := nRight) (sc := defScope sRight) (by decide +kernel)) (fun _ _ _ _ _ => pg_name (i := 25) nd rfl (Or.inl rfl)) (fun _ _ _ _ _ => pts_nil) (fun _ _ _ _ _ => pe_ix (ix_tupK K) (pe_D GL hr4 rfl (pa_cons (pv 13) (pa_cons (pe_slice (sl_tupK K) (pv 16) po_none (po_some (pv 25))) pa_nil))) pe_int (fun _ _ => rfl)))
    (pss_cons (ps_if (pt_cmpR (op_neD hu) (pv 20) (pe_lst (pa_cons (pe_tup (pa_cons (pe_tup (pa_cons (pv 9) (pa_cons pe_int pa_nil))) (pa_cons pe_int pa_nil))) (pa_cons (pe_tup (pa_cons (pe_tup (pa_cons (pv 17) (pa_cons (pv 11) pa_nil))) (pa_cons pe_int pa_nil))) (pa_cons (pe_tup (pa_cons (pe_tup (pa_cons (pv 17) (pa_cons (pv 11) pa_nil))) (pa_cons pe_int pa_nil))) (pa_cons (pe_tup (pa_cons (pe_tup (pa_cons (pv 18) (pa_cons (pv 12) pa_nil))) (pa_cons pe_int pa_nil))) (pa_cons (pe_tup (pa_cons (pe_tup (pa_cons (pv 18) (pa_cons pe_int pa_nil))) (pa_cons pe_int pa_nil))) pa_nil)))))) (nomark _)) (pss_one (ps_ret pe_bl)) pss_nil)
    (pss_cons (ps_set (i := 21) nd rfl (.inl rfl) (pe_callTy call_tuple_of rfl mtu PyProof.Rows.Boot.«tuple» (pa_cons (pe_callB cr_sortedT rfl mso PyProof.Rows.Boot.«sorted» (pa_cons (pe_op op_cat (pe_op op_cat (pv 14) (pe_ifExp (pt_cmpR op_ne (pv 12) pe_int (nomark _)) (pv 15) (pe_lst pa_nil))) (pe_lst (pa_cons (pe_tup (pa_cons pe_str pa_nil)) pa_nil))) pa_nil)) pa_nil)))
    (pss_cons (ps_if (PW.pt (pw_or (pt_cmpR (op_neD hu) (pe_D GM hr3 rfl (pa_cons (pv 13) (pa_cons (pe_ix ix_list (pv 20) pe_int (fun _ _ => rfl)) pa_nil))) (pv 21) (nomark _)) (pw_or1 (pt_cmpR (op_neD hu) (pe_D GM hr3 rfl (pa_cons (pv 13) (pa_cons (pe_ix ix_list (pv 20) pe_int (fun _ _ => rfl)) pa_nil))) (pe_tup (pa_cons (pe_tup (pa_cons pe_str pa_nil)) pa_nil)) (nomark _))))) (pss_one (ps_ret pe_bl)) pss_nil)
    (pss_one (ps_ret (pe_cmpR (op_eqD hu) (pe_D GA hr4 rfl (pa_cons (pv 13) (pa_cons (pe_tup (pa_cons (pe_tup (pa_cons (pv 18) (pa_cons pe_int pa_nil))) (pa_cons pe_int pa_nil))) (pa_cons (pe_tup (pa_cons pe_str pa_nil)) pa_nil)))) (pe_tup (pa_cons (pe_tup (pa_cons (pe_tup (pa_cons (pv 18) (pa_cons pe_int pa_nil))) (pa_cons pe_int pa_nil))) (pa_cons (pe_tup pa_nil) pa_nil))) (nomark _)))))))))))))))))))))), ?_⟩
  exact reads p c H Q hp hc k
end
end Hx
set_option maxRecDepth 100000
set_option maxHeartbeats 1000000
namespace Hx
open PySem PySem.Spec PyProof.Rows L2
def nine : List Str := ["a", "b", "ann", "it", "cell", "x", "row", "day", "if"]
/-- the law's slots while it draws -/
def stA (p : Addr) (v1 : Option V) (x2 x3 x4 x5 x6 x7 x8 x9 x10 x11 x12 x13 : Option V) : L2.St := [some (.ref p), v1, x2, x3, x4, x5, x6, x7, x8, x9, x10, x11, x12, x13, none, none, none, none, none, none, none, none, none, none, none, none]
def fixAt (i : Nat) (y : Str) : Str := if (i = 2 ∨ i = 3) ∧ y = "it" then "zz" else y
theorem two_three (i : Nat) : inV (V.int (0 + (i : Nat))) [V.int 2, V.int 3] = decide (i = 2 ∨ i = 3) := by
  have e : inV (V.int (0 + (i : Nat))) [V.int 2, V.int 3] = ((2 : Int) == 0 + (i : Nat) || ((3 : Int) == 0 + (i : Nat) || false)) := rfl
  rw [e, Bool.eq_iff_iff]
  simp only [Bool.or_eq_true, beq_iff_eq, Bool.false_eq_true, or_false, decide_eq_true_eq]
  omega
section
variable {K : PySem.W.Frag} {rest : TS} {D : Ends} {p : Addr} {c : Int} {H : Hp}
theorem seg1 (hp : Pot H p c) (hc : c ≤ 800) (k : ∀ (a : Addr) (ys : List Str) H', Bar p H H' → Pot H' p (c + 7) → SqT K H' a (ys.map V.str) → ys.length = 7 → ys.Nodup → (∀ y ∈ ys, y ∈ nine) → rest D (stA p (some (.ref a)) none none none none none none none none none none none none) H') :
    tSeq (q1 K) rest D (start nRight [V.ref p]) H := by
  show tSeq (q1 K) rest D (stA p none none none none none none none none none none none none none) H
  refine seq_asg ?_
  refine ⟨_, rfl, sz (by decide : 9 ≤ 1000), fun l hl => ?_⟩
  refine ⟨p, l, c, nine, 7, rfl, hp.new hl _, by omega, SqL.of upd_same, by decide +kernel, by decide, by decide, fun a ys H1 b1 pt hys ly nd sub => ?_⟩
  exact k a ys H1 ((Bar.new hl _).trans b1) pt hys ly nd sub
theorem lc_names {σ : L2.St} {a : Addr} {ys : List Str} {Q : VK} (e1 : σ[1]? = some (some (.ref a))) (hl : σ.length = 26) (hys : SqT K H a (ys.map V.str)) (ly : ys.length ≤ 900)
    (k : ∀ G H', Same H H' → H' G = some (.lst (((List.range ys.length).map fun i => fixAt i (ys.getD i Str.empty)).map V.str)) → Q (.ref G) H') : xNames K σ H Q := by
  refine ⟨_, e1, a, ys.map V.str, rfl, hys, fun G hG => ?_⟩
  refine lc_it (walk_enT (xs := ys.map V.str)) (fun i H' => Same H H' ∧ H' G = some (.lst (((List.range i).map fun i => fixAt i (ys.getD i Str.empty)).map V.str))) ⟨same_new hG _, upd_same⟩ (fun i H' _ z => same_sqt z.1 hys) ?_ ?_
  · rintro i x H1 H2 hi ⟨sm, eG⟩ ⟨T', y, rfl, hT, rfl, ey⟩
    obtain ⟨y, ey', rfl⟩ := str_at ey
    have hil : i < ys.length := (List.getElem?_eq_some_iff.mp ey').1
    have eget : ys.getD i Str.empty = y := by rw [List.getD_eq_getElem?_getD, ey']; rfl
    have sT := same_new hT (.tup [.int (0 + (i : Nat)), .str y])
    have l1 : (wipe σ [23, 22]).length = 26 := by rw [wipe_length, hl]
    generalize eσ : ((wipe σ [23, 22]).set 22 (some (V.int (0 + (i : Nat))))).set 23 (some (V.str y)) = σ1
    have w1 : wipe σ1 [23, 22] = wipe σ [23, 22] := by
      rw [← eσ]
      refine wipe_of (fun m hm => ?_) (by simp [wipe_length])
      have h1 : 22 ≠ m := fun z => hm (by rw [← z]; simp)
      have h2 : 23 ≠ m := fun z => hm (by rw [← z]; simp)
      rw [List.getElem?_set_ne h2, List.getElem?_set_ne h1, wipe_get, if_neg hm]
    have f22 : σ1[22]? = some (some (V.int (0 + (i : Nat)))) := by
      rw [← eσ, List.getElem?_set_ne (by decide), List.getElem?_set_self (by omega)]
    have f23 : σ1[23]? = some (some (V.str y)) := by
      rw [← eσ, List.getElem?_set_self (by rw [List.length_set]; omega)]
    refine ⟨T', _, rfl, SqT.of upd_same, rfl, _, _, rfl, _, _, rfl, rfl, ?_⟩
    show wipe (((wipe σ [23, 22]).set 22 (some (V.int (0 + (i : Nat))))).set 23 (some (V.str y))) [23, 22] = wipe σ [23, 22] ∧ _
    rw [eσ]
    refine ⟨w1, yes ?_⟩
    have fin : ∀ H3, Same (upd H1 T' (.tup [.int (0 + (i : Nat)), .str y])) H3 → ∃ acc, H3 G = some (.lst acc) ∧ acc.length < sizeLine ∧ (Same H (upd H3 G (.lst (acc ++ [V.str (fixAt i y)]))) ∧ upd H3 G (.lst (acc ++ [V.str (fixAt i y)])) G = some (.lst (((List.range (i + 1)).map fun i => fixAt i (ys.getD i Str.empty)).map V.str))) := fun H3 s3 => by
      refine ⟨_, s3 _ _ (sT _ _ eG), ?_, same_grow hG (sm.trans (sT.trans s3)), ?_⟩
      · rw [List.length_map, List.length_map, List.length_range]
        exact small1000 (by omega)
      · rw [upd_same, List.range_succ, List.map_append, List.map_append]
        show some (HO.lst (_ ++ [V.str (fixAt i y)])) = some (HO.lst (_ ++ [V.str (fixAt i (ys.getD i Str.empty))]))
        rw [eget]
    refine ⟨_, f22, sz (by decide : 2 ≤ 1000), fun u hu => ⟨u, _, rfl, .inr (SqT.of upd_same), rfl, rfl, ?_⟩⟩
    have su := same_new hu (.tup [V.int 2, V.int 3])
    refine ⟨!inV (V.int (0 + (i : Nat))) [V.int 2, V.int 3], rfl, ?_⟩
    rw [two_three]
    by_cases c1 : i = 2 ∨ i = 3
    · rw [decide_eq_true c1]
      refine iteF ⟨_, f23, rfl, _, rfl, ?_⟩
      by_cases c2 : y = "it"
      · subst c2
        have e : (!decide (V.str "it" = V.str "it")) = false := by rw [decide_eq_true rfl]; rfl
        rw [e]
        refine iteF ?_
        have e2 : fixAt i "it" = "zz" := if_pos ⟨c1, rfl⟩
        rw [e2] at fin
        exact fin _ su
      · have e : (!decide (V.str y = V.str "it")) = true := by rw [decide_eq_false (fun z => c2 (V.str.inj z))]; rfl
        rw [e]
        have e2 : fixAt i y = y := if_neg fun z => c2 z.2
        rw [e2] at fin
        exact iteT ⟨_, f23, fin _ su⟩
    · rw [decide_eq_false c1]
      have e2 : fixAt i y = y := if_neg fun z => c1 z.1
      rw [e2] at fin
      exact iteT (iteT ⟨_, f23, fin _ su⟩)
  · rintro H' ⟨sm, eG⟩
    rw [List.length_map] at eG
    exact k G H' sm eG
end
end Hx
set_option maxRecDepth 100000
set_option maxHeartbeats 1000000
namespace Hx
open PySem PySem.Spec PyProof.Rows L2
theorem ten_ok : ∀ x ∈ nine ++ [("zz" : Str)], nameB x = true ∧ x ≠ "who" := by decide +kernel
theorem zz_new : ("zz" : Str) ∉ nine := by decide +kernel
theorem it_in : ("zz" : Str) ≠ "it" := by decide +kernel
theorem fix_in {i : Nat} {y : Str} (h : y ∈ nine) : fixAt i y ∈ nine ++ [("zz" : Str)] := by
  unfold fixAt
  split
  · exact List.mem_append_right _ (List.mem_singleton.mpr rfl)
  · exact List.mem_append_left _ h
theorem fix_no {i : Nat} {y : Str} (h : i = 2 ∨ i = 3) : fixAt i y ≠ "it" := by
  unfold fixAt
  split
  · exact it_in
  · rename_i q
    exact fun z => q ⟨h, z⟩
theorem fix_same {i : Nat} {y : Str} (h : y ≠ "it") : fixAt i y = y := if_neg fun z => h z.2
theorem fix_it {i : Nat} (h : i = 2 ∨ i = 3) : fixAt i "it" = "zz" := if_pos ⟨h, rfl⟩
theorem names_ok {y0 y1 y2 y3 y4 y5 y6 : Str} (nd : [y0, y1, y2, y3, y4, y5, y6].Nodup) (sub : ∀ y ∈ [y0, y1, y2, y3, y4, y5, y6], y ∈ nine) : (⟨y0, y1, fixAt 2 y2, fixAt 3 y3, y4, y5, y6⟩ : Nms).Ok := by
  have s0 := sub y0 (by simp)
  have s1 := sub y1 (by simp)
  have s2 := sub y2 (by simp)
  have s3 := sub y3 (by simp)
  have s4 := sub y4 (by simp)
  have s5 := sub y5 (by simp)
  have s6 := sub y6 (by simp)
  have z : ∀ {y : Str}, y ∈ nine → y ≠ "zz" ∧ "zz" ≠ y := fun h => ⟨fun e => zz_new (e ▸ h), fun e => zz_new (e ▸ h)⟩
  have l : ∀ {y : Str}, y ∈ nine → y ∈ nine ++ [("zz" : Str)] := fun h => List.mem_append_left _ h
  refine ⟨?_, ?_, fix_no (.inl rfl), fix_no (.inr rfl)⟩
  · show [y0, y1, fixAt 2 y2, fixAt 3 y3, y4, y5, y6].Nodup
    by_cases c2 : y2 = "it"
    · have c3 : y3 ≠ "it" := fun c3 => by
        rw [c2, c3] at nd
        simp at nd
      rw [fix_same c3, c2, fix_it (.inl rfl)]
      rw [c2] at nd
      simp only [List.nodup_cons, List.mem_cons, List.not_mem_nil, or_false, not_or] at nd ⊢
      obtain ⟨⟨a1, a2, a3, a4, a5, a6⟩, ⟨b2, b3, b4, b5, b6⟩, ⟨d3, d4, d5, d6⟩, r⟩ := nd
      exact ⟨⟨a1, (z s0).1, a3, a4, a5, a6⟩, ⟨(z s1).1, b3, b4, b5, b6⟩, ⟨(z s3).2, (z s4).2, (z s5).2, (z s6).2⟩, r⟩
    · rw [fix_same c2]
      by_cases c3 : y3 = "it"
      · rw [c3, fix_it (.inr rfl)]
        rw [c3] at nd
        simp only [List.nodup_cons, List.mem_cons, List.not_mem_nil, or_false, not_or] at nd ⊢
        obtain ⟨⟨a1, a2, a3, a4, a5, a6⟩, ⟨b2, b3, b4, b5, b6⟩, ⟨d3, d4, d5, d6⟩, ⟨e4, e5, e6⟩, r⟩ := nd
        exact ⟨⟨a1, a2, (z s0).1, a4, a5, a6⟩, ⟨b2, (z s1).1, b4, b5, b6⟩, ⟨(z s2).1, d4, d5, d6⟩, ⟨(z s4).2, (z s5).2, (z s6).2⟩, r⟩
      · rw [fix_same c3]
        exact nd
  · intro x hx
    have hx : x = y0 ∨ x = y1 ∨ x = fixAt 2 y2 ∨ x = fixAt 3 y3 ∨ x = y4 ∨ x = y5 ∨ x = y6 := by simpa [Nms.list] using hx
    rcases hx with rfl | rfl | rfl | rfl | rfl | rfl | rfl
    · exact ten_ok _ (l s0)
    · exact ten_ok _ (l s1)
    · exact ten_ok _ (fix_in s2)
    · exact ten_ok _ (fix_in s3)
    · exact ten_ok _ (l s4)
    · exact ten_ok _ (l s5)
    · exact ten_ok _ (l s6)
section
variable {K : PySem.W.Frag} {rest : TS} {D : Ends} {p : Addr} {c : Int} {H : Hp}
theorem Pot.same {H H' : Hp} (s : Same H H') (h : Pot H p c) : Pot H' p c := by
  obtain ⟨A, B, C, e, r⟩ := h
  exact ⟨A, B, C, s _ _ e, r⟩
theorem seg23 {a : Addr} {ys : List Str} (hys : SqT K H a (ys.map V.str)) (ly : ys.length = 7) (nd : ys.Nodup) (sub : ∀ y ∈ ys, y ∈ nine)
    (k : ∀ (l : Addr) (N : Nms) H', N.Ok → Same H H' → SqL K H' l (N.list.map V.str) → rest D (stA p (some (.ref l)) (some (.str N.ann)) (some (.str N.bob)) (some (.str N.tally)) (some (.str N.last)) (some (.str N.kind)) (some (.str N.put)) (some (.str N.rest)) none none none none none) H') :
    tSeq (q2 K) (tSeq (q3 K) rest) D (stA p (some (.ref a)) none none none none none none none none none none none none) H := by
  refine seq_asg ?_
  refine lc_names rfl rfl hys (by omega) fun G H1 s1 eG => ?_
  obtain ⟨y0, y1, y2, y3, y4, y5, y6, rfl⟩ : ∃ y0 y1 y2 y3 y4 y5 y6, ys = [y0, y1, y2, y3, y4, y5, y6] := by
    match ys, ly with
    | [y0, y1, y2, y3, y4, y5, y6], _ => exact ⟨y0, y1, y2, y3, y4, y5, y6, rfl⟩
  have ok := names_ok nd sub
  generalize eN : (⟨y0, y1, fixAt 2 y2, fixAt 3 y3, y4, y5, y6⟩ : Nms) = N at ok
  have f0 : ∀ i : Nat, ¬ (i = 2 ∨ i = 3) → ∀ y, fixAt i y = y := fun i h y => if_neg fun z => h z.1
  have el : (List.range 7).map (fun i => fixAt i (([y0, y1, y2, y3, y4, y5, y6] : List Str).getD i Str.empty)) = N.list := by
    rw [← eN]
    show [fixAt 0 y0, fixAt 1 y1, fixAt 2 y2, fixAt 3 y3, fixAt 4 y4, fixAt 5 y5, fixAt 6 y6] = [y0, y1, fixAt 2 y2, fixAt 3 y3, y4, y5, y6]
    rw [f0 0 (by decide), f0 1 (by decide), f0 4 (by decide), f0 5 (by decide), f0 6 (by decide)]
  have eG : H1 G = some (.lst (N.list.map V.str)) := by
    rw [← el]
    exact eG
  show tSeq (q3 K) rest D (stA p (some (.ref G)) none none none none none none none none none none none none) H1
  refine seq_asg ?_
  exact ⟨_, rfl, G, _, rfl, SqL.of eG, rfl, _, _, rfl, _, _, rfl, _, _, rfl, _, _, rfl, _, _, rfl, _, _, rfl, _, _, rfl, rfl, k G N H1 ok s1 (SqL.of eG)⟩
theorem seg4 {x1 x2 x3 x4 x5 x6 x7 x8 : Option V} (hp : Pot H p c) (hc : c ≤ 900)
    (k : ∀ (a b d e : Int) H', 0 ≤ a → a < 4 → 0 ≤ b → b < 4 → 0 ≤ d → d < 3 → 1 ≤ e → e < 3 → Bar p H H' → Pot H' p (c + 4) → rest D (stA p x1 x2 x3 x4 x5 x6 x7 x8 (some (.int a)) (some (.int b)) (some (.int d)) (some (.int e)) none) H') :
    tSeq (q4 K) rest D (stA p x1 x2 x3 x4 x5 x6 x7 x8 none none none none none) H := by
  refine seq_asg ?_
  refine ⟨_, rfl, p, c, 4, rfl, hp, by omega, by decide, by decide, fun a H1 a0 a1 b1 p1 => ?_⟩
  refine ⟨_, rfl, p, c + 1, 4, rfl, p1, by omega, by decide, by decide, fun b H2 b0 b1' b2 p2 => ?_⟩
  refine ⟨_, rfl, p, c + 1 + 1, 3, rfl, p2, by omega, by decide, by decide, fun d H3 d0 d1 b3 p3 => ?_⟩
  refine ⟨_, rfl, p, c + 1 + 1 + 1, 2, rfl, p3, by omega, by decide, by decide, fun e H4 e0 e1 b4 p4 => ⟨1, e, rfl, rfl, ?_⟩⟩
  refine ⟨sz (by decide : 4 ≤ 1000), fun t ht => ?_⟩
  have bt := Bar.new (p := p) ht (.tup [.int a, .int b, .int d, .int (1 + e)])
  refine ⟨t, _, rfl, SqT.of upd_same, rfl, _, _, rfl, _, _, rfl, _, _, rfl, _, _, rfl, rfl, ?_⟩
  exact k a b d (1 + e) _ a0 a1 b0 b1' d0 d1 (by omega) (by omega) (b1.trans (b2.trans (b3.trans (b4.trans bt)))) ((p4.new ht _).mono (by omega))
/-- all that is drawn -/
theorem segA (hp : Pot H p c) (hc : c ≤ 800)
    (k : ∀ (l : Addr) (R : Dr) H', R.Ok → Bar p H H' → Pot H' p (c + 11) → SqL K H' l (R.N.list.map V.str) →
      rest D (stA p (some (.ref l)) (some (.str R.N.ann)) (some (.str R.N.bob)) (some (.str R.N.tally)) (some (.str R.N.last)) (some (.str R.N.kind)) (some (.str R.N.put)) (some (.str R.N.rest)) (some (.int R.a)) (some (.int R.b)) (some (.int R.c)) (some (.int R.d)) none) H') :
    tSeq (q1 K) (tSeq (q2 K) (tSeq (q3 K) (tSeq (q4 K) rest))) D (start nRight [V.ref p]) H := by
  refine seg1 hp hc fun a ys H1 b1 p1 hys ly nd sub => ?_
  refine seg23 hys ly nd sub fun l N H2 ok s2 hl => ?_
  have p2 := p1.same s2
  obtain ⟨A, B, C, ep, _⟩ := id p2
  refine seg4 p2 (by omega) fun a b d e H3 a0 a1 b0 b1' d0 d1 e0 e1 b3 p3 => ?_
  exact k l ⟨N, a, b, d, e⟩ H3 ⟨ok, a0, a1, b0, b1', d0, d1, e0, e1⟩ (b1.trans ((Bar.of s2).trans b3)) (p3.mono (by omega)) (by
    rcases hl with (h | ⟨o, h⟩) | h
    · exact .inl (.inl (b3 _ _ (fun z => by
        rw [z, ep] at h
        cases N
        cases h) h))
    · exact .inl (.inr ⟨o, b3 _ _ (fun z => by
        rw [z, ep] at h
        cases h) h⟩)
    · exact .inr h)
end
end Hx
set_option maxRecDepth 100000
set_option maxHeartbeats 1000000
/-! Small tuples of the law; the house and the moves it expects. -/
namespace Hx
open PySem PySem.Spec PyProof.Rows L2
def stR (p l : Addr) (R : Dr) (y13 y14 y15 y16 y17 y18 y19 y20 y21 : Option V) : L2.St := [some (.ref p), some (.ref l), some (.str R.N.ann), some (.str R.N.bob), some (.str R.N.tally), some (.str R.N.last), some (.str R.N.kind), some (.str R.N.put), some (.str R.N.rest), some (.int R.a), some (.int R.b), some (.int R.c), some (.int R.d), y13, y14, y15, y16, y17, y18, y19, y20, y21, none, none, none, none]
section
variable {K : PySem.W.Frag} {σ : L2.St} {H : Hp} {Q : VK}
theorem go_cb {r : List V → Hp → VK → Prop} {ta : TA} (h : ta σ H fun vs H1 => r vs H1 Q) : tCB r ta σ H Q := h
theorem go_cons {a : TE} {b : TA} {q : List V → Hp → Prop} (h : a σ H fun x H1 => b σ H1 fun xs H2 => q (x :: xs) H2) : tCons a b σ H q := h
theorem go_nil {q : List V → Hp → Prop} (h : q [] H) : tNil σ H q := h
theorem go_lst {ta : TA} (h : ta σ H fun vs H1 => vs.length ≤ sizeLine ∧ ∀ p, H1 p = none → Q (.ref p) (upd H1 p (.lst vs))) : tLst ta σ H Q := h
theorem go_tup {ta : TA} (h : ta σ H fun vs H1 => vs.length ≤ sizeLine ∧ ∀ p, H1 p = none → Q (.ref p) (upd H1 p (.tup vs))) : tTup ta σ H Q := h
theorem go_op {r : R2} {a b : TE} (h : a σ H fun x H1 => b σ H1 fun y H2 => r x y H2 Q) : tOp r a b σ H Q := h
/-- the term's value is the whole number x, whatever the heap is -/
def IntT (t : TE) (σ : L2.St) (x : Int) : Prop := ∀ (H : Hp) (Q : VK), Q (.int x) H → t σ H Q
theorem IntT.c {σ : L2.St} (x : Int) : IntT (xI x) σ x := fun _ _ q => q
theorem IntT.v {σ : L2.St} {i : Nat} {x : Int} (e : σ[i]? = some (some (.int x))) : IntT (tVar i) σ x := fun _ _ q => ⟨_, e, q⟩
theorem mk_stand {a b n : TE} {x y z : Int} (ha : IntT a σ x) (hb : IntT b σ y) (hn : IntT n σ z) (k : ∀ v H', Same H H' → Tp K H' v (standD [x, y] z) → Q v H') : xStand a b n σ H Q := by
  refine ha _ _ (hb _ _ ⟨sz (by decide : 2 ≤ 1000), fun c hc => hn _ _ ⟨sz (by decide : 2 ≤ 1000), fun d hd => ?_⟩⟩)
  refine k _ _ ((same_new hc _).trans (same_new hd _)) (.tup (SqT.of upd_same) (.cons (.tup (same_sqt (same_new hd _) (SqT.of upd_same)) (.cons (.int _) (.cons (.int _) .nil))) (.cons (.int _) .nil)))
theorem mk_do {i j : Nat} {t : TE} {x y : Str} {z : Int} (ei : σ[i]? = some (some (.str x))) (ej : σ[j]? = some (some (.str y))) (ht : IntT t σ z) (k : ∀ a H', Same H H' → SqT K H' a [V.str "do", .str x, .str y, .int z] → Q (.ref a) H') : xDo i j t σ H Q := by
  refine ⟨_, ei, _, ej, ht _ _ ⟨sz (by decide : 4 ≤ 1000), fun c hc => ?_⟩⟩
  exact k _ _ (same_new hc _) (SqT.of upd_same)
theorem mk_night (k : ∀ a H', Same H H' → SqT K H' a [V.str "night"] → Q (.ref a) H') : xNight σ H Q :=
  ⟨sz (by decide : 1 ≤ 1000), fun c hc => k _ _ (same_new hc _) (SqT.of upd_same)⟩
theorem tp_do {a : Addr} {x y : Str} {z : Int} (h : SqT K H a [V.str "do", .str x, .str y, .int z]) : Tp K H (.ref a) (MoveD.act x y z).d := .tup h (.cons (.str _) (.cons (.str _) (.cons (.str _) (.cons (.int _) .nil))))
theorem mk_row {a b : TE} {kd an : Str} {x y : Int} (e6 : σ[6]? = some (some (.str kd))) (e2 : σ[2]? = some (some (.str an))) (ha : IntT a σ x) (hb : IntT b σ y) (k : ∀ v H', Same H H' → Tp K H' v (.tuple [.tuple [.str kd, .tuple [.str an, .int x, .int y]]]) → Q v H') : xRow a b σ H Q := by
  refine ⟨_, e6, _, e2, ha _ _ (hb _ _ ⟨sz (by decide : 3 ≤ 1000), fun c hc => ⟨sz (by decide : 2 ≤ 1000), fun d hd => ⟨sz (by decide : 1 ≤ 1000), fun e he => ?_⟩⟩⟩)⟩
  have s2 := same_new hd (.tup [.str kd, .ref c])
  have s3 := same_new he (.tup [.ref d])
  refine k _ _ ((same_new hc _).trans (s2.trans s3)) (.tup (SqT.of upd_same) (.cons (.tup (same_sqt s3 (SqT.of upd_same)) (.cons (.str _) (.cons (.tup (same_sqt (s2.trans s3) (SqT.of upd_same)) (.cons (.str _) (.cons (.int _) (.cons (.int _) .nil)))) .nil))) .nil))
end
section
variable {K : PySem.W.Frag} {rest : TS} {Z : Ends} {D E p l : Addr} {R : Dr} {H : Hp}
theorem seg5 (ok : R.Ok) (hl : SqL K H l (R.N.list.map V.str)) (k : ∀ (x : Addr) (t : Str) H', Same H H' → HouseAt K D E H' x t R.h → rest Z (stR p l R (some (.ref x)) none none none none none none none none) H') :
    tSeq (q5 D E K) rest Z (stR p l R none none none none none none none none none) H := by
  refine seq_asg ?_
  refine ⟨_, rfl, _, rfl, _, rfl, l, R.N, R.a, R.b, rfl, hl, ok.n, ok.a0, ok.a1, ok.b0, ok.b1, fun H1 s1 => fun x dx hx hdx ne => ?_⟩
  refine ⟨x, dx, R.h, rfl, upd_same, ok.ok, page_ok ok.n ok.a0 ok.a1 ok.b0 ok.b1, text_short ok.n ok.a0 ok.a1 ok.b0 ok.b1, fun H2 b2 ha => ⟨rfl, ?_⟩⟩
  refine k x _ H2 (s1.trans fun c o e => ?_) ha
  have n1 : c ≠ x := fun z => by rw [z, hx] at e; cases e
  have n2 : c ≠ dx := fun z => by rw [z, hdx] at e; cases e
  exact b2 c o n1 (by rw [upd_ne n1, upd_ne n2]; exact e)
theorem seg6 {y : Option V} (k : ∀ (G : Addr) (ps : List (Addr × List V)) H', Same H H' → H' G = some (.lst (ps.map fun q => V.ref q.1)) → RowsAt K H' ps → ps.map (·.2) = R.puts → rest Z (stR p l R y (some (.ref G)) none none none none none none none) H') :
    tSeq q6 rest Z (stR p l R y none none none none none none none none) H := by
  refine seq_asg ?_
  refine ⟨3, rfl, by decide, by decide, fun G hG => ?_⟩
  refine lc_it (walk_range (lo := 0) (n := 3)) (fun i H' => Same H H' ∧ ∃ ps : List (Addr × List V), H' G = some (.lst (ps.map fun q => V.ref q.1)) ∧ RowsAt K H' ps ∧ ps.map (·.2) = R.puts.take i) ⟨same_new hG _, [], upd_same, (fun p hp => by cases hp), rfl⟩ (fun i H' _ z => trivial) ?_ ?_
  · rintro i x H1 H2 hi ⟨sm, ps, eG, ra, ep⟩ ⟨rfl, rfl⟩
    refine ⟨rfl, yes ?_⟩
    refine mk_do (K := K) (x := R.N.put) (y := R.N.ann) (z := 0 + (i : Nat)) rfl rfl (IntT.v rfl) fun a H3 s3 ha => ?_
    refine ⟨_, s3 _ _ eG, ?_, same_grow hG (sm.trans s3), ps ++ [(a, [V.str "do", .str R.N.put, .str R.N.ann, .int (0 + (i : Nat))])], ?_, ?_, ?_⟩
    · have h1 := congrArg List.length ep
      rw [List.length_map, List.length_take] at h1
      rw [List.length_map]
      exact small1000 (by omega)
    · rw [upd_same, List.map_append]
      rfl
    · intro q hq
      have eG3 := s3 _ _ eG
      rcases List.mem_append.mp hq with hq | hq
      · exact sqt_lst eG3 (same_sqt s3 (ra q hq))
      · rw [List.mem_singleton.mp hq]
        exact sqt_lst eG3 ha
    · rw [List.map_append, ep]
      match i, hi with
      | 0, _ => rfl
      | 1, _ => rfl
      | 2, _ => rfl
  · rintro H' ⟨sm, ps, eG, ra, ep⟩
    exact k G ps H' sm eG ra ep
theorem seg7 {y z : Option V} (k : ∀ (G : Addr) (ps : List (Addr × List V)) H', Same H H' → H' G = some (.lst (ps.map fun q => V.ref q.1)) → RowsAt K H' ps → (ps.map (·.2)).Perm R.rests → rest Z (stR p l R y z (some (.ref G)) none none none none none none) H') :
    tSeq (q7 K) rest Z (stR p l R y z none none none none none none none) H := by
  refine seq_asg ?_
  refine go_cb (go_cons (go_lst (go_cons (mk_do (K := K) (x := R.N.rest) (y := R.N.ann) (z := 0) rfl rfl (IntT.c 0) fun a H1 s1 ha => ?_))))
  refine go_cons (mk_do (K := K) (x := R.N.rest) (y := R.N.bob) (z := 0) rfl rfl (IntT.c 0) fun b H2 s2 hb => ?_)
  refine ⟨sz (by decide : 2 ≤ 1000), fun c hc => ?_⟩
  have s3 := same_new hc (.lst [.ref a, .ref b])
  have ha := same_sqt (s2.trans s3) ha
  have hb := same_sqt s3 hb
  have all : ∀ q ∈ [(a, [V.str "do", .str R.N.rest, .str R.N.ann, .int 0]), (b, [V.str "do", .str R.N.rest, .str R.N.bob, .int 0])], SqT K (upd H2 c (.lst [.ref a, .ref b])) q.1 q.2 ∧ q.2 ≠ [] ∧ fitsAt shp 0 q.2 = true := fun q hq => by
    have hq : q = (a, [V.str "do", .str R.N.rest, .str R.N.ann, .int 0]) ∨ q = (b, [V.str "do", .str R.N.rest, .str R.N.bob, .int 0]) := by simpa using hq
    rcases hq with rfl | rfl
    · exact ⟨ha, List.cons_ne_nil _ _, rfl⟩
    · exact ⟨hb, List.cons_ne_nil _ _, rfl⟩
  refine ⟨c, [(a, [V.str "do", .str R.N.rest, .str R.N.ann, .int 0]), (b, [V.str "do", .str R.N.rest, .str R.N.bob, .int 0])], shp, rfl, SqL.of upd_same, all, by show 2 ≤ 900; decide, fun qs G pm _ hG => ?_⟩
  have s4 := same_new hG (.lst (qs.map fun q => V.ref q.1))
  refine k G qs _ (s1.trans (s2.trans (s3.trans s4))) upd_same (fun q hq => same_sqt s4 (all q (pm.mem_iff.mp hq)).1) ((pm.map _).trans (List.Perm.swap _ _ _))
end
end Hx
set_option maxRecDepth 100000
set_option maxHeartbeats 1000000
/-! The first stand and its moves. -/
namespace Hx
open PySem PySem.Spec PyProof.Rows L2
theorem small_stand {x y n : Int} (x0 : 0 ≤ x) (x1 : x < 10) (y0 : 0 ≤ y) (y1 : y < 10) (n0 : 0 ≤ n) (n1 : n < 10) : Small (standD [x, y] n) := by
  refine ⟨?_, ?_, ?_⟩
  · show smB (.tuple [.tuple [.int x, .int y], .int n]) = true
    simp only [smB, smAll, decide_eq_true x0, decide_eq_true x1, decide_eq_true y0, decide_eq_true y1, decide_eq_true n0, decide_eq_true n1, Bool.and_true]
  · show PyData.depth (.tuple [.tuple [.int x, .int y], .int n]) ≤ 20
    simp [PyData.depth, PyData.depthAll]
  · show nodes (.tuple [.tuple [.int x, .int y], .int n]) ≤ 1000
    simp [nodes, nodesAll]
theorem fits_two {R : Dr} {x y : Int} (x0 : 0 ≤ x) (x1 : x < 4) (y0 : 0 ≤ y) (y1 : y < 3) : Fits R.h.cs [x, y] := by
  refine ⟨rfl, fun j c ec => ?_⟩
  match j, ec with
  | 0, ec => cases ec; exact ⟨x0, x1⟩
  | 1, ec => cases ec; exact ⟨y0, y1⟩
  | n + 2, ec => cases ec
section
variable {σ : L2.St} {H : Hp} {Q : VK} {rest : TS} {Z : Ends}
theorem go_test {t : TE} {q : Bool → Hp → Prop} (h : t σ H fun x H' => ∃ k, x = V.bl k ∧ q k H') : tTest t σ H q := h
theorem go_or {t u : TT} {q : Bool → Hp → Prop} (h : t σ H fun c H1 => if c = true then q true H1 else u σ H1 q) : tOr t u σ H q := h
theorem seq_if {c : TT} {t : TS} (h : c σ H fun b H1 => if b = true then t { nx := rest Z, rt := Z.rt, bk := Z.bk, ct := Z.ct } σ H1 else rest Z σ H1) : tSeq (tIfS c t tNext) rest Z σ H := h
theorem go_call {sp : Sp} {ta : TA} (h : ta σ H fun vs H1 => sp (vs ++ []) H1 Q E0) : tCall sp [] E0 ta σ H Q := h
end
/-- what stands on the heap when the law compares -/
structure Hs (K : PySem.W.Frag) (D E : Addr) (R : Dr) (H : Hp) (x : Addr) (t : Str) (lp lr : Addr) (ps rs : List (Addr × List V)) : Prop where
  ha : HouseAt K D E H x t R.h
  ep : H lp = some (.lst (ps.map fun q => V.ref q.1))
  rp : RowsAt K H ps
  qp : ps.map (·.2) = R.puts
  er : H lr = some (.lst (rs.map fun q => V.ref q.1))
  rr : RowsAt K H rs
  qr : (rs.map (·.2)).Perm R.rests
theorem Hs.same {K : PySem.W.Frag} {D E : Addr} {R : Dr} {H H' : Hp} {x : Addr} {t : Str} {lp lr : Addr} {ps rs : List (Addr × List V)} (s : Same H H') (h : Hs K D E R H x t lp lr ps rs) : Hs K D E R H' x t lp lr ps rs :=
  ⟨h.ha.same s, s _ _ h.ep, fun q hq => same_sqt s (h.rp q hq), h.qp, s _ _ h.er, fun q hq => same_sqt s (h.rr q hq), h.qr⟩
section
variable {K : PySem.W.Frag} {rest : TS} {Z : Ends} {D E p l : Addr} {R : Dr} {H : Hp} {x : Addr} {t : Str} {lp lr : Addr} {ps rs : List (Addr × List V)}
/-- moves at a stand, told -/
theorem sp_moves (ok : R.Ok) (ha : HouseAt K D E H x t R.h) {v : V} {i j n : Int} {Q : VK} (x0 : 0 ≤ i) (x1 : i < 4) (y0 : 0 ≤ j) (y1 : j < 3) (n0 : 0 ≤ n) (n1 : n ≤ 2) (tv : Tp K H v (standD [i, j] n)) (k : PMEnd K H R.h [i, j] n Q) : spMoves D E K [.ref x, v] H Q E0 := by
  refine ⟨x, t, R.h, v, [i, j], n, rfl, ha, fun d hd => ?_, by show 2 ≤ 4; decide, ?_, by show 2 ≤ 3; decide, tv, fits_two x0 x1 y0 y1, n0, n1, ?_, k⟩
  · have hd : d = R.N.dPut R.b ∨ d = R.N.dRest := by simpa [Dr.h, Nms.house] using hd
    rcases hd with rfl | rfl
    · exact ⟨(put_fit i j).1, (put_fit i j).2.1⟩
    · exact ⟨(rest_fit i j).1, (rest_fit i j).2.1⟩
  · rw [all_moves ok]
    show 5 ≤ 48
    decide
  · by_cases c : j = 0
    · rw [c, moves0 ok]
      exact List.cons_ne_nil _ _
    · rw [moves1 ok c]
      exact List.cons_ne_nil _ _
theorem rows_at {ps : List (Addr × List V)} (ra : RowsAt K H ps) (hd : ∀ r ∈ ps.map (·.2), IsDo r) : TpAll K H (ps.map fun q => V.ref q.1) ((ps.map (·.2)).map rowD) := by
  refine tpa_rows fun r hr => ⟨ra r hr, ?_⟩
  obtain ⟨a, b, i, e, _, _, i0, _⟩ := hd r.2 (List.mem_map.mpr ⟨r, hr, rfl⟩)
  exact ⟨a, b, i.toNat, by rw [e, Int.toNat_of_nonneg i0]⟩
theorem seg8 (ok : R.Ok) (hs : Hs K D E R H x t lp lr ps rs) (k : ∀ H', Same H H' → rest Z (stR p l R (some (.ref x)) (some (.ref lp)) (some (.ref lr)) none none none none none none) H') :
    tSeq (q8 D E K) rest Z (stR p l R (some (.ref x)) (some (.ref lp)) (some (.ref lr)) none none none none none none) H := by
  have a0 := ok.a0
  have a1 := ok.a1
  refine seq_if (go_or (go_test (go_op (go_call ?_))))
  refine ⟨_, rfl, x, t, R.h, rfl, hs.ha, by show 2 ≤ 3; decide, fun v H1 s1 tv => ?_⟩
  have tv : Tp K H1 v (standD [R.a, 0] 0) := tv
  refine mk_stand (K := K) (IntT.v rfl) (IntT.c 0) (IntT.c 0) fun u H2 s2 tu => ?_
  refine ne_same (d := standD [R.a, 0] 0) (small_stand a0 (by omega) (by decide) (by decide) (by decide) (by decide)) (tv.same s2).dp tu.dp ⟨_, rfl, iteF ?_⟩
  have h2 := hs.same (s1.trans s2)
  refine go_test (go_op (go_call ?_))
  refine ⟨_, rfl, go_cons (mk_stand (K := K) (IntT.v rfl) (IntT.c 0) (IntT.c 0) fun w H3 s3 tw => ?_)⟩
  have h3 := h2.same s3
  refine sp_moves ok h3.ha a0 a1 (by decide) (by decide) (by decide) (by decide) tw fun m ms H4 s4 tm _ hm => ?_
  obtain ⟨pm, pw⟩ := hm (by show (0 : Int) ≠ 2; decide)
  rw [moves0 ok] at pm
  have em : ms = R.puts := rows_one (shape := shp) (fun r hr => (puts_do ok r (pm.mem_iff.mp hr)).fit) pw (put_sorted R) pm
  subst em
  have h4 := h3.same s4
  refine ⟨_, rfl, go_lst (go_cons (mk_night (K := K) fun g H5 s5 hg => ?_))⟩
  have h5 := h4.same s5
  refine ⟨sz (by decide : 1 ≤ 1000), fun c hc => ?_⟩
  have s6 := same_new hc (.lst [.ref g])
  have h6 := h5.same s6
  have hl : ps.length = 3 := by
    have := congrArg List.length hs.qp
    rw [List.length_map] at this
    exact this
  refine ⟨lp, c, _, _, rfl, rfl, h6.ep, upd_same, ?_, fun d hd => ?_⟩
  · rw [List.length_map, hl]
    exact sz (by decide : 4 ≤ 1000)
  have s7 := same_new hd (.lst (ps.map (fun q => V.ref q.1) ++ [.ref g]))
  refine ⟨d, _, rfl, .inl ⟨SqL.of upd_same, fun e he => ?_⟩⟩
  have s8 := same_new he (.tup (ps.map (fun q => V.ref q.1) ++ [.ref g]))
  have h8 := h6.same (s7.trans s8)
  have td : Tp K (upd (upd (upd H5 c (.lst [.ref g])) d (.lst (ps.map (fun q => V.ref q.1) ++ [.ref g]))) e (.tup (ps.map (fun q => V.ref q.1) ++ [.ref g]))) (.ref e) (.tuple (R.puts.map rowD ++ [MoveD.night.d])) := by
    refine .tup (SqT.of upd_same) (TpAll.append ?_ (.cons (tp_night (same_sqt (s6.trans (s7.trans s8)) hg)) .nil))
    have := rows_at h8.rp (by rw [h8.qp]; exact puts_do ok)
    rw [h8.qp] at this
    exact this
  refine ne_same (rows_small (puts_do ok) (by show 3 ≤ 20; decide)) ((tm.same (s5.trans (s6.trans (s7.trans s8)))).dp) td.dp ⟨_, rfl, iteF ?_⟩
  exact k _ (s1.trans (s2.trans (s3.trans (s4.trans (s5.trans (s6.trans (s7.trans s8)))))))
end
end Hx
set_option maxRecDepth 100000
set_option maxHeartbeats 1000000
/-! The run and its book. -/
namespace Hx
open PySem PySem.Spec PyProof.Rows L2
section
variable {K : PySem.W.Frag} {rest : TS} {Z : Ends} {D E p l : Addr} {R : Dr} {H : Hp}
theorem seg9 {y z w : Option V} (k : ∀ (a : Addr) H', Same H H' → Tp K H' (.ref a) (.tuple (R.ms.map MoveD.d)) → rest Z (stR p l R y z w (some (.ref a)) none none none none none) H') :
    tSeq q9 rest Z (stR p l R y z w none none none none none none) H := by
  refine seq_asg (go_tup (go_cons ?_))
  refine mk_do (K := K) (x := R.N.put) (y := R.N.ann) (z := R.c) rfl rfl (IntT.v rfl) fun a1 H1 s1 h1 => ?_
  refine go_cons (mk_night (K := K) fun a2 H2 s2 h2 => ?_)
  refine go_cons (mk_do (K := K) (x := R.N.put) (y := R.N.ann) (z := R.d) rfl rfl (IntT.v rfl) fun a3 H3 s3 h3 => ?_)
  refine go_cons (mk_do (K := K) (x := R.N.rest) (y := R.N.bob) (z := 0) rfl rfl (IntT.c 0) fun a4 H4 s4 h4 => ?_)
  refine go_cons (mk_night (K := K) fun a5 H5 s5 h5 => ?_)
  refine go_cons (mk_night (K := K) fun a6 H6 s6 h6 => ?_)
  refine ⟨sz (by decide : 6 ≤ 1000), fun c hc => ?_⟩
  have s7 := same_new hc (.tup [.ref a1, .ref a2, .ref a3, .ref a4, .ref a5, .ref a6])
  have t6 := s7
  have t5 := s6.trans t6
  have t4 := s5.trans t5
  have t3 := s4.trans t4
  have t2 := s3.trans t3
  have t1 := s2.trans t2
  refine k c _ (s1.trans t1) (.tup (SqT.of upd_same) ?_)
  exact .cons (tp_do (same_sqt t1 h1)) (.cons (tp_night (same_sqt t2 h2)) (.cons (tp_do (same_sqt t3 h3)) (.cons (tp_do (same_sqt t4 h4)) (.cons (tp_night (same_sqt t5 h5)) (.cons (tp_night (same_sqt t6 h6)) .nil)))))
theorem seg10 {y z w v : Option V} (k : rest Z (stR p l R y z w v (some (.int R.here)) (some (.int R.there)) none none none) H) :
    tSeq q10 (tSeq q11 rest) Z (stR p l R y z w v none none none none none) H := by
  refine seq_asg ?_
  refine ⟨_, rfl, _, rfl, R.a, R.c, rfl, rfl, _, rfl, _, R.b, rfl, rfl, .inl ⟨_, rfl, _, 4, rfl, rfl, by show (0 : Int) < 4; decide, ?_⟩⟩
  show tSeq q11 rest Z (stR p l R y z w v (some (.int R.here)) none none none none) H
  refine seq_asg ?_
  exact ⟨_, rfl, _, rfl, R.here, R.d, rfl, rfl, _, rfl, _, R.b, rfl, rfl, .inl ⟨_, rfl, _, 4, rfl, rfl, by show (0 : Int) < 4; decide, k⟩⟩
theorem mk_none {σ : L2.St} {H : Hp} {Q : VK} (k : ∀ a H', Same H H' → SqT K H' a [] → Q (.ref a) H') : tTup tNil σ H Q :=
  ⟨sz (by decide : 0 ≤ 1000), fun c hc => k _ _ (same_new hc _) (SqT.of upd_same)⟩
theorem seg12 {y z w v : Option V} (k : ∀ (a : Addr) H', Same H H' → Tp K H' (.ref a) (.tuple R.bk) → rest Z (stR p l R y z w v (some (.int R.here)) (some (.int R.there)) (some (.ref a)) none none) H') :
    tSeq q12 (tSeq (q13 K) rest) Z (stR p l R y z w v (some (.int R.here)) (some (.int R.there)) none none none) H := by
  refine seq_asg (go_tup (go_cons ?_))
  refine mk_row (K := K) (kd := R.N.kind) (an := R.N.ann) (x := R.here) (y := R.c) rfl rfl (IntT.v rfl) (IntT.v rfl) fun v1 H1 s1 h1 => ?_
  refine go_cons (mk_none (K := K) fun a2 H2 s2 h2 => ?_)
  refine go_cons (mk_row (K := K) (kd := R.N.kind) (an := R.N.ann) (x := R.there) (y := R.d) rfl rfl (IntT.v rfl) (IntT.v rfl) fun v3 H3 s3 h3 => ?_)
  refine ⟨sz (by decide : 3 ≤ 1000), fun c hc => ?_⟩
  have s4 := same_new hc (.tup [v1, .ref a2, v3])
  have hc4 : SqT K (upd H3 c (.tup [v1, .ref a2, v3])) c [v1, .ref a2, v3] := SqT.of upd_same
  generalize upd H3 c (.tup [v1, .ref a2, v3]) = H4 at s4 hc4
  show tSeq (q13 K) rest Z (stR p l R y z w v (some (.int R.here)) (some (.int R.there)) (some (.ref c)) none none) H4
  refine seq_asg (go_op ⟨_, rfl, go_tup (go_cons ?_)⟩)
  refine mk_row (K := K) (kd := R.N.kind) (an := R.N.ann) (x := 3) (y := 0) rfl rfl (IntT.c 3) (IntT.c 0) fun v5 H5 s5 h5 => ?_
  refine go_cons (mk_none (K := K) fun a6 H6 s6 h6 => ?_)
  refine go_cons (mk_none (K := K) fun a7 H7 s7 h7 => ?_)
  refine ⟨sz (by decide : 3 ≤ 1000), fun d hd => ?_⟩
  have s8 := same_new hd (.tup [v5, .ref a6, .ref a7])
  refine ⟨c, d, [v1, .ref a2, v3], [v5, .ref a6, .ref a7], rfl, rfl, same_sqt (s5.trans (s6.trans (s7.trans s8))) hc4, SqT.of upd_same, List.cons_ne_nil _ _, sz (by decide : 6 ≤ 1000), (fun z => by cases z), fun _ e he => ?_⟩
  have s9 := same_new he (.tup ([v1, .ref a2, v3] ++ [v5, .ref a6, .ref a7]))
  have t8 := s8.trans s9
  have t7 := s7.trans t8
  have t6 := s6.trans t7
  have t5 := s5.trans t6
  have t4 := s4.trans t5
  have t3 := s3.trans t4
  have t2 := s2.trans t3
  refine k e _ (s1.trans t2) (.tup (SqT.of upd_same) ?_)
  exact .cons (h1.same t2) (.cons (.tup (same_sqt t3 h2) .nil) (.cons (h3.same t4) (.cons (h5.same t6) (.cons (.tup (same_sqt t7 h6) .nil) (.cons (.tup (same_sqt t8 h7) .nil) .nil)))))
theorem small_end {R : Dr} (ok : R.Ok) : Small (.tuple [standD [R.there, 0] 0, .tuple R.bk]) := by
  have k := ok.n.apart.n5.1
  have a := ok.n.apart.n1.1
  obtain ⟨h0, h1⟩ := ok.here
  obtain ⟨t0, t1⟩ := ok.there
  have c0 := ok.c0
  have c1 := ok.c1
  have d0 := ok.d0
  have d1 := ok.d1
  have e : PyData.tuple [standD [R.there, 0] 0, .tuple R.bk] = .tuple [.tuple [.tuple [.int R.there, .int 0], .int 0], .tuple [.tuple [.tuple [.str R.N.kind, .tuple [.str R.N.ann, .int R.here, .int R.c]]], .tuple [], .tuple [.tuple [.str R.N.kind, .tuple [.str R.N.ann, .int R.there, .int R.d]]], .tuple [.tuple [.str R.N.kind, .tuple [.str R.N.ann, .int 3, .int 0]]], .tuple [], .tuple []]] := rfl
  rw [e]
  have z0 : (decide ((0 : Int) ≤ 0) && decide ((0 : Int) < 10)) = true := by decide
  have z3 : (decide ((0 : Int) ≤ 3) && decide ((3 : Int) < 10)) = true := by decide
  refine ⟨?_, ?_, ?_⟩
  · simp only [smB, smAll, k, a, z0, z3, decide_eq_true h0, decide_eq_true (by omega : R.here < 10), decide_eq_true t0, decide_eq_true (by omega : R.there < 10), decide_eq_true c0, decide_eq_true (by omega : R.c < 10), decide_eq_true (by omega : 0 ≤ R.d), decide_eq_true (by omega : R.d < 10), Bool.and_true]
  · simp [PyData.depth, PyData.depthAll]
  · simp [nodes, nodesAll]
theorem sp_led (ok : R.Ok) {x : Addr} {t : Str} (ha : HouseAt K D E H x t R.h) {v : V} {n : Nat} (hn : n ≤ 6) {Q : VK} (tv : Tp K H v (.tuple ((R.ms.take n).map MoveD.d))) (k : ∀ a H', Same H H' → Tp K H' a (.tuple [standD (R.st n).1 (R.st n).2, .tuple (R.bk.take n)]) → Q a H') : spLed D E K [.ref x, v] H Q E0 := by
  have ln : (R.ms.take n).length = n := by
    rw [List.length_take]
    exact Nat.min_eq_left hn
  refine ⟨x, t, R.h, v, R.ms.take n, R.st, R.bk.take n, rfl, ha, ok.ok.dn, by show 2 ≤ 3; decide, fun c hc => ?_, tv, course ok hn, fun a H' s ta => ?_⟩
  · have hc : c = ⟨R.N.tally, 4, R.a⟩ ∨ c = ⟨R.N.last, 3, 0⟩ := by simpa [Dr.h, Nms.house, Nms.cells] using hc
    rcases hc with rfl | rfl
    · show (4 : Int) ≠ 0
      decide
    · show (3 : Int) ≠ 0
      decide
  · rw [ln] at ta
    exact k a H' s ta
theorem seg14 (ok : R.Ok) {x lp lr rn bk : Addr} {t : Str} {ps rs : List (Addr × List V)} (hs : Hs K D E R H x t lp lr ps rs) (tr : Tp K H (.ref rn) (.tuple (R.ms.map MoveD.d))) (tb : Tp K H (.ref bk) (.tuple R.bk)) {σ : L2.St} (e13 : σ[13]? = some (some (.ref x))) (e16 : σ[16]? = some (some (.ref rn))) (e18 : σ[18]? = some (some (.int R.there))) (e19 : σ[19]? = some (some (.ref bk)))
    (k : ∀ H', Same H H' → rest Z σ H') : tSeq (q14 D E K) rest Z σ H := by
  refine seq_if (go_test (go_op (go_cb (go_cons (go_call ⟨_, e13, _, e16, ?_⟩)))))
  refine sp_led ok hs.ha (n := 6) (by decide) tr fun v H1 s1 tv => ?_
  have tv : Tp K H1 v (.tuple [standD [R.there, 0] 0, .tuple R.bk]) := tv
  refine ⟨v, _, rfl, tv, small_end ok, ?_⟩
  refine go_cb (go_cons (go_tup (go_cons ?_)))
  refine mk_stand (K := K) (IntT.v e18) (IntT.c 0) (IntT.c 0) fun u H2 s2 tu => ⟨_, e19, sz (by decide : 2 ≤ 1000), fun c hc => ?_⟩
  have s3 := same_new hc (.tup [u, .ref bk])
  have tc : Tp K (upd H2 c (.tup [u, .ref bk])) (.ref c) (.tuple [standD [R.there, 0] 0, .tuple R.bk]) := .tup (SqT.of upd_same) (.cons (tu.same s3) (.cons (tb.same (s1.trans (s2.trans s3))) .nil))
  refine ⟨_, _, rfl, tc, small_end ok, rfl, _, rfl, ?_⟩
  have e : (!decide (V.str (PyData.tuple [standD [R.there, 0] 0, .tuple R.bk]).shown = V.str (PyData.tuple [standD [R.there, 0] 0, .tuple R.bk]).shown)) = false := by
    rw [decide_eq_true rfl]
    rfl
  rw [e]
  exact iteF (k _ (s1.trans (s2.trans s3)))
end
end Hx
set_option maxRecDepth 100000
set_option maxHeartbeats 1000000
/-! The stands along the run, the moves there, the last night. -/
namespace Hx
open PySem PySem.Spec PyProof.Rows L2
theorem cut_take {xs : List V} {i : Nat} (h : i ≤ xs.length) : cutV xs none (some (0 + (i : Nat))) = xs.take i := by
  have e : HT.sIx xs.length xs.length (some (0 + (i : Nat))) = i := by
    show (if (0 + (i : Int)) < 0 then ((0 + (i : Int)) + (xs.length : Nat)).toNat else min (0 + (i : Int)).toNat xs.length) = i
    rw [if_neg (by omega)]
    omega
  show (xs.drop 0).take (HT.sIx xs.length xs.length (some (0 + (i : Nat))) - 0) = _
  rw [e]
  rfl
theorem cut_part {n i : Nat} (h : i < n) : ¬ (HT.sIx n 0 none = 0 ∧ HT.sIx n n (some (0 + (i : Nat))) = n) := fun ⟨_, z⟩ => by
  have e : HT.sIx n n (some (0 + (i : Nat))) = i := by
    show (if (0 + (i : Int)) < 0 then ((0 + (i : Int)) + (n : Nat)).toNat else min (0 + (i : Int)).toNat n) = i
    rw [if_neg (by omega)]
    omega
  omega
section
variable {K : PySem.W.Frag} {rest : TS} {Z : Ends} {D E p l : Addr} {R : Dr} {H : Hp}
theorem TpAll.take : ∀ {xs : List V} {ds : List PyData} (n : Nat), TpAll K H xs ds → TpAll K H (xs.take n) (ds.take n)
  | _, _, 0, _ => .nil
  | _, _, _ + 1, .nil => .nil
  | _, _, n + 1, .cons h t => .cons h (TpAll.take n t)
theorem tpa_any : ∀ {rs : List (Addr × List V)}, (∀ r ∈ rs, SqT K H r.1 r.2 ∧ TpAll K H r.2 (r.2.map vD)) → TpAll K H (rs.map fun q => V.ref q.1) ((rs.map (·.2)).map rowD)
  | [], _ => .nil
  | r :: rs, h => .cons (.tup (h r (List.mem_cons_self ..)).1 (h r (List.mem_cons_self ..)).2) (tpa_any fun q hq => h q (List.mem_cons_of_mem _ hq))
theorem IsDo.tpa {r : List V} (h : IsDo r) : TpAll K H r (r.map vD) := by
  obtain ⟨x, y, i, rfl, _⟩ := h
  exact .cons (.str _) (.cons (.str _) (.cons (.str _) (.cons (.int _) .nil)))
theorem tp_pair {v : V} {d e : PyData} (h : Tp K H v (.tuple [d, e])) : ∃ a u w, v = .ref a ∧ SqT K H a [u, w] ∧ Tp K H u d := by
  obtain ⟨a, xs, ea, ha, hxs⟩ := tp_tup h
  cases hxs with
  | cons tu h2 => cases h2 with
    | cons _ h3 => cases h3 with
      | nil => exact ⟨a, _, _, ea, ha, tu⟩
def Dr.stD (R : Dr) (i : Nat) : PyData := standD (R.st i).1 (R.st i).2
theorem seg15 (ok : R.Ok) {x lp lr rn : Addr} {t : Str} {ps rs : List (Addr × List V)} (hs : Hs K D E R H x t lp lr ps rs) (tr : Tp K H (.ref rn) (.tuple (R.ms.map MoveD.d))) {y17 y18 y19 : Option V}
    (k : ∀ (G : Addr) (ys : List V) H', Same H H' → H' G = some (.lst ys) → TpAll K H' ys ((List.range 5).map R.stD) → rest Z (stR p l R (some (.ref x)) (some (.ref lp)) (some (.ref lr)) (some (.ref rn)) y17 y18 y19 (some (.ref G)) none) H') :
    tSeq (q15 D E K) rest Z (stR p l R (some (.ref x)) (some (.ref lp)) (some (.ref lr)) (some (.ref rn)) y17 y18 y19 none none) H := by
  refine seq_asg ?_
  refine ⟨5, rfl, by decide, by decide, fun G hG => ?_⟩
  refine lc_it (walk_range (lo := 0) (n := 5)) (fun i H' => Same H H' ∧ ∃ ys : List V, H' G = some (.lst ys) ∧ TpAll K H' ys ((List.range i).map R.stD)) ⟨same_new hG _, [], upd_same, .nil⟩ (fun i H' _ z => trivial) ?_ ?_
  · rintro i w H1 H2 hi ⟨sm, ys, eG, ty⟩ ⟨rfl, rfl⟩
    refine ⟨rfl, yes ?_⟩
    have h2 := hs.same sm
    obtain ⟨ra, rx, er, hr, hx⟩ := tp_tup (tr.same sm)
    have er : rn = ra := V.ref.inj er
    subst er
    have ln := hx.length
    have ln : rx.length = 6 := ln
    refine go_op (go_call ⟨_, rfl, _, rfl, _, rfl, _, rfl, rn, rx, rfl, hr, cut_part (by omega), fun c hc => ?_⟩)
    rw [cut_take (by omega)]
    have s3 := same_new hc (.tup (rx.take i))
    refine sp_led ok (h2.same s3).ha (n := i) (by omega) (.tup (SqT.of upd_same) ?_) fun a H4 s4 ta => ?_
    · have := (hx.same s3).take i
      rw [← List.map_take] at this
      exact this
    · obtain ⟨a', u, w, ea, ha, tu⟩ := tp_pair ta
      have eG4 := s4 _ _ (s3 _ _ eG)
      refine ⟨a', [u, w], 0, u, ea, rfl, ha, rfl, ys, eG4, ?_, same_grow hG (sm.trans (s3.trans s4)), ys ++ [u], upd_same, ?_⟩
      · rw [ty.length, List.length_map, List.length_range]
        exact small1000 (by omega)
      · rw [List.range_succ, List.map_append]
        exact TpAll.append ((ty.same (s3.trans s4)).lst eG4) (.cons (tu.lst eG4) .nil)
  · rintro H' ⟨sm, ys, eG, ty⟩
    exact k G ys H' sm eG ty
theorem small_stands {R : Dr} (ok : R.Ok) : Small (.list ((List.range 5).map R.stD)) := by
  obtain ⟨h0, h1⟩ := ok.here
  obtain ⟨t0, t1⟩ := ok.there
  have a0 := ok.a0
  have a1 := ok.a1
  have c0 := ok.c0
  have c1 := ok.c1
  have d0 := ok.d0
  have d1 := ok.d1
  have all : ∀ d ∈ (List.range 5).map R.stD, Small d ∧ d.depth ≤ 2 ∧ nodes d ≤ 10 := fun d hd => by
    obtain ⟨i, hi, rfl⟩ := List.mem_map.mp hd
    have hi := List.mem_range.mp hi
    have f : ∀ x y n : Int, (standD [x, y] n).depth ≤ 2 ∧ nodes (standD [x, y] n) ≤ 10 := fun x y n => by
      show PyData.depth (.tuple [.tuple [.int x, .int y], .int n]) ≤ 2 ∧ nodes (.tuple [.tuple [.int x, .int y], .int n]) ≤ 10
      simp [PyData.depth, PyData.depthAll, nodes, nodesAll]
    match i, hi with
    | 0, _ => exact ⟨small_stand (x := R.a) (y := 0) (n := 0) a0 (by omega) (by decide) (by decide) (by decide) (by decide), f _ _ _⟩
    | 1, _ => exact ⟨small_stand (x := R.here) (y := R.c) (n := 1) h0 (by omega) c0 (by omega) (by decide) (by decide), f _ _ _⟩
    | 2, _ => exact ⟨small_stand (x := R.here) (y := R.c) (n := 0) h0 (by omega) c0 (by omega) (by decide) (by decide), f _ _ _⟩
    | 3, _ => exact ⟨small_stand (x := R.there) (y := R.d) (n := 1) t0 (by omega) (by omega) (by omega) (by decide) (by decide), f _ _ _⟩
    | 4, _ => exact ⟨small_stand (x := R.there) (y := 0) (n := 2) t0 (by omega) (by decide) (by decide) (by decide) (by decide), f _ _ _⟩
  refine ⟨?_, ?_, ?_⟩
  · simp only [smB]
    exact sm_forall fun d hd => (all d hd).1.b
  · have := dep_forall fun d hd => (all d hd).2.1
    simp only [PyData.depth]
    omega
  · have := nodes_forall fun d hd => (all d hd).2.2
    rw [List.length_map, List.length_range] at this
    simp only [nodes]
    omega
theorem seg16 (ok : R.Ok) {G : Addr} {ys : List V} (eG : H G = some (.lst ys)) (ty : TpAll K H ys ((List.range 5).map R.stD)) {σ : L2.St} (e9 : σ[9]? = some (some (.int R.a))) (e11 : σ[11]? = some (some (.int R.c))) (e12 : σ[12]? = some (some (.int R.d))) (e17 : σ[17]? = some (some (.int R.here))) (e18 : σ[18]? = some (some (.int R.there))) (e20 : σ[20]? = some (some (.ref G)))
    (k : ∀ H', Same H H' → rest Z σ H') : tSeq (q16 K) rest Z σ H := by
  refine seq_if (go_test (go_op ⟨_, e20, go_lst (go_cons ?_)⟩))
  refine mk_stand (K := K) (IntT.v e9) (IntT.c 0) (IntT.c 0) fun v1 H1 s1 h1 => ?_
  refine go_cons (mk_stand (K := K) (IntT.v e17) (IntT.v e11) (IntT.c 1) fun v2 H2 s2 h2 => ?_)
  refine go_cons (mk_stand (K := K) (IntT.v e17) (IntT.v e11) (IntT.c 0) fun v3 H3 s3 h3 => ?_)
  refine go_cons (mk_stand (K := K) (IntT.v e18) (IntT.v e12) (IntT.c 1) fun v4 H4 s4 h4 => ?_)
  refine go_cons (mk_stand (K := K) (IntT.v e18) (IntT.c 0) (IntT.c 2) fun v5 H5 s5 h5 => ?_)
  refine ⟨sz (by decide : 5 ≤ 1000), fun c hc => ?_⟩
  have s6 := same_new hc (.lst [v1, v2, v3, v4, v5])
  have t5 := s5.trans s6
  have t4 := s4.trans t5
  have t3 := s3.trans t4
  have t2 := s2.trans t3
  have t1 := s1.trans t2
  refine ne_same (small_stands ok) (.lst (SqL.of (t1 _ _ eG)) (ty.same t1).dp) (.lst (SqL.of upd_same) (TpAll.dp ?_)) ⟨_, rfl, iteF (k _ t1)⟩
  exact .cons (h1.same t2) (.cons (h2.same t3) (.cons (h3.same t4) (.cons (h4.same t5) (.cons (h5.same s6) .nil))))
theorem seg17 (ok : R.Ok) {x lp lr : Addr} {t : Str} {ps rs : List (Addr × List V)} (hs : Hs K D E R H x t lp lr ps rs) {y16 y17 y18 y19 y20 : Option V}
    (k : ∀ (e : Addr) (rows : List (List V)) H', Same H H' → Tp K H' (.ref e) (.tuple (rows.map rowD)) → rows.Perm (R.puts ++ R.rests ++ [[V.str "night"]]) → (rows.Pairwise fun x y => rowLt y x = false) → rest Z (stR p l R (some (.ref x)) (some (.ref lp)) (some (.ref lr)) y16 y17 y18 y19 y20 (some (.ref e))) H') :
    tSeq (q17 K) rest Z (stR p l R (some (.ref x)) (some (.ref lp)) (some (.ref lr)) y16 y17 y18 y19 y20 none) H := by
  have d0 := ok.d0
  have l1 : ps.length = 3 := by
    have := congrArg List.length hs.qp
    rw [List.length_map] at this
    exact this
  have l2 : rs.length = 2 := by
    have := hs.qr.length_eq
    rw [List.length_map] at this
    exact this
  refine seq_asg (go_cb (go_cons (go_cb (go_cons (go_op (go_op ⟨_, rfl, _, rfl, rfl, _, rfl, ?_⟩))))))
  have e : (!decide (V.int R.d = V.int 0)) = true := by
    rw [decide_eq_false (fun z => by have := V.int.inj z; omega)]
    rfl
  rw [e]
  refine iteT ⟨_, rfl, lp, lr, _, _, rfl, rfl, hs.ep, hs.er, ?_, fun m hm => ?_⟩
  · rw [List.length_map, List.length_map, l1, l2]
    exact sz (by decide : 5 ≤ 1000)
  have s1 := same_new hm (.lst (ps.map (fun q => V.ref q.1) ++ rs.map fun q => V.ref q.1))
  have em : (upd H m (.lst (ps.map (fun q => V.ref q.1) ++ rs.map fun q => V.ref q.1))) m = some (.lst (ps.map (fun q => V.ref q.1) ++ rs.map fun q => V.ref q.1)) := upd_same
  generalize upd H m (.lst (ps.map (fun q => V.ref q.1) ++ rs.map fun q => V.ref q.1)) = H1 at s1 em
  refine go_lst (go_cons (mk_night (K := K) fun g H2 s2 hg => ⟨sz (by decide : 1 ≤ 1000), fun c hc => ?_⟩))
  have s3 := same_new hc (.lst [.ref g])
  have ec : (upd H2 c (.lst [.ref g])) c = some (.lst [.ref g]) := upd_same
  generalize upd H2 c (.lst [.ref g]) = H3 at s3 ec
  refine ⟨m, c, _, _, rfl, rfl, s3 _ _ (s2 _ _ em), ec, ?_, fun n hn => ?_⟩
  · rw [List.length_append, List.length_map, List.length_map, l1, l2]
    exact sz (by decide : 6 ≤ 1000)
  have s4 := same_new hn (.lst (ps.map (fun q => V.ref q.1) ++ (rs.map fun q => V.ref q.1) ++ [.ref g]))
  have en : (upd H3 n (.lst (ps.map (fun q => V.ref q.1) ++ (rs.map fun q => V.ref q.1) ++ [.ref g]))) n = some (.lst (ps.map (fun q => V.ref q.1) ++ (rs.map fun q => V.ref q.1) ++ [.ref g])) := upd_same
  generalize upd H3 n (.lst (ps.map (fun q => V.ref q.1) ++ (rs.map fun q => V.ref q.1) ++ [.ref g])) = H4 at s4 en
  have h4 := hs.same (s1.trans (s2.trans (s3.trans s4)))
  have hg4 := same_sqt (s3.trans s4) hg
  have all : ∀ q ∈ ps ++ rs ++ [(g, [V.str "night"])], SqT K H4 q.1 q.2 ∧ (IsDo q.2 ∨ q.2 = [V.str "night"]) := fun q hq => by
    rcases List.mem_append.mp hq with hq | hq
    · rcases List.mem_append.mp hq with hq | hq
      · exact ⟨h4.rp q hq, .inl (puts_do ok _ (by rw [← hs.qp]; exact List.mem_map.mpr ⟨q, hq, rfl⟩))⟩
      · exact ⟨h4.rr q hq, .inl (rests_do ok _ (hs.qr.mem_iff.mp (List.mem_map.mpr ⟨q, hq, rfl⟩)))⟩
    · rw [List.mem_singleton.mp hq]
      exact ⟨hg4, .inr rfl⟩
  have pm0 : ((ps ++ rs ++ [(g, [V.str "night"])]).map (·.2)).Perm (R.puts ++ R.rests ++ [[V.str "night"]]) := by
    rw [List.map_append, List.map_append, hs.qp]
    exact (hs.qr.append_left _).append_right _
  refine ⟨n, ps ++ rs ++ [(g, [V.str "night"])], shp, rfl, ?_, fun q hq => ⟨(all q hq).1, ?_⟩, ?_, fun qs G pm pw hG => ?_⟩
  · rw [List.map_append, List.map_append]
    exact SqL.of en
  · rcases (all q hq).2 with ⟨a, b, i, e, _⟩ | e
    · rw [e]
      exact ⟨List.cons_ne_nil _ _, rfl⟩
    · rw [e]
      exact ⟨List.cons_ne_nil _ _, rfl⟩
  · rw [List.length_append, List.length_append, l1, l2]
    show 6 ≤ 900
    decide
  have s5 := same_new hG (.lst (qs.map fun q => V.ref q.1))
  refine ⟨G, _, rfl, .inl ⟨SqL.of upd_same, fun e he => ?_⟩⟩
  have s6 := same_new he (.tup (qs.map fun q => V.ref q.1))
  refine k e (qs.map (·.2)) _ (s1.trans (s2.trans (s3.trans (s4.trans (s5.trans s6))))) (.tup (SqT.of upd_same) (tpa_any fun q hq => ?_)) ((pm.map _).trans pm0) (List.pairwise_map.mpr pw)
  obtain ⟨u1, u2⟩ := all q (pm.mem_iff.mp hq)
  refine ⟨same_sqt (s5.trans s6) u1, ?_⟩
  rcases u2 with u2 | u2
  · exact u2.tpa
  · rw [u2]
    exact .cons (.str _) .nil
end
end Hx
set_option maxRecDepth 100000
set_option maxHeartbeats 1000000
/-! The law's own look, whole. -/
namespace Hx
open PySem PySem.Spec PyProof.Rows L2
section
variable {K : PySem.W.Frag} {rest : TS} {Z : Ends} {D E p l : Addr} {R : Dr} {H : Hp}
theorem go_ixl {a b : TE} {σ : L2.St} {H : Hp} {Q : VK} (h : a σ H fun x H1 => b σ H1 fun y H2 => rIxL K x y H2 Q) : tOp (rIxL K) a b σ H Q := h
theorem perm_do (ok : R.Ok) {ms : List (List V)} (pm : ms.Perm (R.puts ++ R.rests)) : ∀ r ∈ ms, IsDo r := fun r hr => by
  rcases List.mem_append.mp (pm.mem_iff.mp hr) with h | h
  · exact puts_do ok r h
  · exact rests_do ok r h
theorem five_of {ys : List V} (ty : TpAll K H ys ((List.range 5).map R.stD)) : ∃ u v, ys[3]? = some u ∧ ys[4]? = some v ∧ Tp K H u (standD [R.there, R.d] 1) ∧ Tp K H v (standD [R.there, 0] 2) := by
  obtain ⟨u, eu, tu⟩ := ty.at (i := 3) (d := standD [R.there, R.d] 1) rfl
  obtain ⟨v, ev, tv⟩ := ty.at (i := 4) (d := standD [R.there, 0] 2) rfl
  exact ⟨u, v, eu, ev, tu, tv⟩
theorem atI_nat {ys : List V} {i : Nat} {v : V} (h : ys[i]? = some v) : atI ys (i : Int) = some v := by
  have hi : i < ys.length := (List.getElem?_eq_some_iff.mp h).1
  have e : ixN ys.length (i : Int) = some i := by
    unfold ixN
    rw [if_pos (by omega), if_pos (by omega)]
    rfl
  show (ixN ys.length (i : Int)).bind _ = _
  rw [e]
  exact h
theorem seg18 (ok : R.Ok) {x lp lr G du : Addr} {t : Str} {ps rs : List (Addr × List V)} {ys : List V} {rows : List (List V)} (hs : Hs K D E R H x t lp lr ps rs) (eG : H G = some (.lst ys)) (ty : TpAll K H ys ((List.range 5).map R.stD)) (td : Tp K H (.ref du) (.tuple (rows.map rowD))) (pr : rows.Perm (R.puts ++ R.rests ++ [[V.str "night"]])) (pw : rows.Pairwise fun x y => rowLt y x = false)
    {σ : L2.St} (e13 : σ[13]? = some (some (.ref x))) (e20 : σ[20]? = some (some (.ref G))) (e21 : σ[21]? = some (some (.ref du)))
    (k : ∀ H', Same H H' → rest Z σ H') : tSeq (q18 D E K) rest Z σ H := by
  obtain ⟨t0, t1⟩ := ok.there
  have d0 := ok.d0
  have d1 := ok.d1
  obtain ⟨u, v, eu, ev, tu, tv⟩ := five_of ty
  refine seq_if (go_or (go_test (go_op (go_call ⟨_, e13, go_cons (go_ixl ⟨_, e20, G, ys, 3, u, rfl, rfl, SqL.of eG, atI_nat (i := 3) eu, ?_⟩)⟩))))
  refine sp_moves ok hs.ha (i := R.there) (j := R.d) (n := 1) t0 t1 (by omega) d1 (by decide) (by decide) tu fun m ms H1 s1 tm _ hm => ?_
  obtain ⟨pm, pq⟩ := hm (by show (1 : Int) ≠ 2; decide)
  rw [moves1 ok (by omega)] at pm
  have md := perm_do ok pm
  have er : rows = ms ++ [[V.str "night"]] := by
    refine rows_one (shape := shp) (fun r hr => ?_) pw (with_night md pq) (pr.trans (pm.symm.append_right _))
    rcases List.mem_append.mp (pr.mem_iff.mp hr) with h | h
    · rcases List.mem_append.mp h with h | h
      · exact (puts_do ok r h).fit
      · exact (rests_do ok r h).fit
    · rw [List.mem_singleton.mp h]
      exact night_fit
  subst er
  rw [List.map_append] at td
  have few : ms.length ≤ 20 := by
    have := pm.length_eq
    have e : (R.puts ++ R.rests).length = 5 := rfl
    omega
  refine ⟨_, e21, ne_same (rows_small md few) tm.dp (td.same s1).dp ⟨_, rfl, iteF ?_⟩⟩
  have h1 := hs.same s1
  refine go_test (go_op (go_call ⟨_, e13, go_cons (go_ixl ⟨_, e20, G, ys, 4, v, rfl, rfl, SqL.of (s1 _ _ eG), atI_nat (i := 4) ev, ?_⟩)⟩))
  refine sp_moves ok h1.ha (i := R.there) (j := 0) (n := 2) t0 t1 (by decide) (by decide) (by decide) (by decide) (tv.same s1) fun m2 ms2 H2 s2 tm2 hm2 _ => ?_
  have e2 : ms2 = [] := hm2 rfl
  subst e2
  refine go_tup (go_cons (mk_night (K := K) fun g H3 s3 hg => ⟨sz (by decide : 1 ≤ 1000), fun c hc => ?_⟩))
  have s4 := same_new hc (.tup [.ref g])
  refine ne_same (d := .tuple [MoveD.night.d]) (rows_small (rs := []) (fun r hr => by cases hr) (by decide)) (tm2.same (s3.trans s4)).dp (Tp.dp (.tup (SqT.of upd_same) (.cons (tp_night (same_sqt s4 hg)) .nil))) ⟨_, rfl, iteF (k _ (s1.trans (s2.trans (s3.trans s4))))⟩
theorem seg19 (ok : R.Ok) {x lp lr : Addr} {t : Str} {ps rs : List (Addr × List V)} (hs : Hs K D E R H x t lp lr ps rs) {σ : L2.St} (e13 : σ[13]? = some (some (.ref x))) (e18 : σ[18]? = some (some (.int R.there))) (k : ∀ H', Same H H' → Z.rt (.bl true) H') : q19 D E K Z σ H := by
  obtain ⟨t0, t1⟩ := ok.there
  show tOp (rEqD K) _ _ σ H Z.rt
  refine go_op (go_call ⟨_, e13, go_cons ?_⟩)
  refine mk_stand (K := K) (IntT.v e18) (IntT.c 0) (IntT.c 2) fun v H1 s1 tv => ?_
  refine go_cons (mk_night (K := K) fun g H2 s2 hg => ?_)
  have h2 := hs.same (s1.trans s2)
  refine ⟨x, t, R.h, v, .ref g, [R.there, 0], 2, .night, standD [R.there, 0] 0, .tuple [], rfl, h2.ha, ok.ok.dn, by show 2 ≤ 3; decide, fits_two t0 t1 (by decide) (by decide), by decide, by show (2 : Int) ≤ 2; decide, fun c hc => ?_, tv.same s2, tp_night hg, .night, .night, .night, fun a H3 s3 ta => ?_⟩
  · have hc : c = ⟨R.N.tally, 4, R.a⟩ ∨ c = ⟨R.N.last, 3, 0⟩ := by simpa [Dr.h, Nms.house, Nms.cells] using hc
    rcases hc with rfl | rfl
    · show (4 : Int) ≠ 0
      decide
    · show (3 : Int) ≠ 0
      decide
  refine go_tup (go_cons (mk_stand (K := K) (IntT.v e18) (IntT.c 0) (IntT.c 0) fun u H4 s4 tu => ?_))
  refine go_cons (mk_none (K := K) fun c H5 s5 hc => ?_)
  refine ⟨sz (by decide : 2 ≤ 1000), fun d hd => ?_⟩
  have s6 := same_new hd (.tup [u, .ref c])
  have sm : Small (.tuple [standD [R.there, 0] 0, .tuple []]) := by
    have e : PyData.tuple [standD [R.there, 0] 0, .tuple []] = .tuple [.tuple [.tuple [.int R.there, .int 0], .int 0], .tuple []] := rfl
    rw [e]
    refine ⟨?_, ?_, ?_⟩
    · have z0 : (decide ((0 : Int) ≤ 0) && decide ((0 : Int) < 10)) = true := by decide
      simp only [smB, smAll, z0, decide_eq_true t0, decide_eq_true (by omega : R.there < 10), Bool.and_true]
    · simp [PyData.depth, PyData.depthAll]
    · simp [nodes, nodesAll]
  exact eq_same sm (ta.same (s4.trans (s5.trans s6))).dp (Tp.dp (.tup (SqT.of upd_same) (.cons (tu.same (s5.trans s6)) (.cons (.tup (same_sqt s6 hc) .nil) .nil)))) (k _ (s1.trans (s2.trans (s3.trans (s4.trans (s5.trans s6))))))
end
theorem right_reads {K : PySem.W.Frag} {D E : Addr} (p : Addr) (c : Int) (H : Hp) (Q : VK) (hp : Pot H p c) (hc : c ≤ 800) (k : ∀ H', Bar p H H' → Pot H' p (c + 11) → Q (.bl true) H') : rdRight D E K { nx := fun _ H' => Q V.non H', rt := Q } (start nRight [V.ref p]) H := by
  unfold rdRight
  refine segA hp hc fun l R H1 ok b1 p1 hl => ?_
  show tSeq (q5 D E K) _ _ (stR p l R none none none none none none none none none) H1
  refine seg5 ok hl fun x t H2 s2 ha => ?_
  refine seg6 (K := K) fun lp ps H3 s3 ep rp qp => ?_
  refine seg7 (K := K) fun lr rs H4 s4 er rr qr => ?_
  have h4 : Hs K D E R H4 x t lp lr ps rs := ⟨ha.same (s3.trans s4), s4 _ _ ep, fun q hq => same_sqt s4 (rp q hq), qp, er, rr, qr⟩
  refine seg8 ok h4 fun H5 s5 => ?_
  refine seg9 (K := K) fun rn H6 s6 tr => ?_
  refine seg10 ?_
  refine seg12 (K := K) fun bk H7 s7 tb => ?_
  have h7 := h4.same (s5.trans (s6.trans s7))
  have tr7 := tr.same s7
  refine seg14 ok h7 tr7 tb rfl rfl rfl rfl fun H8 s8 => ?_
  refine seg15 ok (h7.same s8) (tr7.same s8) fun G ys H9 s9 eG ty => ?_
  refine seg16 ok eG ty rfl rfl rfl rfl rfl rfl fun H10 s10 => ?_
  refine seg17 ok (h7.same (s8.trans (s9.trans s10))) fun du rows H11 s11 td pr pw => ?_
  have t11 := s10.trans s11
  refine seg18 ok (h7.same (s8.trans (s9.trans t11))) (t11 _ _ eG) (ty.same t11) td pr pw rfl rfl rfl fun H12 s12 => ?_
  refine seg19 ok (h7.same (s8.trans (s9.trans (t11.trans s12)))) rfl rfl fun H13 s13 => ?_
  have s : Same H1 H13 := s2.trans (s3.trans (s4.trans (s5.trans (s6.trans (s7.trans (s8.trans (s9.trans (t11.trans (s12.trans s13)))))))))
  exact k H13 (b1.trans (Bar.of s)) (p1.same s)
theorem ok_right {P : Program} {w : World} {K : PySem.W.Frag} {mg : Str → Option Value} {base : Heap} {D E : Addr} {f : Addr} {fd : FuncData} (F : Fun K "_law_right" "_law_right" sRight f fd) (T : RTxt P w K mg base D E) : FnG P w K mg base 9 f fd ["_law_pot"] spRight :=
  ok_right0 F T right_reads
end Hx
set_option maxRecDepth 100000
set_option maxHeartbeats 1000000
namespace Hx
open PySem PySem.Spec PyProof.Rows L2
abbrev nLaw : List Str := ["_law_script", "_law_k", "_law_pot", "_law_turn"]
theorem scLaw : FnScope nLaw ["_law_script"] (defScope sLaw) := ⟨rfl, rfl, rfl, by decide +kernel, rfl, by decide +kernel, by decide +kernel⟩
def spLaw (K : PySem.W.Frag) : Sp := fun vs H Q _ => ∃ (a : Addr) (ns : List Int), vs = [.ref a] ∧ SqL K H a (ns.map V.int) ∧ ∀ H', Q (.bl true) H'
theorem sql_same {K : PySem.W.Frag} {H H' : Hp} {a : Addr} {xs : List V} (s : Same H H') (h : SqL K H a xs) : SqL K H' a xs := by
  rcases h with (h | ⟨o, h⟩) | h
  · exact .inl (.inl (s _ _ h))
  · exact .inl (.inr ⟨o, s _ _ h⟩)
  · exact .inr h
theorem bar_new {p : Addr} {H H' : Hp} {o : HO} (h : H p = none) (b : Bar p (upd H p o) H') : Same H H' := fun c u e => by
  have n := ne_of_none e h
  exact b c u n (by rw [upd_ne n]; exact e)
theorem pot_some {H : Hp} {p : Addr} {c : Int} (h : Pot H p c) : ∃ o, H p = some o := by
  obtain ⟨A, B, C, e, _⟩ := h
  exact ⟨_, e⟩
def tTurn : TE := fun σ H Q => tCons (tVar 2) tNil σ H fun vs H1 => spRight vs H1 Q E0
/-- [right(pot) for turn in range(4)] -/
theorem lc_turns {σ : L2.St} {H : Hp} {p : Addr} {Q : VK} (e2 : σ[2]? = some (some (.ref p))) (hp : Pot H p 0)
    (k : ∀ D H', D ≠ p → Bar p H H' → H' D = some (.lst ((List.replicate 3 true).map V.bl)) → Q (.ref D) H') :
    tLc (iRng1 (tCons (tC (.int 3)) tNil)) (gName 3) tYes tTurn [3] σ H Q := by
  refine ⟨3, rfl, by decide, by decide, fun D hD => ?_⟩
  obtain ⟨o, ep⟩ := pot_some hp
  have nD : p ≠ D := ne_of_none ep hD
  refine lc_range (fun j H' => Bar p H H' ∧ Pot H' p (11 * (j : Nat)) ∧ H' D = some (.lst ((List.replicate j true).map V.bl))) ⟨Bar.new hD _, ?_, upd_same⟩ ?_ ?_
  · exact hp.new hD _
  · rintro j H' hj ⟨b, pt, eD⟩
    have hj4 : j < 3 := hj
    refine ⟨set2, yes ⟨_, get_other e2 (by decide), p, 11 * (j : Nat), rfl, pt, by omega, fun H3 b3 pt3 => ?_⟩⟩
    have eD3 := b3 D _ nD.symm eD
    refine ⟨_, eD3, ?_, ?_, ?_, ?_⟩
    · rw [List.length_map, List.length_replicate]
      exact small1000 (by omega)
    · intro c u n e
      rw [upd_ne (ne_of_none e hD)]
      exact (b.trans b3) c u n e
    · obtain ⟨A, B, C, e, r⟩ := pt3
      refine ⟨A, B, C, by rw [upd_ne nD]; exact e, ?_⟩
      obtain ⟨r1, r2, r3, r4, r5⟩ := r
      exact ⟨r1, r2, r3, r4, by omega⟩
    · rw [upd_same, List.replicate_succ', List.map_append]
      rfl
  · rintro H' ⟨b, pt, eD⟩
    exact k D H' nD.symm b eD
theorem turn_ok {K : PySem.W.Frag} {A : TS} {D : Ends} {σ : L2.St} {H : Hp} {p : Addr} (e2 : σ[2]? = some (some (.ref p))) (hp : Pot H p 0) (k : ∀ H', Bar p H H' → D.nx σ H') :
    tIfS (tNot (tB (tCB (rAll K) (tCons (tLc (iRng1 (tCons (tC (.int 3)) tNil)) (gName 3) tYes tTurn [3]) tNil)))) A tNext D σ H := by
  show tLc (iRng1 (tCons (tC (.int 3)) tNil)) (gName 3) tYes tTurn [3] σ H fun x H1 => rAll K [x] H1 fun y H2 => ∃ b, y = .bl b ∧ if (!b) = true then A D σ H2 else D.nx σ H2
  refine lc_turns e2 hp fun l H1 n b e => ⟨l, _, rfl, SqL.of e, _, rfl, ?_⟩
  exact iteF (k H1 b)
section
variable {P : Program} {w : World} {K : PySem.W.Frag} {mg : Str → Option Value} {base : Heap}
theorem ok_law {f fr : Addr} {fd dr : FuncData} (F : Fun K "law" "law" sLaw f fd)
    (GR : FnG P w K mg base 9 fr dr ["_law_pot"] spRight) (bR : Binds K dr ["_law_pot"] []) (kR : PySem.W.keepIn K (.ref fr) = true) (mR : mg "_law_right" = some (.ref fr))
    (GP : DefOk P w K mg base "_law_pot_of" 1 ["_law_script", "_law_k"] (spPot K))
    (mr : mg "range" = none) (mx : mg "max" = none) (mn : mg "min" = none) (ml : mg "len" = none) (ma : mg "all" = none) : FnG P w K mg base 10 f fd ["_law_script"] (spLaw K) := by
  refine F.okG scLaw (fun vs H Q E h => ?_) (fun cdv A outer s H vs Q hA hr h => ?_)
  · obtain ⟨a, ns, rfl, _⟩ := h
    rfl
  obtain ⟨a, ns, rfl, hS, q⟩ := h
  have hA' : (A.deeper (envOfC "law" (defScope sLaw) s.heap.objs.size f cdv)).guards = some [] := hA
  have hr1 : Room 1 (A.deeper (envOfC "law" (defScope sLaw) s.heap.objs.size f cdv)) := hr.mono (by decide)
  have nd := scLaw.nd
  refine ⟨_, pss_cons (ps_for PassesOwn.never rfl (pi_range1 rfl mr (pa_cons (pe_callB (call_max2 rfl) rfl mx PyProof.Rows.Boot.«max» (pa_cons pe_int (pa_cons (pe_callB (call_min2 rfl) rfl mn PyProof.Rows.Boot.«min» (pa_cons pe_int (pa_cons (pe_callB call_len_seq rfl ml PySem.boot_len (pa_cons (pv 0) pa_nil)) pa_nil))) pa_nil))) pa_nil))
      (pg_name (i := 1) nd rfl (.inl rfl))
      (pss_cons (ps_set (i := 2) nd rfl (.inr rfl) (pe_D GP hr1 rfl (pa_cons (pv 0) (pa_cons (pv 1) pa_nil))))
      (pss_one (ps_if (pt_not (pt_val (pe_callB (cr_all rfl) rfl ma PyProof.Rows.boot_all (pa_cons (pe_lc (own := [("_law_turn", 3)]) (g := gName 3) (tt := tYes) rfl nd (pi_range1 rfl mr (pa_cons pe_int pa_nil)) (blkOk_by (N := nLaw) (sc := defScope sLaw) (by decide +kernel)) (fun _ _ _ _ _ => pg_name (i := 3) nd rfl (Or.inl rfl)) (fun _ _ _ _ _ => pts_nil)
          (fun _ _ _ _ _ => pe_callG GR hA' hr rfl mR kR bR (pa_cons (pv 2) pa_nil))) pa_nil)))) (pss_one (ps_ret pe_bl)) pss_nil))))
    (pss_one (ps_ret pe_bl)), ?_⟩
  refine ⟨_, rfl, a, _, rfl, .inl hS, _, _, rfl, _, _, rfl, _, rfl, ?_⟩
  rw [List.length_map]
  have small : ∃ m : Nat, m ≤ 4 ∧ (if (if ((ns.length : Nat) : Int) < 4 then ((ns.length : Nat) : Int) else 4) > 1 then (if ((ns.length : Nat) : Int) < 4 then ((ns.length : Nat) : Int) else 4) else 1) = (m : Int) := by
    by_cases h1 : ((ns.length : Nat) : Int) < 4
    · rw [if_pos h1]
      by_cases h2 : ((ns.length : Nat) : Int) > 1
      · exact ⟨ns.length, by omega, if_pos h2⟩
      · exact ⟨1, by decide, if_neg h2⟩
    · rw [if_neg h1]
      exact ⟨4, by decide, if_pos (by decide)⟩
  obtain ⟨m, m4, em⟩ := small
  rw [em]
  refine ⟨by omega, by omega, for_range (fun i σ H' => ∃ (t1 t2 : Option V), σ = [some (.ref a), t1, t2, none] ∧ SqL K H' a (ns.map V.int)) ⟨none, none, rfl, hS⟩ ?_ ?_⟩
  · rintro i σ H1 hi ⟨t1, t2, rfl, hS1⟩
    have hi4 : i < 4 := by
      have z : ((m : Int)).toNat = m := Int.toNat_natCast m
      omega
    refine ⟨_, rfl, _, rfl, a, ns, _, rfl, hS1, by omega, by omega, fun p A0 B0 hp hA0 hB0 hB1 => ?_⟩
    generalize eH2 : upd H1 p (.lst [.int A0, .int B0, .int 0]) = H2
    have p2 : H2 p = some (.lst [.int A0, .int B0, .int 0]) := by rw [← eH2]; exact upd_same
    refine turn_ok (K := K) (A := tRet (tC (.bl false))) (p := p) (σ := [some (.ref a), some (.int (0 + (i : Nat))), some (.ref p), none]) rfl ⟨A0, B0, 0, p2, hA0, hB0, hB1, by decide, by decide⟩ fun H3 b => ?_
    refine ⟨_, _, rfl, sql_same (bar_new hp (o := .lst [.int A0, .int B0, .int 0]) ?_) hS1⟩
    rw [eH2]
    exact b
  · rintro σ H' ⟨t1, t2, rfl, hS'⟩
    exact q H'
end
end Hx
set_option maxRecDepth 100000
set_option maxHeartbeats 1000000
/-! What the law leans on, by the head's facts. -/
namespace Hx
open PySem PySem.Spec PyProof.Rows L2
open PySem.W (Frag nsIn keepIn)
def fa : List He.Fa := [
  .free "len",
  .free "all",
  .free "int",
  .free "set",
  .free "tuple",
  .free "isinstance",
  .free "bool",
  .free "zip",
  .free "list",
  .free "sorted",
  .free "range",
  .free "enumerate",
  .free "str",
  .free "repr",
  .free "abs",
  .free "max",
  .free "min",
  .glo "Lines",
  .cls "Lines",
  .mkr "Lines",
  .noat "Lines" "rows",
  .noat "Lines" "number",
  .glo "Deed",
  .cls "Deed",
  .mkr "Deed",
  .noat "Deed" "name",
  .noat "Deed" "by",
  .noat "Deed" "tests",
  .noat "Deed" "pick",
  .noat "Deed" "changes",
  .noat "Deed" "rows",
  .glo "House",
  .cls "House",
  .mkr "House",
  .noat "House" "text",
  .noat "House" "people",
  .noat "House" "cells",
  .noat "House" "kinds",
  .noat "House" "deeds",
  .noat "House" "scripts",
  .noat "House" "doings",
  .noat "House" "day",
  .meth "Lines" "__init__",
  .meth "Lines" "need",
  .meth "Lines" "words_ahead",
  .meth "Lines" "is_next",
  .meth "Lines" "is_more",
  .meth "Lines" "take",
  .meth "Lines" "take_exactly",
  .meth "Lines" "take_end",
  .meth "Lines" "new_name",
  .meth "Lines" "place",
  .meth "Lines" "number_from",
  .meth "Deed" "__init__",
  .meth "House" "__init__",
  .glo "is_name",
  .keep "is_name",
  .glo "number_of",
  .keep "number_of",
  .glo "worked_out",
  .keep "worked_out",
  .glo "source_of_worth",
  .keep "source_of_worth",
  .glo "source_of_person",
  .keep "source_of_person",
  .glo "take_by",
  .keep "take_by",
  .glo "take_test",
  .keep "take_test",
  .glo "take_pick",
  .keep "take_pick",
  .glo "take_change",
  .keep "take_change",
  .glo "take_row",
  .keep "take_row",
  .glo "take_deed",
  .keep "take_deed",
  .glo "is_from",
  .keep "is_from",
  .glo "is_tuple_of",
  .keep "is_tuple_of",
  .glo "is_stand",
  .keep "is_stand",
  .glo "is_deed",
  .keep "is_deed",
  .glo "is_move",
  .keep "is_move",
  .glo "first_stand",
  .keep "first_stand",
  .glo "holds",
  .keep "holds",
  .glo "is_possible",
  .keep "is_possible",
  .glo "possible_moves",
  .keep "possible_moves",
  .glo "moves",
  .keep "moves",
  .glo "changed",
  .keep "changed",
  .glo "stand_behind",
  .keep "stand_behind",
  .glo "after",
  .keep "after",
  .glo "led",
  .keep "led",
  .glo "take_people",
  .keep "take_people",
  .glo "take_cell",
  .keep "take_cell",
  .glo "take_cells",
  .keep "take_cells",
  .glo "take_field",
  .keep "take_field",
  .glo "take_kind",
  .keep "take_kind",
  .glo "take_kinds",
  .keep "take_kinds",
  .glo "take_deeds",
  .keep "take_deeds",
  .glo "_law_pot_of",
  .keep "_law_pot_of",
  .glo "_law_take",
  .keep "_law_take",
  .glo "_law_unlike",
  .keep "_law_unlike",
  .glo "_law_house_text",
  .keep "_law_house_text",
  .glo "_law_right",
  .keep "_law_right",
  .glo "law",
  .keep "law"]
def fn : List He.FnD := [
  ⟨("Lines", some "__init__"), "__init__", "Lines.__init__", defArgs sLinesInit, defBody sLinesInit, defScope sLinesInit⟩,
  ⟨("Lines", some "need"), "need", "Lines.need", defArgs sNeed, defBody sNeed, defScope sNeed⟩,
  ⟨("Lines", some "words_ahead"), "words_ahead", "Lines.words_ahead", defArgs sWordsAhead, defBody sWordsAhead, defScope sWordsAhead⟩,
  ⟨("Lines", some "is_next"), "is_next", "Lines.is_next", defArgs sIsNext, defBody sIsNext, defScope sIsNext⟩,
  ⟨("Lines", some "is_more"), "is_more", "Lines.is_more", defArgs sIsMore, defBody sIsMore, defScope sIsMore⟩,
  ⟨("Lines", some "take"), "take", "Lines.take", defArgs sTake, defBody sTake, defScope sTake⟩,
  ⟨("Lines", some "take_exactly"), "take_exactly", "Lines.take_exactly", defArgs sExactly, defBody sExactly, defScope sExactly⟩,
  ⟨("Lines", some "take_end"), "take_end", "Lines.take_end", defArgs sTakeEnd, defBody sTakeEnd, defScope sTakeEnd⟩,
  ⟨("Lines", some "new_name"), "new_name", "Lines.new_name", defArgs sNewName, defBody sNewName, defScope sNewName⟩,
  ⟨("Lines", some "place"), "place", "Lines.place", defArgs sPlace, defBody sPlace, defScope sPlace⟩,
  ⟨("Lines", some "number_from"), "number_from", "Lines.number_from", defArgs sNumberFrom, defBody sNumberFrom, defScope sNumberFrom⟩,
  ⟨("Deed", some "__init__"), "__init__", "Deed.__init__", defArgs sDeedInit, defBody sDeedInit, defScope sDeedInit⟩,
  ⟨("House", some "__init__"), "__init__", "House.__init__", defArgs sHouse, defBody sHouse, defScope sHouse⟩,
  ⟨("is_name", none), "is_name", "is_name", defArgs sIsName, defBody sIsName, defScope sIsName⟩,
  ⟨("number_of", none), "number_of", "number_of", defArgs sNumberOf, defBody sNumberOf, defScope sNumberOf⟩,
  ⟨("worked_out", none), "worked_out", "worked_out", defArgs sWorked, defBody sWorked, defScope sWorked⟩,
  ⟨("source_of_worth", none), "source_of_worth", "source_of_worth", defArgs sSrcWorth, defBody sSrcWorth, defScope sSrcWorth⟩,
  ⟨("source_of_person", none), "source_of_person", "source_of_person", defArgs sSrcPerson, defBody sSrcPerson, defScope sSrcPerson⟩,
  ⟨("take_by", none), "take_by", "take_by", defArgs sTakeBy, defBody sTakeBy, defScope sTakeBy⟩,
  ⟨("take_test", none), "take_test", "take_test", defArgs sTakeTest, defBody sTakeTest, defScope sTakeTest⟩,
  ⟨("take_pick", none), "take_pick", "take_pick", defArgs sTakePick, defBody sTakePick, defScope sTakePick⟩,
  ⟨("take_change", none), "take_change", "take_change", defArgs sTakeChange, defBody sTakeChange, defScope sTakeChange⟩,
  ⟨("take_row", none), "take_row", "take_row", defArgs sTakeRow, defBody sTakeRow, defScope sTakeRow⟩,
  ⟨("take_deed", none), "take_deed", "take_deed", defArgs sTakeDeed, defBody sTakeDeed, defScope sTakeDeed⟩,
  ⟨("is_from", none), "is_from", "is_from", defArgs sIsFrom, defBody sIsFrom, defScope sIsFrom⟩,
  ⟨("is_tuple_of", none), "is_tuple_of", "is_tuple_of", defArgs sIsTupleOf, defBody sIsTupleOf, defScope sIsTupleOf⟩,
  ⟨("is_stand", none), "is_stand", "is_stand", defArgs sIsStand, defBody sIsStand, defScope sIsStand⟩,
  ⟨("is_deed", none), "is_deed", "is_deed", defArgs sIsDeed, defBody sIsDeed, defScope sIsDeed⟩,
  ⟨("is_move", none), "is_move", "is_move", defArgs sIsMove, defBody sIsMove, defScope sIsMove⟩,
  ⟨("first_stand", none), "first_stand", "first_stand", defArgs sFirst, defBody sFirst, defScope sFirst⟩,
  ⟨("holds", none), "holds", "holds", defArgs sHolds, defBody sHolds, defScope sHolds⟩,
  ⟨("is_possible", none), "is_possible", "is_possible", defArgs sPossible, defBody sPossible, defScope sPossible⟩,
  ⟨("possible_moves", none), "possible_moves", "possible_moves", defArgs sPMoves, defBody sPMoves, defScope sPMoves⟩,
  ⟨("moves", none), "moves", "moves", defArgs sMoves, defBody sMoves, defScope sMoves⟩,
  ⟨("changed", none), "changed", "changed", defArgs sChanged, defBody sChanged, defScope sChanged⟩,
  ⟨("stand_behind", none), "stand_behind", "stand_behind", defArgs sBehind, defBody sBehind, defScope sBehind⟩,
  ⟨("after", none), "after", "after", defArgs sAfter, defBody sAfter, defScope sAfter⟩,
  ⟨("led", none), "led", "led", defArgs sLed, defBody sLed, defScope sLed⟩,
  ⟨("take_people", none), "take_people", "take_people", defArgs sTakePeople, defBody sTakePeople, defScope sTakePeople⟩,
  ⟨("take_cell", none), "take_cell", "take_cell", defArgs sTakeCell, defBody sTakeCell, defScope sTakeCell⟩,
  ⟨("take_cells", none), "take_cells", "take_cells", defArgs sTakeCells, defBody sTakeCells, defScope sTakeCells⟩,
  ⟨("take_field", none), "take_field", "take_field", defArgs sTakeField, defBody sTakeField, defScope sTakeField⟩,
  ⟨("take_kind", none), "take_kind", "take_kind", defArgs sTakeKind, defBody sTakeKind, defScope sTakeKind⟩,
  ⟨("take_kinds", none), "take_kinds", "take_kinds", defArgs sTakeKinds, defBody sTakeKinds, defScope sTakeKinds⟩,
  ⟨("take_deeds", none), "take_deeds", "take_deeds", defArgs sTakeDeeds, defBody sTakeDeeds, defScope sTakeDeeds⟩,
  ⟨("_law_pot_of", none), "_law_pot_of", "_law_pot_of", defArgs sPot, defBody sPot, defScope sPot⟩,
  ⟨("_law_take", none), "_law_take", "_law_take", defArgs sLTake, defBody sLTake, defScope sLTake⟩,
  ⟨("_law_unlike", none), "_law_unlike", "_law_unlike", defArgs sUnlike, defBody sUnlike, defScope sUnlike⟩,
  ⟨("_law_house_text", none), "_law_house_text", "_law_house_text", defArgs sText, defBody sText, defScope sText⟩,
  ⟨("_law_right", none), "_law_right", "_law_right", defArgs sRight, defBody sRight, defScope sRight⟩,
  ⟨("law", none), "law", "law", defArgs sLaw, defBody sLaw, defScope sLaw⟩]
/-- the module's tuple of one night -/
def nightB (K : Frag) : Bool := match nsIn K mainGlobals "NIGHT" with
  | some (some (.ref a)) => (match K.lookup a with
    | some ⟨.type c, _, .seq its _, _⟩ => decide (c = "tuple") && (decide (its.size ≤ 1) && (match its.toList with
      | [.str x _] => decide (x = "night")
      | _ => false))
    | _ => false)
  | _ => false
theorem night_ok {K : Frag} {h : Heap} {mg : Str → Option Value} (X : K.In h) (G : h.Ns mainGlobals mg) (b : nightB K = true) : ∃ aN, mg "NIGHT" = some (.ref aN) ∧ ∀ H, SqT K H aN [.str "night"] := by
  unfold nightB at b
  split at b
  · rename_i a e
    split at b
    · rename_i c od its n sl eo
      simp only [Bool.and_eq_true, decide_eq_true_eq] at b
      obtain ⟨rfl, b2, b3⟩ := b
      split at b3
      · rename_i x t ei
        have ex : x = "night" := of_decide_eq_true b3
        subst ex
        refine ⟨a, PySem.W.mg_of X G e, fun H => .inr ⟨_, its, n, eo, rfl, rfl, Nat.le_trans b2 (sz (by decide : 1 ≤ 1000)), ?_⟩⟩
        rw [ei]
        exact .cons ⟨t, rfl⟩ .nil
      · cases b3
    · cases b
  · cases b
abbrev AlX : Type := Bool × He.Al
def obsX (K : Frag) : AlX := (nightB K, He.obsE fa fn K)
def valX : AlX := (true, He.valE fn)
section
variable {P : Program} {w : World} {K : Frag} {mg : Str → Option Value} {h base : Heap}
theorem def_ok {x : Str} {f : Addr} {k : Nat} {ps : List Str} {sp : Sp} {fd : FuncData} {st : Stmt} (g : mg x = some (.ref f)) (F : Fun K x x st f fd) (ok : FnOk P w K mg base CX0 k f fd ps sp)
    (b : ∀ (kV doc pm : Value) (an : Option Addr) (cdv ct : Value) (us : List Value), us.length = ps.length → bindArgs (PySem.W.fnOf x x (defArgs st) (defBody st) (defScope st) Value.none kV doc pm an cdv ct) { pos := us } = pure (ps.zip us)) : DefOk P w K mg base x k ps sp :=
  ⟨f, fd, g, F.kp, ok, F.binds b⟩

/-- what the head tells, as the proofs want it -/
structure Told (K : Frag) (mg : Str → Option Value) (C D E : Addr) : Prop where
  f_len : mg "len" = none
  f_all : mg "all" = none
  f_int : mg "int" = none
  f_set : mg "set" = none
  f_tuple : mg "tuple" = none
  f_isinstance : mg "isinstance" = none
  f_bool : mg "bool" = none
  f_zip : mg "zip" = none
  f_list : mg "list" = none
  f_sorted : mg "sorted" = none
  f_range : mg "range" = none
  f_enumerate : mg "enumerate" = none
  f_str : mg "str" = none
  f_repr : mg "repr" = none
  f_abs : mg "abs" = none
  f_max : mg "max" = none
  f_min : mg "min" = none
  g_Lines : mg "Lines" = some (.ref C)
  c_Lines : L2.Cls K C
  n_Lines_rows : NoAttr K C "rows"
  n_Lines_number : NoAttr K C "number"
  k_Lines : ∃ f fd, Mk K C f ∧ Fun K "__init__" "Lines.__init__" sLinesInit f fd
  g_Deed : mg "Deed" = some (.ref D)
  c_Deed : L2.Cls K D
  n_Deed_name : NoAttr K D "name"
  n_Deed_by : NoAttr K D "by"
  n_Deed_tests : NoAttr K D "tests"
  n_Deed_pick : NoAttr K D "pick"
  n_Deed_changes : NoAttr K D "changes"
  n_Deed_rows : NoAttr K D "rows"
  k_Deed : ∃ f fd, Mk K D f ∧ Fun K "__init__" "Deed.__init__" sDeedInit f fd
  g_House : mg "House" = some (.ref E)
  c_House : L2.Cls K E
  n_House_text : NoAttr K E "text"
  n_House_people : NoAttr K E "people"
  n_House_cells : NoAttr K E "cells"
  n_House_kinds : NoAttr K E "kinds"
  n_House_deeds : NoAttr K E "deeds"
  n_House_scripts : NoAttr K E "scripts"
  n_House_doings : NoAttr K E "doings"
  n_House_day : NoAttr K E "day"
  k_House : ∃ f fd, Mk K E f ∧ Fun K "__init__" "House.__init__" sHouse f fd
  m_need : ∃ f fd, Meth K C "need" f ∧ Fun K "need" "Lines.need" sNeed f fd
  m_words_ahead : ∃ f fd, Meth K C "words_ahead" f ∧ Fun K "words_ahead" "Lines.words_ahead" sWordsAhead f fd
  m_is_next : ∃ f fd, Meth K C "is_next" f ∧ Fun K "is_next" "Lines.is_next" sIsNext f fd
  m_is_more : ∃ f fd, Meth K C "is_more" f ∧ Fun K "is_more" "Lines.is_more" sIsMore f fd
  m_take : ∃ f fd, Meth K C "take" f ∧ Fun K "take" "Lines.take" sTake f fd
  m_take_exactly : ∃ f fd, Meth K C "take_exactly" f ∧ Fun K "take_exactly" "Lines.take_exactly" sExactly f fd
  m_take_end : ∃ f fd, Meth K C "take_end" f ∧ Fun K "take_end" "Lines.take_end" sTakeEnd f fd
  m_new_name : ∃ f fd, Meth K C "new_name" f ∧ Fun K "new_name" "Lines.new_name" sNewName f fd
  m_place : ∃ f fd, Meth K C "place" f ∧ Fun K "place" "Lines.place" sPlace f fd
  m_number_from : ∃ f fd, Meth K C "number_from" f ∧ Fun K "number_from" "Lines.number_from" sNumberFrom f fd
  d_is_name : ∃ f fd, mg "is_name" = some (.ref f) ∧ Fun K "is_name" "is_name" sIsName f fd
  d_number_of : ∃ f fd, mg "number_of" = some (.ref f) ∧ Fun K "number_of" "number_of" sNumberOf f fd
  d_worked_out : ∃ f fd, mg "worked_out" = some (.ref f) ∧ Fun K "worked_out" "worked_out" sWorked f fd
  d_source_of_worth : ∃ f fd, mg "source_of_worth" = some (.ref f) ∧ Fun K "source_of_worth" "source_of_worth" sSrcWorth f fd
  d_source_of_person : ∃ f fd, mg "source_of_person" = some (.ref f) ∧ Fun K "source_of_person" "source_of_person" sSrcPerson f fd
  d_take_by : ∃ f fd, mg "take_by" = some (.ref f) ∧ Fun K "take_by" "take_by" sTakeBy f fd
  d_take_test : ∃ f fd, mg "take_test" = some (.ref f) ∧ Fun K "take_test" "take_test" sTakeTest f fd
  d_take_pick : ∃ f fd, mg "take_pick" = some (.ref f) ∧ Fun K "take_pick" "take_pick" sTakePick f fd
  d_take_change : ∃ f fd, mg "take_change" = some (.ref f) ∧ Fun K "take_change" "take_change" sTakeChange f fd
  d_take_row : ∃ f fd, mg "take_row" = some (.ref f) ∧ Fun K "take_row" "take_row" sTakeRow f fd
  d_take_deed : ∃ f fd, mg "take_deed" = some (.ref f) ∧ Fun K "take_deed" "take_deed" sTakeDeed f fd
  d_is_from : ∃ f fd, mg "is_from" = some (.ref f) ∧ Fun K "is_from" "is_from" sIsFrom f fd
  d_is_tuple_of : ∃ f fd, mg "is_tuple_of" = some (.ref f) ∧ Fun K "is_tuple_of" "is_tuple_of" sIsTupleOf f fd
  d_is_stand : ∃ f fd, mg "is_stand" = some (.ref f) ∧ Fun K "is_stand" "is_stand" sIsStand f fd
  d_is_deed : ∃ f fd, mg "is_deed" = some (.ref f) ∧ Fun K "is_deed" "is_deed" sIsDeed f fd
  d_is_move : ∃ f fd, mg "is_move" = some (.ref f) ∧ Fun K "is_move" "is_move" sIsMove f fd
  d_first_stand : ∃ f fd, mg "first_stand" = some (.ref f) ∧ Fun K "first_stand" "first_stand" sFirst f fd
  d_holds : ∃ f fd, mg "holds" = some (.ref f) ∧ Fun K "holds" "holds" sHolds f fd
  d_is_possible : ∃ f fd, mg "is_possible" = some (.ref f) ∧ Fun K "is_possible" "is_possible" sPossible f fd
  d_possible_moves : ∃ f fd, mg "possible_moves" = some (.ref f) ∧ Fun K "possible_moves" "possible_moves" sPMoves f fd
  d_moves : ∃ f fd, mg "moves" = some (.ref f) ∧ Fun K "moves" "moves" sMoves f fd
  d_changed : ∃ f fd, mg "changed" = some (.ref f) ∧ Fun K "changed" "changed" sChanged f fd
  d_stand_behind : ∃ f fd, mg "stand_behind" = some (.ref f) ∧ Fun K "stand_behind" "stand_behind" sBehind f fd
  d_after : ∃ f fd, mg "after" = some (.ref f) ∧ Fun K "after" "after" sAfter f fd
  d_led : ∃ f fd, mg "led" = some (.ref f) ∧ Fun K "led" "led" sLed f fd
  d_take_people : ∃ f fd, mg "take_people" = some (.ref f) ∧ Fun K "take_people" "take_people" sTakePeople f fd
  d_take_cell : ∃ f fd, mg "take_cell" = some (.ref f) ∧ Fun K "take_cell" "take_cell" sTakeCell f fd
  d_take_cells : ∃ f fd, mg "take_cells" = some (.ref f) ∧ Fun K "take_cells" "take_cells" sTakeCells f fd
  d_take_field : ∃ f fd, mg "take_field" = some (.ref f) ∧ Fun K "take_field" "take_field" sTakeField f fd
  d_take_kind : ∃ f fd, mg "take_kind" = some (.ref f) ∧ Fun K "take_kind" "take_kind" sTakeKind f fd
  d_take_kinds : ∃ f fd, mg "take_kinds" = some (.ref f) ∧ Fun K "take_kinds" "take_kinds" sTakeKinds f fd
  d_take_deeds : ∃ f fd, mg "take_deeds" = some (.ref f) ∧ Fun K "take_deeds" "take_deeds" sTakeDeeds f fd
  d__law_pot_of : ∃ f fd, mg "_law_pot_of" = some (.ref f) ∧ Fun K "_law_pot_of" "_law_pot_of" sPot f fd
  d__law_take : ∃ f fd, mg "_law_take" = some (.ref f) ∧ Fun K "_law_take" "_law_take" sLTake f fd
  d__law_unlike : ∃ f fd, mg "_law_unlike" = some (.ref f) ∧ Fun K "_law_unlike" "_law_unlike" sUnlike f fd
  d__law_house_text : ∃ f fd, mg "_law_house_text" = some (.ref f) ∧ Fun K "_law_house_text" "_law_house_text" sText f fd
  d__law_right : ∃ f fd, mg "_law_right" = some (.ref f) ∧ Fun K "_law_right" "_law_right" sRight f fd
  d_law : ∃ f fd, mg "law" = some (.ref f) ∧ Fun K "law" "law" sLaw f fd
theorem told (X : K.In h) (G : h.Ns mainGlobals mg) (c : He.SaysE fa fn K) : Told K mg (He.ga K "Lines") (He.ga K "Deed") (He.ga K "House") := by
  refine ⟨He.free_ok X G (c.fact 0 (f := .free "len") rfl), He.free_ok X G (c.fact 1 (f := .free "all") rfl), He.free_ok X G (c.fact 2 (f := .free "int") rfl), He.free_ok X G (c.fact 3 (f := .free "set") rfl), He.free_ok X G (c.fact 4 (f := .free "tuple") rfl), He.free_ok X G (c.fact 5 (f := .free "isinstance") rfl), He.free_ok X G (c.fact 6 (f := .free "bool") rfl), He.free_ok X G (c.fact 7 (f := .free "zip") rfl), He.free_ok X G (c.fact 8 (f := .free "list") rfl), He.free_ok X G (c.fact 9 (f := .free "sorted") rfl), He.free_ok X G (c.fact 10 (f := .free "range") rfl), He.free_ok X G (c.fact 11 (f := .free "enumerate") rfl), He.free_ok X G (c.fact 12 (f := .free "str") rfl), He.free_ok X G (c.fact 13 (f := .free "repr") rfl), He.free_ok X G (c.fact 14 (f := .free "abs") rfl), He.free_ok X G (c.fact 15 (f := .free "max") rfl), He.free_ok X G (c.fact 16 (f := .free "min") rfl), He.glo_ok X G (c.fact 17 (f := .glo "Lines") rfl), He.cls_ok (c.fact 18 (f := .cls "Lines") rfl), He.noat_ok (c.fact 20 (f := .noat "Lines" "rows") rfl), He.noat_ok (c.fact 21 (f := .noat "Lines" "number") rfl), ?_, He.glo_ok X G (c.fact 22 (f := .glo "Deed") rfl), He.cls_ok (c.fact 23 (f := .cls "Deed") rfl), He.noat_ok (c.fact 25 (f := .noat "Deed" "name") rfl), He.noat_ok (c.fact 26 (f := .noat "Deed" "by") rfl), He.noat_ok (c.fact 27 (f := .noat "Deed" "tests") rfl), He.noat_ok (c.fact 28 (f := .noat "Deed" "pick") rfl), He.noat_ok (c.fact 29 (f := .noat "Deed" "changes") rfl), He.noat_ok (c.fact 30 (f := .noat "Deed" "rows") rfl), ?_, He.glo_ok X G (c.fact 31 (f := .glo "House") rfl), He.cls_ok (c.fact 32 (f := .cls "House") rfl), He.noat_ok (c.fact 34 (f := .noat "House" "text") rfl), He.noat_ok (c.fact 35 (f := .noat "House" "people") rfl), He.noat_ok (c.fact 36 (f := .noat "House" "cells") rfl), He.noat_ok (c.fact 37 (f := .noat "House" "kinds") rfl), He.noat_ok (c.fact 38 (f := .noat "House" "deeds") rfl), He.noat_ok (c.fact 39 (f := .noat "House" "scripts") rfl), He.noat_ok (c.fact 40 (f := .noat "House" "doings") rfl), He.noat_ok (c.fact 41 (f := .noat "House" "day") rfl), ?_, ?_, ?_, ?_, ?_, ?_, ?_, ?_, ?_, ?_, ?_, ?_, ?_, ?_, ?_, ?_, ?_, ?_, ?_, ?_, ?_, ?_, ?_, ?_, ?_, ?_, ?_, ?_, ?_, ?_, ?_, ?_, ?_, ?_, ?_, ?_, ?_, ?_, ?_, ?_, ?_, ?_, ?_, ?_, ?_, ?_, ?_, ?_, ?_⟩
  · obtain ⟨oc, od, osl, kV, doc, pm, an, cdv, ct, l, b⟩ := c.def_ 0 (d := ⟨("Lines", some "__init__"), "__init__", "Lines.__init__", defArgs sLinesInit, defBody sLinesInit, defScope sLinesInit⟩) rfl
    exact ⟨_, _, He.mkr_ok (c.fact 19 (f := .mkr "Lines") rfl), fun_mk (st := sLinesInit) l b (He.meth_ok (c.fact 42 (f := .meth "Lines" "__init__") rfl)).kp⟩
  · obtain ⟨oc, od, osl, kV, doc, pm, an, cdv, ct, l, b⟩ := c.def_ 11 (d := ⟨("Deed", some "__init__"), "__init__", "Deed.__init__", defArgs sDeedInit, defBody sDeedInit, defScope sDeedInit⟩) rfl
    exact ⟨_, _, He.mkr_ok (c.fact 24 (f := .mkr "Deed") rfl), fun_mk (st := sDeedInit) l b (He.meth_ok (c.fact 53 (f := .meth "Deed" "__init__") rfl)).kp⟩
  · obtain ⟨oc, od, osl, kV, doc, pm, an, cdv, ct, l, b⟩ := c.def_ 12 (d := ⟨("House", some "__init__"), "__init__", "House.__init__", defArgs sHouse, defBody sHouse, defScope sHouse⟩) rfl
    exact ⟨_, _, He.mkr_ok (c.fact 33 (f := .mkr "House") rfl), fun_mk (st := sHouse) l b (He.meth_ok (c.fact 54 (f := .meth "House" "__init__") rfl)).kp⟩
  · obtain ⟨oc, od, osl, kV, doc, pm, an, cdv, ct, l, b⟩ := c.def_ 1 (d := ⟨("Lines", some "need"), "need", "Lines.need", defArgs sNeed, defBody sNeed, defScope sNeed⟩) rfl
    have q := He.meth_ok (c.fact 43 (f := .meth "Lines" "need") rfl)
    exact ⟨_, _, q, fun_mk (st := sNeed) l b q.kp⟩
  · obtain ⟨oc, od, osl, kV, doc, pm, an, cdv, ct, l, b⟩ := c.def_ 2 (d := ⟨("Lines", some "words_ahead"), "words_ahead", "Lines.words_ahead", defArgs sWordsAhead, defBody sWordsAhead, defScope sWordsAhead⟩) rfl
    have q := He.meth_ok (c.fact 44 (f := .meth "Lines" "words_ahead") rfl)
    exact ⟨_, _, q, fun_mk (st := sWordsAhead) l b q.kp⟩
  · obtain ⟨oc, od, osl, kV, doc, pm, an, cdv, ct, l, b⟩ := c.def_ 3 (d := ⟨("Lines", some "is_next"), "is_next", "Lines.is_next", defArgs sIsNext, defBody sIsNext, defScope sIsNext⟩) rfl
    have q := He.meth_ok (c.fact 45 (f := .meth "Lines" "is_next") rfl)
    exact ⟨_, _, q, fun_mk (st := sIsNext) l b q.kp⟩
  · obtain ⟨oc, od, osl, kV, doc, pm, an, cdv, ct, l, b⟩ := c.def_ 4 (d := ⟨("Lines", some "is_more"), "is_more", "Lines.is_more", defArgs sIsMore, defBody sIsMore, defScope sIsMore⟩) rfl
    have q := He.meth_ok (c.fact 46 (f := .meth "Lines" "is_more") rfl)
    exact ⟨_, _, q, fun_mk (st := sIsMore) l b q.kp⟩
  · obtain ⟨oc, od, osl, kV, doc, pm, an, cdv, ct, l, b⟩ := c.def_ 5 (d := ⟨("Lines", some "take"), "take", "Lines.take", defArgs sTake, defBody sTake, defScope sTake⟩) rfl
    have q := He.meth_ok (c.fact 47 (f := .meth "Lines" "take") rfl)
    exact ⟨_, _, q, fun_mk (st := sTake) l b q.kp⟩
  · obtain ⟨oc, od, osl, kV, doc, pm, an, cdv, ct, l, b⟩ := c.def_ 6 (d := ⟨("Lines", some "take_exactly"), "take_exactly", "Lines.take_exactly", defArgs sExactly, defBody sExactly, defScope sExactly⟩) rfl
    have q := He.meth_ok (c.fact 48 (f := .meth "Lines" "take_exactly") rfl)
    exact ⟨_, _, q, fun_mk (st := sExactly) l b q.kp⟩
  · obtain ⟨oc, od, osl, kV, doc, pm, an, cdv, ct, l, b⟩ := c.def_ 7 (d := ⟨("Lines", some "take_end"), "take_end", "Lines.take_end", defArgs sTakeEnd, defBody sTakeEnd, defScope sTakeEnd⟩) rfl
    have q := He.meth_ok (c.fact 49 (f := .meth "Lines" "take_end") rfl)
    exact ⟨_, _, q, fun_mk (st := sTakeEnd) l b q.kp⟩
  · obtain ⟨oc, od, osl, kV, doc, pm, an, cdv, ct, l, b⟩ := c.def_ 8 (d := ⟨("Lines", some "new_name"), "new_name", "Lines.new_name", defArgs sNewName, defBody sNewName, defScope sNewName⟩) rfl
    have q := He.meth_ok (c.fact 50 (f := .meth "Lines" "new_name") rfl)
    exact ⟨_, _, q, fun_mk (st := sNewName) l b q.kp⟩
  · obtain ⟨oc, od, osl, kV, doc, pm, an, cdv, ct, l, b⟩ := c.def_ 9 (d := ⟨("Lines", some "place"), "place", "Lines.place", defArgs sPlace, defBody sPlace, defScope sPlace⟩) rfl
    have q := He.meth_ok (c.fact 51 (f := .meth "Lines" "place") rfl)
    exact ⟨_, _, q, fun_mk (st := sPlace) l b q.kp⟩
  · obtain ⟨oc, od, osl, kV, doc, pm, an, cdv, ct, l, b⟩ := c.def_ 10 (d := ⟨("Lines", some "number_from"), "number_from", "Lines.number_from", defArgs sNumberFrom, defBody sNumberFrom, defScope sNumberFrom⟩) rfl
    have q := He.meth_ok (c.fact 52 (f := .meth "Lines" "number_from") rfl)
    exact ⟨_, _, q, fun_mk (st := sNumberFrom) l b q.kp⟩
  · obtain ⟨oc, od, osl, kV, doc, pm, an, cdv, ct, l, b⟩ := c.def_ 13 (d := ⟨("is_name", none), "is_name", "is_name", defArgs sIsName, defBody sIsName, defScope sIsName⟩) rfl
    exact ⟨_, _, He.glo_ok X G (c.fact 55 (f := .glo "is_name") rfl), fun_mk (st := sIsName) l b (He.keep_ok (c.fact 56 (f := .keep "is_name") rfl))⟩
  · obtain ⟨oc, od, osl, kV, doc, pm, an, cdv, ct, l, b⟩ := c.def_ 14 (d := ⟨("number_of", none), "number_of", "number_of", defArgs sNumberOf, defBody sNumberOf, defScope sNumberOf⟩) rfl
    exact ⟨_, _, He.glo_ok X G (c.fact 57 (f := .glo "number_of") rfl), fun_mk (st := sNumberOf) l b (He.keep_ok (c.fact 58 (f := .keep "number_of") rfl))⟩
  · obtain ⟨oc, od, osl, kV, doc, pm, an, cdv, ct, l, b⟩ := c.def_ 15 (d := ⟨("worked_out", none), "worked_out", "worked_out", defArgs sWorked, defBody sWorked, defScope sWorked⟩) rfl
    exact ⟨_, _, He.glo_ok X G (c.fact 59 (f := .glo "worked_out") rfl), fun_mk (st := sWorked) l b (He.keep_ok (c.fact 60 (f := .keep "worked_out") rfl))⟩
  · obtain ⟨oc, od, osl, kV, doc, pm, an, cdv, ct, l, b⟩ := c.def_ 16 (d := ⟨("source_of_worth", none), "source_of_worth", "source_of_worth", defArgs sSrcWorth, defBody sSrcWorth, defScope sSrcWorth⟩) rfl
    exact ⟨_, _, He.glo_ok X G (c.fact 61 (f := .glo "source_of_worth") rfl), fun_mk (st := sSrcWorth) l b (He.keep_ok (c.fact 62 (f := .keep "source_of_worth") rfl))⟩
  · obtain ⟨oc, od, osl, kV, doc, pm, an, cdv, ct, l, b⟩ := c.def_ 17 (d := ⟨("source_of_person", none), "source_of_person", "source_of_person", defArgs sSrcPerson, defBody sSrcPerson, defScope sSrcPerson⟩) rfl
    exact ⟨_, _, He.glo_ok X G (c.fact 63 (f := .glo "source_of_person") rfl), fun_mk (st := sSrcPerson) l b (He.keep_ok (c.fact 64 (f := .keep "source_of_person") rfl))⟩
  · obtain ⟨oc, od, osl, kV, doc, pm, an, cdv, ct, l, b⟩ := c.def_ 18 (d := ⟨("take_by", none), "take_by", "take_by", defArgs sTakeBy, defBody sTakeBy, defScope sTakeBy⟩) rfl
    exact ⟨_, _, He.glo_ok X G (c.fact 65 (f := .glo "take_by") rfl), fun_mk (st := sTakeBy) l b (He.keep_ok (c.fact 66 (f := .keep "take_by") rfl))⟩
  · obtain ⟨oc, od, osl, kV, doc, pm, an, cdv, ct, l, b⟩ := c.def_ 19 (d := ⟨("take_test", none), "take_test", "take_test", defArgs sTakeTest, defBody sTakeTest, defScope sTakeTest⟩) rfl
    exact ⟨_, _, He.glo_ok X G (c.fact 67 (f := .glo "take_test") rfl), fun_mk (st := sTakeTest) l b (He.keep_ok (c.fact 68 (f := .keep "take_test") rfl))⟩
  · obtain ⟨oc, od, osl, kV, doc, pm, an, cdv, ct, l, b⟩ := c.def_ 20 (d := ⟨("take_pick", none), "take_pick", "take_pick", defArgs sTakePick, defBody sTakePick, defScope sTakePick⟩) rfl
    exact ⟨_, _, He.glo_ok X G (c.fact 69 (f := .glo "take_pick") rfl), fun_mk (st := sTakePick) l b (He.keep_ok (c.fact 70 (f := .keep "take_pick") rfl))⟩
  · obtain ⟨oc, od, osl, kV, doc, pm, an, cdv, ct, l, b⟩ := c.def_ 21 (d := ⟨("take_change", none), "take_change", "take_change", defArgs sTakeChange, defBody sTakeChange, defScope sTakeChange⟩) rfl
    exact ⟨_, _, He.glo_ok X G (c.fact 71 (f := .glo "take_change") rfl), fun_mk (st := sTakeChange) l b (He.keep_ok (c.fact 72 (f := .keep "take_change") rfl))⟩
  · obtain ⟨oc, od, osl, kV, doc, pm, an, cdv, ct, l, b⟩ := c.def_ 22 (d := ⟨("take_row", none), "take_row", "take_row", defArgs sTakeRow, defBody sTakeRow, defScope sTakeRow⟩) rfl
    exact ⟨_, _, He.glo_ok X G (c.fact 73 (f := .glo "take_row") rfl), fun_mk (st := sTakeRow) l b (He.keep_ok (c.fact 74 (f := .keep "take_row") rfl))⟩
  · obtain ⟨oc, od, osl, kV, doc, pm, an, cdv, ct, l, b⟩ := c.def_ 23 (d := ⟨("take_deed", none), "take_deed", "take_deed", defArgs sTakeDeed, defBody sTakeDeed, defScope sTakeDeed⟩) rfl
    exact ⟨_, _, He.glo_ok X G (c.fact 75 (f := .glo "take_deed") rfl), fun_mk (st := sTakeDeed) l b (He.keep_ok (c.fact 76 (f := .keep "take_deed") rfl))⟩
  · obtain ⟨oc, od, osl, kV, doc, pm, an, cdv, ct, l, b⟩ := c.def_ 24 (d := ⟨("is_from", none), "is_from", "is_from", defArgs sIsFrom, defBody sIsFrom, defScope sIsFrom⟩) rfl
    exact ⟨_, _, He.glo_ok X G (c.fact 77 (f := .glo "is_from") rfl), fun_mk (st := sIsFrom) l b (He.keep_ok (c.fact 78 (f := .keep "is_from") rfl))⟩
  · obtain ⟨oc, od, osl, kV, doc, pm, an, cdv, ct, l, b⟩ := c.def_ 25 (d := ⟨("is_tuple_of", none), "is_tuple_of", "is_tuple_of", defArgs sIsTupleOf, defBody sIsTupleOf, defScope sIsTupleOf⟩) rfl
    exact ⟨_, _, He.glo_ok X G (c.fact 79 (f := .glo "is_tuple_of") rfl), fun_mk (st := sIsTupleOf) l b (He.keep_ok (c.fact 80 (f := .keep "is_tuple_of") rfl))⟩
  · obtain ⟨oc, od, osl, kV, doc, pm, an, cdv, ct, l, b⟩ := c.def_ 26 (d := ⟨("is_stand", none), "is_stand", "is_stand", defArgs sIsStand, defBody sIsStand, defScope sIsStand⟩) rfl
    exact ⟨_, _, He.glo_ok X G (c.fact 81 (f := .glo "is_stand") rfl), fun_mk (st := sIsStand) l b (He.keep_ok (c.fact 82 (f := .keep "is_stand") rfl))⟩
  · obtain ⟨oc, od, osl, kV, doc, pm, an, cdv, ct, l, b⟩ := c.def_ 27 (d := ⟨("is_deed", none), "is_deed", "is_deed", defArgs sIsDeed, defBody sIsDeed, defScope sIsDeed⟩) rfl
    exact ⟨_, _, He.glo_ok X G (c.fact 83 (f := .glo "is_deed") rfl), fun_mk (st := sIsDeed) l b (He.keep_ok (c.fact 84 (f := .keep "is_deed") rfl))⟩
  · obtain ⟨oc, od, osl, kV, doc, pm, an, cdv, ct, l, b⟩ := c.def_ 28 (d := ⟨("is_move", none), "is_move", "is_move", defArgs sIsMove, defBody sIsMove, defScope sIsMove⟩) rfl
    exact ⟨_, _, He.glo_ok X G (c.fact 85 (f := .glo "is_move") rfl), fun_mk (st := sIsMove) l b (He.keep_ok (c.fact 86 (f := .keep "is_move") rfl))⟩
  · obtain ⟨oc, od, osl, kV, doc, pm, an, cdv, ct, l, b⟩ := c.def_ 29 (d := ⟨("first_stand", none), "first_stand", "first_stand", defArgs sFirst, defBody sFirst, defScope sFirst⟩) rfl
    exact ⟨_, _, He.glo_ok X G (c.fact 87 (f := .glo "first_stand") rfl), fun_mk (st := sFirst) l b (He.keep_ok (c.fact 88 (f := .keep "first_stand") rfl))⟩
  · obtain ⟨oc, od, osl, kV, doc, pm, an, cdv, ct, l, b⟩ := c.def_ 30 (d := ⟨("holds", none), "holds", "holds", defArgs sHolds, defBody sHolds, defScope sHolds⟩) rfl
    exact ⟨_, _, He.glo_ok X G (c.fact 89 (f := .glo "holds") rfl), fun_mk (st := sHolds) l b (He.keep_ok (c.fact 90 (f := .keep "holds") rfl))⟩
  · obtain ⟨oc, od, osl, kV, doc, pm, an, cdv, ct, l, b⟩ := c.def_ 31 (d := ⟨("is_possible", none), "is_possible", "is_possible", defArgs sPossible, defBody sPossible, defScope sPossible⟩) rfl
    exact ⟨_, _, He.glo_ok X G (c.fact 91 (f := .glo "is_possible") rfl), fun_mk (st := sPossible) l b (He.keep_ok (c.fact 92 (f := .keep "is_possible") rfl))⟩
  · obtain ⟨oc, od, osl, kV, doc, pm, an, cdv, ct, l, b⟩ := c.def_ 32 (d := ⟨("possible_moves", none), "possible_moves", "possible_moves", defArgs sPMoves, defBody sPMoves, defScope sPMoves⟩) rfl
    exact ⟨_, _, He.glo_ok X G (c.fact 93 (f := .glo "possible_moves") rfl), fun_mk (st := sPMoves) l b (He.keep_ok (c.fact 94 (f := .keep "possible_moves") rfl))⟩
  · obtain ⟨oc, od, osl, kV, doc, pm, an, cdv, ct, l, b⟩ := c.def_ 33 (d := ⟨("moves", none), "moves", "moves", defArgs sMoves, defBody sMoves, defScope sMoves⟩) rfl
    exact ⟨_, _, He.glo_ok X G (c.fact 95 (f := .glo "moves") rfl), fun_mk (st := sMoves) l b (He.keep_ok (c.fact 96 (f := .keep "moves") rfl))⟩
  · obtain ⟨oc, od, osl, kV, doc, pm, an, cdv, ct, l, b⟩ := c.def_ 34 (d := ⟨("changed", none), "changed", "changed", defArgs sChanged, defBody sChanged, defScope sChanged⟩) rfl
    exact ⟨_, _, He.glo_ok X G (c.fact 97 (f := .glo "changed") rfl), fun_mk (st := sChanged) l b (He.keep_ok (c.fact 98 (f := .keep "changed") rfl))⟩
  · obtain ⟨oc, od, osl, kV, doc, pm, an, cdv, ct, l, b⟩ := c.def_ 35 (d := ⟨("stand_behind", none), "stand_behind", "stand_behind", defArgs sBehind, defBody sBehind, defScope sBehind⟩) rfl
    exact ⟨_, _, He.glo_ok X G (c.fact 99 (f := .glo "stand_behind") rfl), fun_mk (st := sBehind) l b (He.keep_ok (c.fact 100 (f := .keep "stand_behind") rfl))⟩
  · obtain ⟨oc, od, osl, kV, doc, pm, an, cdv, ct, l, b⟩ := c.def_ 36 (d := ⟨("after", none), "after", "after", defArgs sAfter, defBody sAfter, defScope sAfter⟩) rfl
    exact ⟨_, _, He.glo_ok X G (c.fact 101 (f := .glo "after") rfl), fun_mk (st := sAfter) l b (He.keep_ok (c.fact 102 (f := .keep "after") rfl))⟩
  · obtain ⟨oc, od, osl, kV, doc, pm, an, cdv, ct, l, b⟩ := c.def_ 37 (d := ⟨("led", none), "led", "led", defArgs sLed, defBody sLed, defScope sLed⟩) rfl
    exact ⟨_, _, He.glo_ok X G (c.fact 103 (f := .glo "led") rfl), fun_mk (st := sLed) l b (He.keep_ok (c.fact 104 (f := .keep "led") rfl))⟩
  · obtain ⟨oc, od, osl, kV, doc, pm, an, cdv, ct, l, b⟩ := c.def_ 38 (d := ⟨("take_people", none), "take_people", "take_people", defArgs sTakePeople, defBody sTakePeople, defScope sTakePeople⟩) rfl
    exact ⟨_, _, He.glo_ok X G (c.fact 105 (f := .glo "take_people") rfl), fun_mk (st := sTakePeople) l b (He.keep_ok (c.fact 106 (f := .keep "take_people") rfl))⟩
  · obtain ⟨oc, od, osl, kV, doc, pm, an, cdv, ct, l, b⟩ := c.def_ 39 (d := ⟨("take_cell", none), "take_cell", "take_cell", defArgs sTakeCell, defBody sTakeCell, defScope sTakeCell⟩) rfl
    exact ⟨_, _, He.glo_ok X G (c.fact 107 (f := .glo "take_cell") rfl), fun_mk (st := sTakeCell) l b (He.keep_ok (c.fact 108 (f := .keep "take_cell") rfl))⟩
  · obtain ⟨oc, od, osl, kV, doc, pm, an, cdv, ct, l, b⟩ := c.def_ 40 (d := ⟨("take_cells", none), "take_cells", "take_cells", defArgs sTakeCells, defBody sTakeCells, defScope sTakeCells⟩) rfl
    exact ⟨_, _, He.glo_ok X G (c.fact 109 (f := .glo "take_cells") rfl), fun_mk (st := sTakeCells) l b (He.keep_ok (c.fact 110 (f := .keep "take_cells") rfl))⟩
  · obtain ⟨oc, od, osl, kV, doc, pm, an, cdv, ct, l, b⟩ := c.def_ 41 (d := ⟨("take_field", none), "take_field", "take_field", defArgs sTakeField, defBody sTakeField, defScope sTakeField⟩) rfl
    exact ⟨_, _, He.glo_ok X G (c.fact 111 (f := .glo "take_field") rfl), fun_mk (st := sTakeField) l b (He.keep_ok (c.fact 112 (f := .keep "take_field") rfl))⟩
  · obtain ⟨oc, od, osl, kV, doc, pm, an, cdv, ct, l, b⟩ := c.def_ 42 (d := ⟨("take_kind", none), "take_kind", "take_kind", defArgs sTakeKind, defBody sTakeKind, defScope sTakeKind⟩) rfl
    exact ⟨_, _, He.glo_ok X G (c.fact 113 (f := .glo "take_kind") rfl), fun_mk (st := sTakeKind) l b (He.keep_ok (c.fact 114 (f := .keep "take_kind") rfl))⟩
  · obtain ⟨oc, od, osl, kV, doc, pm, an, cdv, ct, l, b⟩ := c.def_ 43 (d := ⟨("take_kinds", none), "take_kinds", "take_kinds", defArgs sTakeKinds, defBody sTakeKinds, defScope sTakeKinds⟩) rfl
    exact ⟨_, _, He.glo_ok X G (c.fact 115 (f := .glo "take_kinds") rfl), fun_mk (st := sTakeKinds) l b (He.keep_ok (c.fact 116 (f := .keep "take_kinds") rfl))⟩
  · obtain ⟨oc, od, osl, kV, doc, pm, an, cdv, ct, l, b⟩ := c.def_ 44 (d := ⟨("take_deeds", none), "take_deeds", "take_deeds", defArgs sTakeDeeds, defBody sTakeDeeds, defScope sTakeDeeds⟩) rfl
    exact ⟨_, _, He.glo_ok X G (c.fact 117 (f := .glo "take_deeds") rfl), fun_mk (st := sTakeDeeds) l b (He.keep_ok (c.fact 118 (f := .keep "take_deeds") rfl))⟩
  · obtain ⟨oc, od, osl, kV, doc, pm, an, cdv, ct, l, b⟩ := c.def_ 45 (d := ⟨("_law_pot_of", none), "_law_pot_of", "_law_pot_of", defArgs sPot, defBody sPot, defScope sPot⟩) rfl
    exact ⟨_, _, He.glo_ok X G (c.fact 119 (f := .glo "_law_pot_of") rfl), fun_mk (st := sPot) l b (He.keep_ok (c.fact 120 (f := .keep "_law_pot_of") rfl))⟩
  · obtain ⟨oc, od, osl, kV, doc, pm, an, cdv, ct, l, b⟩ := c.def_ 46 (d := ⟨("_law_take", none), "_law_take", "_law_take", defArgs sLTake, defBody sLTake, defScope sLTake⟩) rfl
    exact ⟨_, _, He.glo_ok X G (c.fact 121 (f := .glo "_law_take") rfl), fun_mk (st := sLTake) l b (He.keep_ok (c.fact 122 (f := .keep "_law_take") rfl))⟩
  · obtain ⟨oc, od, osl, kV, doc, pm, an, cdv, ct, l, b⟩ := c.def_ 47 (d := ⟨("_law_unlike", none), "_law_unlike", "_law_unlike", defArgs sUnlike, defBody sUnlike, defScope sUnlike⟩) rfl
    exact ⟨_, _, He.glo_ok X G (c.fact 123 (f := .glo "_law_unlike") rfl), fun_mk (st := sUnlike) l b (He.keep_ok (c.fact 124 (f := .keep "_law_unlike") rfl))⟩
  · obtain ⟨oc, od, osl, kV, doc, pm, an, cdv, ct, l, b⟩ := c.def_ 48 (d := ⟨("_law_house_text", none), "_law_house_text", "_law_house_text", defArgs sText, defBody sText, defScope sText⟩) rfl
    exact ⟨_, _, He.glo_ok X G (c.fact 125 (f := .glo "_law_house_text") rfl), fun_mk (st := sText) l b (He.keep_ok (c.fact 126 (f := .keep "_law_house_text") rfl))⟩
  · obtain ⟨oc, od, osl, kV, doc, pm, an, cdv, ct, l, b⟩ := c.def_ 49 (d := ⟨("_law_right", none), "_law_right", "_law_right", defArgs sRight, defBody sRight, defScope sRight⟩) rfl
    exact ⟨_, _, He.glo_ok X G (c.fact 127 (f := .glo "_law_right") rfl), fun_mk (st := sRight) l b (He.keep_ok (c.fact 128 (f := .keep "_law_right") rfl))⟩
  · obtain ⟨oc, od, osl, kV, doc, pm, an, cdv, ct, l, b⟩ := c.def_ 50 (d := ⟨("law", none), "law", "law", defArgs sLaw, defBody sLaw, defScope sLaw⟩) rfl
    exact ⟨_, _, He.glo_ok X G (c.fact 129 (f := .glo "law") rfl), fun_mk (st := sLaw) l b (He.keep_ok (c.fact 130 (f := .keep "law") rfl))⟩
end
end Hx
set_option maxRecDepth 100000
set_option maxHeartbeats 1000000
/-! Every def keeps its promise, the law's own too. -/
namespace Hx
open PySem PySem.Spec PyProof.Rows L2
open PySem.W (Frag)
theorem all_mk {P : Program} {w : World} {K : Frag} {mg : Str → Option Value} {C D E fa : Addr} (T : Told K mg C D E) (night : ∃ aN, mg "NIGHT" = some (.ref aN) ∧ ∀ H, SqT K H aN [.str "night"]) (hfa : mg "law" = some (.ref fa)) :
    ∃ fd : FuncData, (∀ (s : Shared) (u : Value), BindsTo s fd ⟨[u], []⟩ [("_law_script", u)]) ∧ ∀ base : Heap, FnG P w K mg base 10 fa fd ["_law_script"] (spLaw K) := by
  obtain ⟨f8, d8, e8, F8⟩ := T.d_law
  have e := hfa.symm.trans e8
  cases e
  refine ⟨d8, ?_, fun base => ?_⟩
  · obtain ⟨oc, od, kV, doc, pm, an, cdv, ct, osl, rfl, lk, hcd⟩ := F8.ex
    exact fun s u => .of_eq rfl
  have lt : LTxt K mg C := ⟨T.c_Lines, T.n_Lines_rows, T.n_Lines_number, T.g_Lines, T.f_len, T.f_all, T.f_int⟩
  have ft : FTxt K mg := ⟨T.f_isinstance, T.f_int, T.f_bool, T.f_tuple, T.f_len, T.f_all, T.f_zip, T.f_list⟩
  have st : STxt K mg E := ⟨ft, night, T.f_tuple, T.c_House, T.n_House_people, T.n_House_cells, T.n_House_deeds, T.n_House_scripts, T.n_House_doings, T.n_House_day⟩
  obtain ⟨f_is_name, d_is_name, e_is_name, F_is_name⟩ := T.d_is_name
  have B_is_name : L2.Binds K d_is_name ["word"] [] := F_is_name.binds fun _ _ _ _ _ _ us hl => match us, hl with | [_], _ => rfl
  have O_is_name : FnOk P w K mg base CX0 1 f_is_name d_is_name ["word"] spName := ok_name F_is_name T.f_len T.f_all
  have D_is_name : DefOk P w K mg base "is_name" 1 ["word"] spName := ⟨f_is_name, d_is_name, e_is_name, F_is_name.kp, O_is_name, B_is_name⟩
  obtain ⟨f_number_of, d_number_of, e_number_of, F_number_of⟩ := T.d_number_of
  have B_number_of : L2.Binds K d_number_of ["word"] [] := F_number_of.binds fun _ _ _ _ _ _ us hl => match us, hl with | [_], _ => rfl
  have O_number_of : FnOk P w K mg base CX0 1 f_number_of d_number_of ["word"] spNumOf := ok_numOf F_number_of T.f_len T.f_all T.f_int
  have D_number_of : DefOk P w K mg base "number_of" 1 ["word"] spNumOf := ⟨f_number_of, d_number_of, e_number_of, F_number_of.kp, O_number_of, B_number_of⟩
  obtain ⟨f_need, d_need, m_need, F_need⟩ := T.m_need
  have b_need : L2.Binds K d_need ["self", "holds"] [] := F_need.binds fun _ _ _ _ _ _ us hl => match us, hl with | [_, _], _ => rfl
  have G_need : FnOk P w K mg base CX0 1 f_need d_need ["self", "holds"] spNeed := ok_need F_need
  obtain ⟨f_words_ahead, d_words_ahead, m_words_ahead, F_words_ahead⟩ := T.m_words_ahead
  have b_words_ahead : L2.Binds K d_words_ahead ["self", "depth"] [] := F_words_ahead.binds fun _ _ _ _ _ _ us hl => match us, hl with | [_, _], _ => rfl
  have G_words_ahead : FnOk P w K mg base CX0 1 f_words_ahead d_words_ahead ["self", "depth"] (spAhead C) := ok_ahead F_words_ahead lt
  obtain ⟨f_is_next, d_is_next, m_is_next, F_is_next⟩ := T.m_is_next
  have b_is_next : L2.Binds K d_is_next ["self", "depth", "words"] [] := F_is_next.binds fun _ _ _ _ _ _ us hl => match us, hl with | [_, _, _], _ => rfl
  have G_is_next : FnOk P w K mg base CX0 2 f_is_next d_is_next ["self", "depth", "words"] (spNext C K) := ok_next F_is_next lt G_words_ahead b_words_ahead m_words_ahead
  obtain ⟨f_is_more, d_is_more, m_is_more, F_is_more⟩ := T.m_is_more
  have b_is_more : L2.Binds K d_is_more ["self", "depth", "words", "found", "least", "most"] [] := F_is_more.binds fun _ _ _ _ _ _ us hl => match us, hl with | [_, _, _, _, _, _], _ => rfl
  have G_is_more : FnOk P w K mg base CX0 3 f_is_more d_is_more ["self", "depth", "words", "found", "least", "most"] (spMore C K) := ok_more F_is_more lt G_is_next b_is_next m_is_next
  obtain ⟨f_take, d_take, m_take, F_take⟩ := T.m_take
  have b_take : L2.Binds K d_take ["self", "depth", "words"] [] := F_take.binds fun _ _ _ _ _ _ us hl => match us, hl with | [_, _, _], _ => rfl
  have G_take : FnOk P w K mg base CX0 2 f_take d_take ["self", "depth", "words"] (spTake C K) := ok_take F_take lt G_words_ahead b_words_ahead m_words_ahead G_need b_need m_need
  obtain ⟨f_take_exactly, d_take_exactly, m_take_exactly, F_take_exactly⟩ := T.m_take_exactly
  have b_take_exactly : L2.Binds K d_take_exactly ["self", "depth", "words", "many"] [] := F_take_exactly.binds fun _ _ _ _ _ _ us hl => match us, hl with | [_, _, _, _], _ => rfl
  have G_take_exactly : FnOk P w K mg base CX0 3 f_take_exactly d_take_exactly ["self", "depth", "words", "many"] (spExactly C K) := ok_exactly F_take_exactly lt G_take b_take m_take G_need b_need m_need
  obtain ⟨f_take_end, d_take_end, m_take_end, F_take_end⟩ := T.m_take_end
  have b_take_end : L2.Binds K d_take_end ["self"] [] := F_take_end.binds fun _ _ _ _ _ _ us hl => match us, hl with | [_], _ => rfl
  have G_take_end : FnOk P w K mg base CX0 1 f_take_end d_take_end ["self"] (spEnd C) := ok_end F_take_end lt
  obtain ⟨f_new_name, d_new_name, m_new_name, F_new_name⟩ := T.m_new_name
  have b_new_name : L2.Binds K d_new_name ["self", "word", "names"] [] := F_new_name.binds fun _ _ _ _ _ _ us hl => match us, hl with | [_, _, _], _ => rfl
  have G_new_name : FnOk P w K mg base CX0 2 f_new_name d_new_name ["self", "word", "names"] (spNewName C K) := ok_newName F_new_name lt O_is_name B_is_name F_is_name.kp e_is_name G_need b_need m_need
  obtain ⟨f_place, d_place, m_place, F_place⟩ := T.m_place
  have b_place : L2.Binds K d_place ["self", "word", "names"] [] := F_place.binds fun _ _ _ _ _ _ us hl => match us, hl with | [_, _, _], _ => rfl
  have G_place : FnOk P w K mg base CX0 2 f_place d_place ["self", "word", "names"] (spPlace C K) := ok_place F_place lt G_need b_need m_need
  obtain ⟨f_number_from, d_number_from, m_number_from, F_number_from⟩ := T.m_number_from
  have b_number_from : L2.Binds K d_number_from ["self", "word", "low", "limit"] [] := F_number_from.binds fun _ _ _ _ _ _ us hl => match us, hl with | [_, _, _, _], _ => rfl
  have G_number_from : FnOk P w K mg base CX0 2 f_number_from d_number_from ["self", "word", "low", "limit"] (spNumFrom C) := ok_numFrom F_number_from lt O_number_of B_number_of F_number_of.kp e_number_of G_need b_need m_need
  have ln : Ln P w K mg base C := ⟨lt, ⟨_, _, m_need, G_need, b_need⟩, ⟨_, _, m_is_next, G_is_next.imp (fun _ _ _ _ h => next_page h), b_is_next⟩, ⟨_, _, m_is_more, G_is_more.imp (fun _ _ _ _ h => more_page h), b_is_more⟩, ⟨_, _, m_take, G_take.imp (fun _ _ _ _ h => take_page h), b_take⟩, ⟨_, _, m_take_exactly, G_take_exactly.imp (fun _ _ _ _ h => exactly_page h), b_take_exactly⟩,
    ⟨_, _, m_take_end, G_take_end, b_take_end⟩, ⟨_, _, m_new_name, G_new_name, b_new_name⟩, ⟨_, _, m_place, G_place, b_place⟩, ⟨_, _, m_number_from, G_number_from, b_number_from⟩, D_is_name, D_number_of, T.f_set, T.f_tuple⟩
  obtain ⟨f_take_people, d_take_people, e_take_people, F_take_people⟩ := T.d_take_people
  have B_take_people : L2.Binds K d_take_people ["lines"] [] := F_take_people.binds fun _ _ _ _ _ _ us hl => match us, hl with | [_], _ => rfl
  have O_take_people : FnOk P w K mg base CX0 3 f_take_people d_take_people ["lines"] (spPeople C K) := ok_people F_take_people ln
  have D_take_people : DefOk P w K mg base "take_people" 3 ["lines"] (spPeople C K) := ⟨f_take_people, d_take_people, e_take_people, F_take_people.kp, O_take_people, B_take_people⟩
  obtain ⟨f_take_cell, d_take_cell, e_take_cell, F_take_cell⟩ := T.d_take_cell
  have B_take_cell : L2.Binds K d_take_cell ["lines", "names"] [] := F_take_cell.binds fun _ _ _ _ _ _ us hl => match us, hl with | [_, _], _ => rfl
  have O_take_cell : FnOk P w K mg base CX0 4 f_take_cell d_take_cell ["lines", "names"] (spCell C K) := ok_cell F_take_cell ln
  have D_take_cell : DefOk P w K mg base "take_cell" 4 ["lines", "names"] (spCell C K) := ⟨f_take_cell, d_take_cell, e_take_cell, F_take_cell.kp, O_take_cell, B_take_cell⟩
  obtain ⟨f_take_cells, d_take_cells, e_take_cells, F_take_cells⟩ := T.d_take_cells
  have B_take_cells : L2.Binds K d_take_cells ["lines"] [] := F_take_cells.binds fun _ _ _ _ _ _ us hl => match us, hl with | [_], _ => rfl
  have O_take_cells : FnOk P w K mg base CX0 5 f_take_cells d_take_cells ["lines"] (spCells C K) := ok_cells F_take_cells ln D_take_cell
  have D_take_cells : DefOk P w K mg base "take_cells" 5 ["lines"] (spCells C K) := ⟨f_take_cells, d_take_cells, e_take_cells, F_take_cells.kp, O_take_cells, B_take_cells⟩
  obtain ⟨f_take_field, d_take_field, e_take_field, F_take_field⟩ := T.d_take_field
  have B_take_field : L2.Binds K d_take_field ["lines", "names"] [] := F_take_field.binds fun _ _ _ _ _ _ us hl => match us, hl with | [_, _], _ => rfl
  have O_take_field : FnOk P w K mg base CX0 4 f_take_field d_take_field ["lines", "names"] (spField C K) := ok_field F_take_field ln
  have D_take_field : DefOk P w K mg base "take_field" 4 ["lines", "names"] (spField C K) := ⟨f_take_field, d_take_field, e_take_field, F_take_field.kp, O_take_field, B_take_field⟩
  obtain ⟨f_take_kind, d_take_kind, e_take_kind, F_take_kind⟩ := T.d_take_kind
  have B_take_kind : L2.Binds K d_take_kind ["lines", "names"] [] := F_take_kind.binds fun _ _ _ _ _ _ us hl => match us, hl with | [_, _], _ => rfl
  have O_take_kind : FnOk P w K mg base CX0 5 f_take_kind d_take_kind ["lines", "names"] (spKind C K) := ok_kind F_take_kind ln D_take_field
  have D_take_kind : DefOk P w K mg base "take_kind" 5 ["lines", "names"] (spKind C K) := ⟨f_take_kind, d_take_kind, e_take_kind, F_take_kind.kp, O_take_kind, B_take_kind⟩
  obtain ⟨f_take_kinds, d_take_kinds, e_take_kinds, F_take_kinds⟩ := T.d_take_kinds
  have B_take_kinds : L2.Binds K d_take_kinds ["lines"] [] := F_take_kinds.binds fun _ _ _ _ _ _ us hl => match us, hl with | [_], _ => rfl
  have O_take_kinds : FnOk P w K mg base CX0 6 f_take_kinds d_take_kinds ["lines"] (spKinds C K) := ok_kinds F_take_kinds ln D_take_kind
  have D_take_kinds : DefOk P w K mg base "take_kinds" 6 ["lines"] (spKinds C K) := ⟨f_take_kinds, d_take_kinds, e_take_kinds, F_take_kinds.kp, O_take_kinds, B_take_kinds⟩
  obtain ⟨f_source_of_worth, d_source_of_worth, e_source_of_worth, F_source_of_worth⟩ := T.d_source_of_worth
  have B_source_of_worth : L2.Binds K d_source_of_worth ["lines", "word", "size", "cells", "pick"] [] := F_source_of_worth.binds fun _ _ _ _ _ _ us hl => match us, hl with | [_, _, _, _, _], _ => rfl
  have O_source_of_worth : FnOk P w K mg base CX0 2 f_source_of_worth d_source_of_worth ["lines", "word", "size", "cells", "pick"] (spSrcW C K) := ok_srcW F_source_of_worth ln
  have D_source_of_worth : DefOk P w K mg base "source_of_worth" 2 ["lines", "word", "size", "cells", "pick"] (spSrcW C K) := ⟨f_source_of_worth, d_source_of_worth, e_source_of_worth, F_source_of_worth.kp, O_source_of_worth, B_source_of_worth⟩
  obtain ⟨f_source_of_person, d_source_of_person, e_source_of_person, F_source_of_person⟩ := T.d_source_of_person
  have B_source_of_person : L2.Binds K d_source_of_person ["lines", "word", "people"] [] := F_source_of_person.binds fun _ _ _ _ _ _ us hl => match us, hl with | [_, _, _], _ => rfl
  have O_source_of_person : FnOk P w K mg base CX0 2 f_source_of_person d_source_of_person ["lines", "word", "people"] (spSrcP C K) := ok_srcP F_source_of_person ln
  have D_source_of_person : DefOk P w K mg base "source_of_person" 2 ["lines", "word", "people"] (spSrcP C K) := ⟨f_source_of_person, d_source_of_person, e_source_of_person, F_source_of_person.kp, O_source_of_person, B_source_of_person⟩
  obtain ⟨f_take_by, d_take_by, e_take_by, F_take_by⟩ := T.d_take_by
  have B_take_by : L2.Binds K d_take_by ["lines", "people"] [] := F_take_by.binds fun _ _ _ _ _ _ us hl => match us, hl with | [_, _], _ => rfl
  have O_take_by : FnOk P w K mg base CX0 3 f_take_by d_take_by ["lines", "people"] (spBy C K) := ok_by F_take_by ln
  have D_take_by : DefOk P w K mg base "take_by" 3 ["lines", "people"] (spBy C K) := ⟨f_take_by, d_take_by, e_take_by, F_take_by.kp, O_take_by, B_take_by⟩
  obtain ⟨f_take_test, d_take_test, e_take_test, F_take_test⟩ := T.d_take_test
  have B_take_test : L2.Binds K d_take_test ["lines", "cells"] [] := F_take_test.binds fun _ _ _ _ _ _ us hl => match us, hl with | [_, _], _ => rfl
  have O_take_test : FnOk P w K mg base CX0 4 f_take_test d_take_test ["lines", "cells"] (spTest C K) := ok_test F_take_test ln
  have D_take_test : DefOk P w K mg base "take_test" 4 ["lines", "cells"] (spTest C K) := ⟨f_take_test, d_take_test, e_take_test, F_take_test.kp, O_take_test, B_take_test⟩
  obtain ⟨f_take_pick, d_take_pick, e_take_pick, F_take_pick⟩ := T.d_take_pick
  have B_take_pick : L2.Binds K d_take_pick ["lines"] [] := F_take_pick.binds fun _ _ _ _ _ _ us hl => match us, hl with | [_], _ => rfl
  have O_take_pick : FnOk P w K mg base CX0 4 f_take_pick d_take_pick ["lines"] (spPick C) := ok_pick F_take_pick ln
  have D_take_pick : DefOk P w K mg base "take_pick" 4 ["lines"] (spPick C) := ⟨f_take_pick, d_take_pick, e_take_pick, F_take_pick.kp, O_take_pick, B_take_pick⟩
  obtain ⟨f_take_change, d_take_change, e_take_change, F_take_change⟩ := T.d_take_change
  have B_take_change : L2.Binds K d_take_change ["lines", "cells", "pick"] [] := F_take_change.binds fun _ _ _ _ _ _ us hl => match us, hl with | [_, _, _], _ => rfl
  have O_take_change : FnOk P w K mg base CX0 4 f_take_change d_take_change ["lines", "cells", "pick"] (spChange C K) := ok_change F_take_change ln D_source_of_worth
  have D_take_change : DefOk P w K mg base "take_change" 4 ["lines", "cells", "pick"] (spChange C K) := ⟨f_take_change, d_take_change, e_take_change, F_take_change.kp, O_take_change, B_take_change⟩
  obtain ⟨f_take_row, d_take_row, e_take_row, F_take_row⟩ := T.d_take_row
  have B_take_row : L2.Binds K d_take_row ["lines", "people", "cells", "kinds", "pick"] [] := F_take_row.binds fun _ _ _ _ _ _ us hl => match us, hl with | [_, _, _, _, _], _ => rfl
  have O_take_row : FnOk P w K mg base CX0 3 f_take_row d_take_row ["lines", "people", "cells", "kinds", "pick"] (spRow C K) := ok_row F_take_row ln T.f_zip D_source_of_worth D_source_of_person
  have D_take_row : DefOk P w K mg base "take_row" 3 ["lines", "people", "cells", "kinds", "pick"] (spRow C K) := ⟨f_take_row, d_take_row, e_take_row, F_take_row.kp, O_take_row, B_take_row⟩
  obtain ⟨fD, dD, kD, FD⟩ := T.k_Deed
  have dt : DTxt K mg D fD := ⟨T.c_Deed, T.n_Deed_name, T.n_Deed_by, T.n_Deed_tests, T.n_Deed_pick, T.n_Deed_changes, T.n_Deed_rows, T.g_Deed, kD⟩
  have bD : L2.Binds K dD ["self", "name", "by"] [] := FD.binds fun _ _ _ _ _ _ us hl => match us, hl with | [_, _, _], _ => rfl
  have GD : FnOk P w K mg base CX0 1 fD dD ["self", "name", "by"] (spDeedI D) := ok_deedI FD dt
  obtain ⟨f_take_deed, d_take_deed, e_take_deed, F_take_deed⟩ := T.d_take_deed
  have B_take_deed : L2.Binds K d_take_deed ["lines", "people", "cells", "kinds", "names"] [] := F_take_deed.binds fun _ _ _ _ _ _ us hl => match us, hl with | [_, _, _, _, _], _ => rfl
  have O_take_deed : FnOk P w K mg base CX0 5 f_take_deed d_take_deed ["lines", "people", "cells", "kinds", "names"] (spDeed C D K) := ok_deed F_take_deed ln dt GD bD D_take_by D_take_test D_take_pick D_take_change D_take_row
  have D_take_deed : DefOk P w K mg base "take_deed" 5 ["lines", "people", "cells", "kinds", "names"] (spDeed C D K) := ⟨f_take_deed, d_take_deed, e_take_deed, F_take_deed.kp, O_take_deed, B_take_deed⟩
  obtain ⟨f_take_deeds, d_take_deeds, e_take_deeds, F_take_deeds⟩ := T.d_take_deeds
  have B_take_deeds : L2.Binds K d_take_deeds ["lines", "people", "cells", "kinds"] [] := F_take_deeds.binds fun _ _ _ _ _ _ us hl => match us, hl with | [_, _, _, _], _ => rfl
  have O_take_deeds : FnOk P w K mg base CX0 6 f_take_deeds d_take_deeds ["lines", "people", "cells", "kinds"] (spDeeds C D K) := ok_deeds F_take_deeds ln dt D_take_deed
  have D_take_deeds : DefOk P w K mg base "take_deeds" 6 ["lines", "people", "cells", "kinds"] (spDeeds C D K) := ⟨f_take_deeds, d_take_deeds, e_take_deeds, F_take_deeds.kp, O_take_deeds, B_take_deeds⟩
  obtain ⟨fL, dL, kL, FL⟩ := T.k_Lines
  have bL : L2.Binds K dL ["self", "text"] [] := FL.binds fun _ _ _ _ _ _ us hl => match us, hl with | [_, _], _ => rfl
  have GL : FnOk P w K mg base CX0 1 fL dL ["self", "text"] (spLines C) := ok_lines FL lt T.f_isinstance T.f_str
  obtain ⟨fH, dH, kH, FH⟩ := T.k_House
  have ht : HTxt K mg E fH := ⟨T.c_House, T.n_House_text, T.n_House_people, T.n_House_cells, T.n_House_kinds, T.n_House_deeds, T.n_House_scripts, T.n_House_doings, T.n_House_day, T.g_House, kH⟩
  have bH : L2.Binds K dH ["self", "text"] [] := FH.binds fun _ _ _ _ _ _ us hl => match us, hl with | [_, _], _ => rfl
  have GH : FnOk P w K mg base CX0 7 fH dH ["self", "text"] (spHouse D E K) := ok_house FH ln ht kL GL bL dt T.f_sorted T.f_range D_take_people D_take_cells D_take_kinds D_take_deeds
  obtain ⟨f_is_from, d_is_from, e_is_from, F_is_from⟩ := T.d_is_from
  have B_is_from : L2.Binds K d_is_from ["value", "low", "limit"] [] := F_is_from.binds fun _ _ _ _ _ _ us hl => match us, hl with | [_, _, _], _ => rfl
  have O_is_from : FnOk P w K mg base CX0 1 f_is_from d_is_from ["value", "low", "limit"] spFrom := ok_from F_is_from ft
  have D_is_from : DefOk P w K mg base "is_from" 1 ["value", "low", "limit"] spFrom := ⟨f_is_from, d_is_from, e_is_from, F_is_from.kp, O_is_from, B_is_from⟩
  obtain ⟨f_is_tuple_of, d_is_tuple_of, e_is_tuple_of, F_is_tuple_of⟩ := T.d_is_tuple_of
  have B_is_tuple_of : L2.Binds K d_is_tuple_of ["value", "many"] [] := F_is_tuple_of.binds fun _ _ _ _ _ _ us hl => match us, hl with | [_, _], _ => rfl
  have O_is_tuple_of : FnOk P w K mg base CX0 1 f_is_tuple_of d_is_tuple_of ["value", "many"] (spTupOf K) := ok_tupOf F_is_tuple_of ft
  have D_is_tuple_of : DefOk P w K mg base "is_tuple_of" 1 ["value", "many"] (spTupOf K) := ⟨f_is_tuple_of, d_is_tuple_of, e_is_tuple_of, F_is_tuple_of.kp, O_is_tuple_of, B_is_tuple_of⟩
  obtain ⟨f_is_stand, d_is_stand, e_is_stand, F_is_stand⟩ := T.d_is_stand
  have B_is_stand : L2.Binds K d_is_stand ["house", "value"] [] := F_is_stand.binds fun _ _ _ _ _ _ us hl => match us, hl with | [_, _], _ => rfl
  have O_is_stand : FnOk P w K mg base CX0 2 f_is_stand d_is_stand ["house", "value"] (spStand D E K) := ok_stand F_is_stand st D_is_from D_is_tuple_of
  have D_is_stand : DefOk P w K mg base "is_stand" 2 ["house", "value"] (spStand D E K) := ⟨f_is_stand, d_is_stand, e_is_stand, F_is_stand.kp, O_is_stand, B_is_stand⟩
  obtain ⟨f_is_deed, d_is_deed, e_is_deed, F_is_deed⟩ := T.d_is_deed
  have B_is_deed : L2.Binds K d_is_deed ["house", "value"] [] := F_is_deed.binds fun _ _ _ _ _ _ us hl => match us, hl with | [_, _], _ => rfl
  have O_is_deed : FnOk P w K mg base CX0 2 f_is_deed d_is_deed ["house", "value"] (spIsDeed D E K) := ok_isDeed F_is_deed st D_is_from D_is_tuple_of
  have D_is_deed : DefOk P w K mg base "is_deed" 2 ["house", "value"] (spIsDeed D E K) := ⟨f_is_deed, d_is_deed, e_is_deed, F_is_deed.kp, O_is_deed, B_is_deed⟩
  obtain ⟨f_is_move, d_is_move, e_is_move, F_is_move⟩ := T.d_is_move
  have B_is_move : L2.Binds K d_is_move ["house", "value"] [] := F_is_move.binds fun _ _ _ _ _ _ us hl => match us, hl with | [_, _], _ => rfl
  have O_is_move : FnOk P w K mg base CX0 3 f_is_move d_is_move ["house", "value"] (spIsMove D E K) := ok_isMove F_is_move st D_is_deed
  have D_is_move : DefOk P w K mg base "is_move" 3 ["house", "value"] (spIsMove D E K) := ⟨f_is_move, d_is_move, e_is_move, F_is_move.kp, O_is_move, B_is_move⟩
  obtain ⟨f_holds, d_holds, e_holds, F_holds⟩ := T.d_holds
  have B_holds : L2.Binds K d_holds ["deed", "worths"] [] := F_holds.binds fun _ _ _ _ _ _ us hl => match us, hl with | [_, _], _ => rfl
  have O_holds : FnOk P w K mg base CX0 1 f_holds d_holds ["deed", "worths"] (spHolds D K) := ok_holds F_holds ft dt
  have D_holds : DefOk P w K mg base "holds" 1 ["deed", "worths"] (spHolds D K) := ⟨f_holds, d_holds, e_holds, F_holds.kp, O_holds, B_holds⟩
  obtain ⟨f_worked_out, d_worked_out, e_worked_out, F_worked_out⟩ := T.d_worked_out
  have B_worked_out : L2.Binds K d_worked_out ["source", "worths", "who", "it"] [] := F_worked_out.binds fun _ _ _ _ _ _ us hl => match us, hl with | [_, _, _, _], _ => rfl
  have O_worked_out : FnOk P w K mg base CX0 1 f_worked_out d_worked_out ["source", "worths", "who", "it"] (spWork K) := ok_work F_worked_out
  have D_worked_out : DefOk P w K mg base "worked_out" 1 ["source", "worths", "who", "it"] (spWork K) := ⟨f_worked_out, d_worked_out, e_worked_out, F_worked_out.kp, O_worked_out, B_worked_out⟩
  obtain ⟨f_first_stand, d_first_stand, e_first_stand, F_first_stand⟩ := T.d_first_stand
  have B_first_stand : L2.Binds K d_first_stand ["house"] [] := F_first_stand.binds fun _ _ _ _ _ _ us hl => match us, hl with | [_], _ => rfl
  have O_first_stand : FnOk P w K mg base CX0 1 f_first_stand d_first_stand ["house"] (spFirst D E K) := ok_first F_first_stand st
  have D_first_stand : DefOk P w K mg base "first_stand" 1 ["house"] (spFirst D E K) := ⟨f_first_stand, d_first_stand, e_first_stand, F_first_stand.kp, O_first_stand, B_first_stand⟩
  obtain ⟨f_is_possible, d_is_possible, e_is_possible, F_is_possible⟩ := T.d_is_possible
  have B_is_possible : L2.Binds K d_is_possible ["house", "stand", "move"] [] := F_is_possible.binds fun _ _ _ _ _ _ us hl => match us, hl with | [_, _, _], _ => rfl
  have O_is_possible : FnOk P w K mg base CX0 2 f_is_possible d_is_possible ["house", "stand", "move"] (spPoss D E K) := ok_poss F_is_possible st D_holds
  have D_is_possible : DefOk P w K mg base "is_possible" 2 ["house", "stand", "move"] (spPoss D E K) := ⟨f_is_possible, d_is_possible, e_is_possible, F_is_possible.kp, O_is_possible, B_is_possible⟩
  obtain ⟨f_possible_moves, d_possible_moves, e_possible_moves, F_possible_moves⟩ := T.d_possible_moves
  have B_possible_moves : L2.Binds K d_possible_moves ["house", "stand"] [] := F_possible_moves.binds fun _ _ _ _ _ _ us hl => match us, hl with | [_, _], _ => rfl
  have O_possible_moves : FnOk P w K mg base CX0 2 f_possible_moves d_possible_moves ["house", "stand"] (spPM D E K) := ok_PM F_possible_moves st D_holds
  have D_possible_moves : DefOk P w K mg base "possible_moves" 2 ["house", "stand"] (spPM D E K) := ⟨f_possible_moves, d_possible_moves, e_possible_moves, F_possible_moves.kp, O_possible_moves, B_possible_moves⟩
  obtain ⟨f_moves, d_moves, e_moves, F_moves⟩ := T.d_moves
  have B_moves : L2.Binds K d_moves ["house", "stand"] [] := F_moves.binds fun _ _ _ _ _ _ us hl => match us, hl with | [_, _], _ => rfl
  have O_moves : FnOk P w K mg base CX0 3 f_moves d_moves ["house", "stand"] (spMoves D E K) := ok_moves F_moves D_is_stand D_possible_moves
  have D_moves : DefOk P w K mg base "moves" 3 ["house", "stand"] (spMoves D E K) := ⟨f_moves, d_moves, e_moves, F_moves.kp, O_moves, B_moves⟩
  obtain ⟨f_changed, d_changed, e_changed, F_changed⟩ := T.d_changed
  have B_changed : L2.Binds K d_changed ["house", "deed", "worths", "who", "it"] [] := F_changed.binds fun _ _ _ _ _ _ us hl => match us, hl with | [_, _, _, _, _], _ => rfl
  have O_changed : FnOk P w K mg base CX0 2 f_changed d_changed ["house", "deed", "worths", "who", "it"] (spChanged D E K) := ok_changed F_changed st dt D_worked_out
  have D_changed : DefOk P w K mg base "changed" 2 ["house", "deed", "worths", "who", "it"] (spChanged D E K) := ⟨f_changed, d_changed, e_changed, F_changed.kp, O_changed, B_changed⟩
  obtain ⟨f_stand_behind, d_stand_behind, e_stand_behind, F_stand_behind⟩ := T.d_stand_behind
  have B_stand_behind : L2.Binds K d_stand_behind ["house", "stand", "move"] [] := F_stand_behind.binds fun _ _ _ _ _ _ us hl => match us, hl with | [_, _, _], _ => rfl
  have O_stand_behind : FnOk P w K mg base CX0 3 f_stand_behind d_stand_behind ["house", "stand", "move"] (spBehind D E K) := ok_behind F_stand_behind st dt D_worked_out D_changed
  have D_stand_behind : DefOk P w K mg base "stand_behind" 3 ["house", "stand", "move"] (spBehind D E K) := ⟨f_stand_behind, d_stand_behind, e_stand_behind, F_stand_behind.kp, O_stand_behind, B_stand_behind⟩
  obtain ⟨f_after, d_after, e_after, F_after⟩ := T.d_after
  have B_after : L2.Binds K d_after ["house", "stand", "move"] [] := F_after.binds fun _ _ _ _ _ _ us hl => match us, hl with | [_, _, _], _ => rfl
  have O_after : FnOk P w K mg base CX0 4 f_after d_after ["house", "stand", "move"] (spAfter D E K) := ok_after F_after D_is_stand D_is_move D_is_possible D_stand_behind
  have D_after : DefOk P w K mg base "after" 4 ["house", "stand", "move"] (spAfter D E K) := ⟨f_after, d_after, e_after, F_after.kp, O_after, B_after⟩
  obtain ⟨f_led, d_led, e_led, F_led⟩ := T.d_led
  have B_led : L2.Binds K d_led ["house", "run"] [] := F_led.binds fun _ _ _ _ _ _ us hl => match us, hl with | [_, _], _ => rfl
  have O_led : FnOk P w K mg base CX0 4 f_led d_led ["house", "run"] (spLed D E K) := ok_led F_led st T.f_enumerate D_first_stand D_is_move D_is_possible D_stand_behind
  have D_led : DefOk P w K mg base "led" 4 ["house", "run"] (spLed D E K) := ⟨f_led, d_led, e_led, F_led.kp, O_led, B_led⟩
  obtain ⟨f__law_pot_of, d__law_pot_of, e__law_pot_of, F__law_pot_of⟩ := T.d__law_pot_of
  have B__law_pot_of : L2.Binds K d__law_pot_of ["_law_script", "_law_k"] [] := F__law_pot_of.binds fun _ _ _ _ _ _ us hl => match us, hl with | [_, _], _ => rfl
  have O__law_pot_of : FnOk P w K mg base CX0 1 f__law_pot_of d__law_pot_of ["_law_script", "_law_k"] (spPot K) := ok_pot F__law_pot_of T.f_len T.f_int T.f_abs
  have D__law_pot_of : DefOk P w K mg base "_law_pot_of" 1 ["_law_script", "_law_k"] (spPot K) := ⟨f__law_pot_of, d__law_pot_of, e__law_pot_of, F__law_pot_of.kp, O__law_pot_of, B__law_pot_of⟩
  obtain ⟨f__law_take, d__law_take, e__law_take, F__law_take⟩ := T.d__law_take
  have B__law_take : L2.Binds K d__law_take ["_law_pot", "_law_upto"] [] := F__law_take.binds fun _ _ _ _ _ _ us hl => match us, hl with | [_, _], _ => rfl
  have O__law_take : FnOk P w K mg base CX0 1 f__law_take d__law_take ["_law_pot", "_law_upto"] spLTake := ok_ltake F__law_take T.f_int
  have D__law_take : DefOk P w K mg base "_law_take" 1 ["_law_pot", "_law_upto"] spLTake := ⟨f__law_take, d__law_take, e__law_take, F__law_take.kp, O__law_take, B__law_take⟩
  obtain ⟨f__law_unlike, d__law_unlike, e__law_unlike, F__law_unlike⟩ := T.d__law_unlike
  have B__law_unlike : L2.Binds K d__law_unlike ["_law_pot", "_law_some", "_law_upmost"] [] := F__law_unlike.binds fun _ _ _ _ _ _ us hl => match us, hl with | [_, _, _], _ => rfl
  have O__law_unlike : FnOk P w K mg base CX0 2 f__law_unlike d__law_unlike ["_law_pot", "_law_some", "_law_upmost"] (spUnlike K) := ok_unlike F__law_unlike D__law_take T.f_len T.f_range T.f_list T.f_tuple
  have D__law_unlike : DefOk P w K mg base "_law_unlike" 2 ["_law_pot", "_law_some", "_law_upmost"] (spUnlike K) := ⟨f__law_unlike, d__law_unlike, e__law_unlike, F__law_unlike.kp, O__law_unlike, B__law_unlike⟩
  obtain ⟨f__law_house_text, d__law_house_text, e__law_house_text, F__law_house_text⟩ := T.d__law_house_text
  have B__law_house_text : L2.Binds K d__law_house_text ["_law_names", "_law_first", "_law_step"] [] := F__law_house_text.binds fun _ _ _ _ _ _ us hl => match us, hl with | [_, _, _], _ => rfl
  have O__law_house_text : FnOk P w K mg base CX0 1 f__law_house_text d__law_house_text ["_law_names", "_law_first", "_law_step"] (spText K) := ok_text F__law_house_text T.f_str
  have D__law_house_text : DefOk P w K mg base "_law_house_text" 1 ["_law_names", "_law_first", "_law_step"] (spText K) := ⟨f__law_house_text, d__law_house_text, e__law_house_text, F__law_house_text.kp, O__law_house_text, B__law_house_text⟩
  obtain ⟨f7, d7, e7, F7⟩ := T.d__law_right
  have b7 : L2.Binds K d7 ["_law_pot"] [] := F7.binds fun _ _ _ _ _ _ us hl => match us, hl with | [_], _ => rfl
  have RT : RTxt P w K mg base D E := ⟨D__law_take, D__law_unlike, D__law_house_text, ⟨fH, dH, kH, GH, bH⟩, T.g_House, D_first_stand, D_moves, D_after, D_led, T.f_enumerate, T.f_range, T.f_sorted, T.f_tuple, T.f_int, T.f_repr⟩
  have G7 : FnG P w K mg base 9 f7 d7 ["_law_pot"] spRight := ok_right F7 RT
  exact ok_law F8 G7 b7 F7.kp e7 D__law_pot_of T.f_range T.f_max T.f_min T.f_len T.f_all
end Hx
set_option maxRecDepth 100000
set_option maxHeartbeats 0
/-! The head of the law. -/
namespace Hx
open PySem PySem.Spec PyProof.Rows L2
open PySem.W (Frag)
def hookX : PySem.W.Hook where
  α := AlX
  obs := fun s => obsX (He.frG s.heap.get? (He.asG s.heap.get? 5))
  val := fun _ => valX
  says := fun _ h => ∃ K : Frag, K.In h ∧ obsX K = valX
  of := fun _ _ e => ⟨_, He.frG_in, e⟩
  keeps := fun _ _ _ ⟨K, hK, c⟩ k => ⟨K, PySem.W.Frag.In.keeps hK k, c⟩
def obT (s : PySem.W.SharedT) : AlX := obsX (He.frG (HandSHeadRun.getT s) (He.asG (HandSHeadRun.getT s) 5))
theorem obT_eq (s : PySem.W.SharedT) : obT s = hookX.obs s.abs := by
  have e : HandSHeadRun.getT s = s.abs.heap.get? := funext (HandSHeadRun.getT_eq s)
  show obsX (He.frG (HandSHeadRun.getT s) (He.asG (HandSHeadRun.getT s) 5)) = obsX (He.frG s.abs.heap.get? (He.asG s.abs.heap.get? 5))
  rw [e]
abbrev rowK : PySem.W.OpenRow := PySem.W.OpenLaw.row PySem.Challenge.rw_givenout_k06_houses_by_hand
abbrev viewK : Program := PySem.W.view rowK.prog [53]
def names1 : List Str := ["GivenError", "BadText", "BadStand", "NoMove", "BadRun", "is_name", "number_of", "Lines", "Deed", "worked_out", "source_of_worth", "source_of_person", "take_by", "take_test", "take_pick", "take_change", "take_row", "take_deed", "NIGHT", "is_from", "is_tuple_of", "is_stand", "is_deed"]
def names2 : List Str := ["is_move", "first_stand", "holds", "is_possible", "possible_moves", "moves", "changed", "stand_behind", "after", "led", "take_people", "take_cell", "take_cells", "take_field", "take_kind", "take_kinds", "take_deeds", "House", "_law_pot_of", "_law_take", "_law_unlike", "_law_house_text", "_law_right"]
def names : List Str := names1 ++ names2
theorem run (w : World) : HandSHeadRun.RunEq rowK viewK hookX obT 9000 names w := by
  intro os
  kernel_rfl
end Hx
set_option maxRecDepth 100000
set_option maxHeartbeats 1000000
namespace L2
open PySem PySem.Spec PyProof.Rows
/-- what a head by facts leaves -/
theorem walkGE {l : PySem.W.OpenLaw} {n k : Nat} {q : Program} {loose : List Str} {XP : (Str → Option Value) → Heap → Prop} {YP : World → Heap → Prop} {d : DefRec} {sp : PySem.W.Frag → Sp} {x : Str}
    (most : l.most = some n) (fits : n ≤ sizeLine) (nod : d.params.defaults = []) (room : Room k callerA)
    (F : ∀ (w : World) (mg : Str → Option Value) (fa : Addr) (h : Heap), YP w h → h.Ns mainGlobals mg → mg d.name = some (.ref fa) →
      ∃ (K : PySem.W.Frag) (fd : FuncData), K.In h ∧ (∀ (s : Shared) (u : Value), BindsTo s fd ⟨[u], []⟩ [(x, u)]) ∧ ∀ base : Heap, K.In base → base.Ns mainGlobals mg → FnG l.prog w K mg base k fa fd [x] (sp K))
    (hsp : ∀ (K : PySem.W.Frag) (H : Hp) (a : Addr) (ns : List Int), ns.length ≤ n → Only H → SqL K H a (ns.map V.int) → sp K [.ref a] H (fun v _ => v = .bl true) E0) :
    PySem.W.WalkO q loose XP YP l.row.toRowW d [] (fun f vs => PySem.call f vs) := by
  refine Att.attach_call most nod fun w s₀ s₁ mg mb fa o pm cd doc a vs ns G Y ho hd hcd hmg hobj whole len gens => ?_
  obtain ⟨K, fd, KX, bind, made⟩ := F w mg fa _ Y G.T.g hmg
  exact callG KX G.T.g G.T.b G.T.builtins G.T.nolimit gens hobj whole (Nat.le_trans len fits) room made bind fun H only sq => hsp _ H a ns len only sq
end L2
namespace Hx
open PySem PySem.Spec PyProof.Rows L2
/-- the law's def and all that it calls, by what the heap says -/
theorem all_says {w : World} {K : PySem.W.Frag} {h : Heap} {mg : Str → Option Value} {fa : Addr} (X : K.In h) (G : h.Ns mainGlobals mg) (hfa : mg "law" = some (.ref fa)) (c : obsX K = valX) :
    ∃ fd : FuncData, (∀ (s : Shared) (u : Value), BindsTo s fd ⟨[u], []⟩ [("_law_script", u)]) ∧ ∀ base : Heap, K.In base → base.Ns mainGlobals mg → FnG PySem.Challenge.rw_givenout_k06_houses_by_hand.prog w K mg base 10 fa fd ["_law_script"] (spLaw K) := by
  have c1 : nightB K = true := congrArg (fun z : AlX => z.1) c
  have c2 : He.SaysE Hx.fa fn K := congrArg (fun z : AlX => z.2) c
  obtain ⟨fd, b, F⟩ := all_mk (P := PySem.Challenge.rw_givenout_k06_houses_by_hand.prog) (w := w) (told X G c2) (night_ok X G c1) hfa
  exact ⟨fd, b, fun base _ _ => F base⟩
end Hx
open PySem PySem.W PySem.Calls PyProof.Rows
set_option maxRecDepth 100000 in
set_option maxHeartbeats 0 in
theorem PySem.Challenge.cw_givenout_k06_houses_by_hand_holds : PySem.Challenge.rw_givenout_k06_houses_by_hand.Holds := by
  w_on; o_law
  refine HandSHeadRun.head_any (r := Hx.rowK) (q := Hx.viewK) (H := Hx.hookX) (ob := Hx.obT) (M := 9000) (loose := Hx.names) (d := HandSHeadRun.topDef Hx.rowK.prog 53) (kwd := []) Hx.obT_eq
    (by kernel_rfl) (fun s => by kernel_rfl) Hx.run (by kernel_rfl) (by kernel_rfl) (by kernel_rfl) (by rfl) (by first | assumption | decide +kernel) (by decide +kernel) ⟨rfl, rfl, rfl, rfl, rfl, by decide +kernel⟩ ?hw ?hc
  case hw => w_witness2
  case hc =>
    refine L2.walkGE (l := PySem.Challenge.rw_givenout_k06_houses_by_hand) (n := 63) (k := 10) (x := "_law_script") (sp := Hx.spLaw) rfl (by decide) (by kernel_rfl) ⟨rfl, by decide, by decide⟩ ?F ?S
    case F =>
      intro w mg fa h Y G hmg0
      obtain ⟨K, KX, c⟩ := Y
      have hmg : mg ("law" : PySem.Str) = some (.ref fa) := by
        have e : (HandSHeadRun.topDef Hx.rowK.prog 53).name = ("law" : PySem.Str) := by kernel_rfl
        rw [← e]
        exact hmg0
      obtain ⟨fd, hb, hF⟩ := Hx.all_says (w := w) KX G hmg c
      exact ⟨K, fd, KX, hb, hF⟩
    case S =>
      intro K H a ns _ _ hs
      exact ⟨a, ns, rfl, hs, fun _ => rfl⟩
