import PyProof.Rows.All
import Wide.All
import OpenK.AllK
import Wide.FinOn
import KE.KStateDown
import HandS.ForMost
import HandS.Style
import HandS.Strs
import HandS.Zip
import HandS.NoneIn
import HandS.DictComp
import HandS.IsInst
import HandS.Flow
import PyProof.StrOps2
import HandS.Walk
import KE.KxText
import KE.GoesMore
import KE.GoesZip
import PyProof.Rows.SetFrom
import HandS.List
import HandS.SortRule
import HandS.Comp
import HandS.TupAny
import HandS.Wide
import HandS.WideBits
import HandS.Dict
import KE.KDictLaws
import HandS.ExcInit
import HandS.Deep
import HandS.Head0
import HandS.Head1
import HandS.Head2
import HandS.HeadHook1
import PySem.Challenge.RW_givenout_k03_stands_and_moves
set_option Elab.async false
set_option linter.all false
set_option maxRecDepth 100000
set_option maxHeartbeats 4000000
/-! Lines of a text, taken one behind the other. -/
namespace Hx
open PySem PySem.Spec PyProof.Rows L2
def top (i : Nat) : Stmt := PySem.Challenge.pw_givenout_k03_stands_and_moves.main.body.getD i (.Pass ⟨0, 0, 0, 0⟩)
abbrev sIsName : Stmt := top 6
abbrev sNumberOf : Stmt := top 7
abbrev sLinesInit : Stmt := inClass (top 8) 0
abbrev sNeed : Stmt := inClass (top 8) 1
abbrev sWordsAhead : Stmt := inClass (top 8) 2
abbrev sIsNext : Stmt := inClass (top 8) 3
abbrev sIsMore : Stmt := inClass (top 8) 4
abbrev sTake : Stmt := inClass (top 8) 5
abbrev sExactly : Stmt := inClass (top 8) 6
abbrev sTakeEnd : Stmt := inClass (top 8) 7
abbrev sNewName : Stmt := inClass (top 8) 8
abbrev sPlace : Stmt := inClass (top 8) 9
abbrev sNumberFrom : Stmt := inClass (top 8) 10

theorem sz {n : Nat} (h : n ≤ 1000) : n ≤ sizeLine := Nat.le_of_lt (small1000 h)
theorem same_new {H : Hp} {p : Addr} (h : H p = none) (o : HO) : Same H (upd H p o) := fun b u q => by rw [upd_ne (ne_of_none q h)]; exact q
theorem same_sql {K : PySem.W.Frag} {H H' : Hp} {a : Addr} {xs : List V} (s : Same H H') (h : SqL K H a xs) : SqL K H' a xs := by
  rcases h with (h | ⟨o, h⟩) | h
  · exact .inl (.inl (s _ _ h))
  · exact .inl (.inr ⟨o, s _ _ h⟩)
  · exact .inr h
theorem same_sqt {K : PySem.W.Frag} {H H' : Hp} {a : Addr} {xs : List V} (s : Same H H') (h : SqT K H a xs) : SqT K H' a xs := by
  rcases h with (h | ⟨o, h⟩) | h
  · exact .inl (.inl (s _ _ h))
  · exact .inl (.inr ⟨o, s _ _ h⟩)
  · exact .inr h
theorem sqt_upd {K : PySem.W.Frag} {H : Hp} {a p C dx : Addr} {fs : List (Str × V)} {o : HO} {xs : List V} (e : H p = some (.ins C dx fs)) (h : SqT K H a xs) : SqT K (upd H p o) a xs := by
  rcases h with (h | ⟨o', h⟩) | h
  · exact .inl (.inl (by rw [upd_ne (fun z => by rw [z, e] at h; cases h)]; exact h))
  · exact .inl (.inr ⟨o', by rw [upd_ne (fun z => by rw [z, e] at h; cases h)]; exact h⟩)
  · exact .inr h
theorem same_refl (H : Hp) : Same H H := fun _ _ e => e
/-- all but p stands -/
def Bar (p : Addr) (H H' : Hp) : Prop := ∀ b o, b ≠ p → H b = some o → H' b = some o
theorem Bar.trans {p : Addr} {H H1 H2 : Hp} (a : Bar p H H1) (b : Bar p H1 H2) : Bar p H H2 := fun c o n e => b c o n (a c o n e)
theorem Bar.upd (p : Addr) (H : Hp) (o : HO) : Bar p H (upd H p o) := fun b u n e => by rw [upd_ne n]; exact e
theorem Bar.of {p : Addr} {H H' : Hp} (s : Same H H') : Bar p H H' := fun b o _ e => s b o e
theorem ite2 {A B : Prop} {c : Bool} (h1 : c = true → A) (h2 : c = false → B) : if c = true then A else B := by
  cases c with
  | true => exact iteT (h1 rfl)
  | false => exact iteF (h2 rfl)

/-! ### "  " * depth -/
section
variable {X : Cx}
theorem op_repS : OpR X (binaryOp .Mult) (fun x y H Q => ∃ (z : Str) (k : Int), x = .str z ∧ y = .int k ∧ (k = 0 ∨ k = 1) ∧ Q (.str (if k = 0 then Str.empty else z)) H) := by
  intro pins s σ H x y v u Q I rx ry h
  obtain ⟨z, k, rfl, rfl, hk, q⟩ := h
  obtain ⟨t, rfl⟩ := rx
  obtain ⟨t', rfl⟩ := ry
  rcases hk with rfl | rfl
  · exact PySem.P.mul_str_none (by decide) (by decide) ⟨.str Str.empty, H, I.tok _, ⟨_, rfl⟩, q⟩
  · refine PySem.P.mul_str (by decide) (fun _ h => absurd h (by simp)) (fun _ h => absurd h (by simp)) ?_
    rw [if_neg (by decide), if_pos (by simp)]
    exact ⟨.str z, H, I, ⟨_, rfl⟩, q⟩
end

/-! ### the words ahead -/
def ind (d : Int) : Str := if d = 0 then Str.empty else "  "
def ahead (rows : List Str) (n : Nat) (d : Int) : List Str := match rows[n]? with
  | none => []
  | some r => if Txt.startswith r (ind d) = true then Txt.split (cutS r (some (2 * d)) none) " " else []
/-- the object that takes lines: C its class, R its list of rows -/
structure LinesAt (C : Addr) (H : Hp) (L : Addr) (rows : List Str) (n : Nat) : Prop where
  ob : ∃ dx R, H L = some (.ins C dx [("rows", .ref R), ("number", .int n)]) ∧ H R = some (.lst (rows.map V.str))
  few : rows.length ≤ 900
  short : ∀ r ∈ rows, r.length ≤ 900
theorem LinesAt.same {C : Addr} {H H' : Hp} {L : Addr} {rows : List Str} {n : Nat} (s : Same H H') (h : LinesAt C H L rows n) : LinesAt C H' L rows n := by
  obtain ⟨⟨dx, R, e1, e2⟩, f, g⟩ := h
  exact ⟨⟨dx, R, s _ _ e1, s _ _ e2⟩, f, g⟩
/-- what the text tells of the class -/
structure LTxt (K : PySem.W.Frag) (mg : Str → Option Value) (C : Addr) : Prop where
  cl : Cls K C
  nR : NoAttr K C "rows"
  nN : NoAttr K C "number"
  mgC : mg "Lines" = some (.ref C)
  len : mg "len" = none
  all : mg "all" = none
  int : mg "int" = none
section
variable {P : Program} {w : World} {K : PySem.W.Frag} {mg : Str → Option Value} {base : Heap} {C : Addr}
def spAhead (C : Addr) : Sp := fun vs H Q _ => ∃ (L : Addr) (d : Int) (rows : List Str) (n : Nat), vs = [.ref L, .int d] ∧ LinesAt C H L rows n ∧ (d = 0 ∨ d = 1) ∧ n ≤ rows.length ∧
  ∀ (p : Addr) (H' : Hp), Same H H' → H p = none → H' p = some (.lst ((ahead rows n d).map V.str)) → Q (.ref p) H'
theorem scAhead : FnScope ["self", "depth", "row"] ["self", "depth"] (defScope sWordsAhead) := ⟨rfl, rfl, rfl, by decide +kernel, rfl, by decide +kernel, by decide +kernel⟩
theorem cut_len (z : Str) (lo hi : Option Int) : (cutS z lo hi).length ≤ z.length := by
  unfold cutS
  show ((z.cps.toList.drop _).take _).toArray.size ≤ z.cps.size
  rw [List.size_toArray, List.length_take, List.length_drop, Array.length_toList]
  omega
theorem ok_ahead {f : Addr} {fd : FuncData} (F : Fun K "words_ahead" "Lines.words_ahead" sWordsAhead f fd) (T : LTxt K mg C) : FnOk P w K mg base CX0 1 f fd ["self", "depth"] (spAhead C) := by
  refine F.ok scAhead (fun vs H Q E h => ?_) (fun cdv A outer s H vs Q E hr h => ?_)
  · obtain ⟨L, d, rows, n, rfl, _⟩ := h
    rfl
  obtain ⟨L, d, rows, n, rfl, LA, hd, hn, k⟩ := h
  obtain ⟨⟨dx, R, e1, e2⟩, few, short⟩ := id LA
  have nd := scAhead.nd
  refine ⟨_, pss_cons (ps_if (pt_cmpR op_eq (pe_fld (pv 0) rfl) (pe_callB call_len_seq rfl T.len PySem.boot_len (pa_cons (pe_fld (pv 0) rfl) pa_nil)) (nomark _)) (pss_one (ps_ret (pe_lst pa_nil))) pss_nil)
    (pss_cons (ps_set (i := 2) nd rfl (.inl rfl) (pe_ix ix_list (pe_fld (pv 0) rfl) (pe_fld (pv 0) rfl) (fun _ _ => rfl)))
    (pss_cons (ps_if (pt_not (pt_val (pe_m1 PySem.F.slot_str_startswith PySem.F.type_str_startswith mt_startswith (pv 2) (pe_op op_repS pe_str (pv 1))))) (pss_one (ps_ret (pe_lst pa_nil))) pss_nil)
    (pss_one (ps_ret (pe_split (pe_slice sl_str (pv 2) (po_some (pe_op op_mul pe_int (pv 1))) po_none) pe_str))))), ?_⟩
  refine ⟨_, rfl, L, C, dx, _, _, rfl, e1, T.cl, T.nN, rfl, _, rfl, L, C, dx, _, _, rfl, e1, T.cl, T.nR, rfl, R, _, rfl, .inl (SqL.of e2), rfl, _, rfl, ?_⟩
  refine ite2 (fun c => ?_) (fun c => ?_)
  · refine ⟨sz (by decide : 0 ≤ 1000), fun p hp => ?_⟩
    have c' : V.int (n : Int) = V.int ((rows.map V.str).length : Nat) := of_decide_eq_true c
    rw [List.length_map] at c'
    have e : n = rows.length := by
      have z := V.int.inj c'
      omega
    have ea : ahead rows n d = [] := by
      unfold ahead
      rw [e, List.getElem?_eq_none (Nat.le_refl _)]
    refine k p _ (same_new hp _) hp ?_
    rw [ea]
    exact upd_same
  · have c' : ¬ V.int (n : Int) = V.int ((rows.map V.str).length : Nat) := of_decide_eq_false c
    rw [List.length_map] at c'
    have lt : n < rows.length := by
      rcases Nat.lt_or_ge n rows.length with z | z
      · exact z
      · exact absurd (by rw [show n = rows.length by omega]) c'
    have er : rows[n]? = some rows[n] := List.getElem?_eq_getElem lt
    have at_n := atI_nat (xs := rows.map V.str) (j := n) (v := .str rows[n]) (by rw [List.getElem?_map, er] <;> rfl)
    have sh := short rows[n] (List.getElem_mem lt)
    generalize eR : rows[n] = r at *
    refine ⟨_, rfl, L, C, dx, _, _, rfl, e1, T.cl, T.nR, rfl, _, rfl, L, C, dx, _, _, rfl, e1, T.cl, T.nN, rfl, R, _, _, _, rfl, rfl, SqL.of e2, at_n, ?_⟩
    refine ⟨_, rfl, ⟨_, rfl⟩, _, rfl, _, d, rfl, rfl, hd, r, ind d, rfl, rfl, _, rfl, ?_⟩
    refine ite2 (fun c2 => ?_) (fun c2 => ?_)
    · refine ⟨sz (by decide : 0 ≤ 1000), fun p hp => ?_⟩
      have ea : ahead rows n d = [] := by
        unfold ahead
        rw [er]
        show (if Txt.startswith r (ind d) = true then _ else []) = []
        rw [if_neg (by rw [Bool.not_eq_true'] at c2; rw [c2]; decide)]
      refine k p _ (same_new hp _) hp ?_
      rw [ea]
      exact upd_same
    · have ea : ahead rows n d = Txt.split (cutS r (some (2 * d)) none) " " := by
        unfold ahead
        rw [er]
        show (if Txt.startswith r (ind d) = true then _ else []) = _
        rw [if_pos (by rw [Bool.not_eq_false'] at c2; exact c2)]
      have cl := cut_len r (some (2 * d)) none
      refine ⟨_, rfl, _, rfl, _, _, rfl, rfl, .inl ⟨by decide, by decide⟩, _, rfl, r, rfl, sz (by omega), ⟨_, rfl⟩, cutS r (some (2 * d)) none, " ", rfl, rfl, rfl, sz (by omega), fun p hp => ?_⟩
      refine k p _ (same_new hp _) hp ?_
      rw [ea]
      exact upd_same
end
end Hx
set_option maxRecDepth 100000
set_option maxHeartbeats 4000000
namespace Hx
open PySem PySem.Spec PyProof.Rows L2
/-! ### names and numbers -/
def nameB (w : Str) : Bool := decide (1 ≤ w.length) && (decide (w.length ≤ 8) && w.cps.toList.all fun c => decide (97 ≤ c) && decide (c ≤ 122))
def digitB (w : Str) : Bool := decide (w.length = 1) && w.cps.toList.all fun c => decide (48 ≤ c) && decide (c ≤ 57)
theorem set2 {σ : L2.St} {i : Nat} {x : V} : wipe ((wipe σ [i]).set i (some x)) [i] = wipe σ [i] := by simp [wipe]
theorem yes {σ : L2.St} {H : Hp} {A B : Hp → Prop} (h : A H) : tYes σ H fun b H3 => if b = true then A H3 else B H3 := by
  show if true = true then A H else B H
  rw [if_pos rfl]
  exact h
theorem get_same {σ : L2.St} {i : Nat} {x : V} (h : i < σ.length) : ((wipe σ [i]).set i (some x))[i]? = some (some x) := by
  simp [wipe, h]
theorem get_other {σ : L2.St} {i j : Nat} {x : V} {y : Option V} (h : σ[j]? = some y) (n : i ≠ j) : ((wipe σ [i]).set i (some x))[j]? = some y := by
  simp [wipe, List.getElem?_set_ne n, h]
theorem same_grow {H H' : Hp} {D : Addr} {o : HO} (hD : H D = none) (s : Same H H') : Same H (upd H' D o) := fun b u e => by
  rw [upd_ne (ne_of_none e hD)]
  exact s b u e
/-- all([sign in z for sign in x]) -/
theorem lc_signs {K : PySem.W.Frag} {σ : L2.St} {H : Hp} {x z : Str} {Q : VK} (e0 : σ[0]? = some (some (.str x))) (h1 : 1 < σ.length) (hz : x.length ≤ 900) (hx : ∀ c ∈ x.cps.toList, c ∈ z.cps.toList) (k : ∀ H', Same H H' → Q (.bl true) H') :
    tCB (rAll K) (tCons (tLc (iStr (tVar 0)) (gName 1) tYes (tOp (fun x y H Q => ∃ (c : Nat) (z : Str), x = .str ⟨#[c]⟩ ∧ y = .str z ∧ Q (.bl (decide (c ∈ z.cps.toList))) H) (tVar 1) (tC (.str z))) [1]) tNil) σ H Q := by
  refine ⟨_, e0, x, rfl, fun D hD => lc_it walk_str (fun i H' => Same H H' ∧ H' D = some (.lst ((List.replicate i true).map V.bl))) ⟨same_new hD _, upd_same⟩ (fun _ _ _ _ => trivial) ?_ ?_⟩
  · rintro i y H' H'' hi ⟨sm, eD⟩ ⟨rfl, c, ec, rfl⟩
    have hc : c ∈ x.cps.toList := by
      rw [Array.mem_toList_iff]
      exact Array.mem_of_getElem? ec
    refine ⟨set2, yes ⟨_, get_same h1, c, z, rfl, rfl, _, eD, ?_, same_grow hD sm, ?_⟩⟩
    · rw [List.length_map, List.length_replicate]
      exact small1000 (by have : x.cps.size ≤ 900 := hz; omega)
    · rw [upd_same, decide_eq_true (hx c hc), List.replicate_succ', List.map_append]
      rfl
  · rintro H' ⟨sm, eD⟩
    refine ⟨D, _, rfl, SqL.of eD, ?_⟩
    have e : (List.replicate x.cps.size true).all id = true := by simp
    rw [e]
    exact k H' sm
theorem letters : ∀ c < 123, 97 ≤ c → c ∈ ("abcdefghijklmnopqrstuvwxyz" : Str).cps.toList := by decide +kernel
theorem digits : ∀ c < 58, 48 ≤ c → c ∈ ("0123456789" : Str).cps.toList := by decide +kernel
theorem name_is {x : Str} (h : nameB x = true) : 1 ≤ x.length ∧ x.length ≤ 8 ∧ ∀ c ∈ x.cps.toList, 97 ≤ c ∧ c ≤ 122 := by
  unfold nameB at h
  simp only [Bool.and_eq_true, decide_eq_true_eq, List.all_eq_true] at h
  exact h
theorem digit_is {x : Str} (h : digitB x = true) : x.length = 1 ∧ ∀ c ∈ x.cps.toList, 48 ≤ c ∧ c ≤ 57 := by
  unfold digitB at h
  simp only [Bool.and_eq_true, decide_eq_true_eq, List.all_eq_true] at h
  exact h
theorem dp_words {K : PySem.W.Frag} (H : Hp) : ∀ xs : List Str, DpAll K H (xs.map V.str) (xs.map PyData.str)
  | [] => .nil
  | x :: r => .cons (.str x) (dp_words H r)
theorem flat_words : ∀ xs : List Str, (xs.map V.str).all flatV = true
  | [] => rfl
  | _ :: r => flat_words r
theorem lay_words : ∀ {xs : List Str}, (∀ x ∈ xs, PyData.strOk x = true) → PyData.canLayAll0 (xs.map PyData.str) = true ∧ PyData.depthAll (xs.map PyData.str) ≤ 1
  | [], _ => ⟨rfl, by decide⟩
  | x :: r, h => by
    obtain ⟨h1, h2⟩ := lay_words (xs := r) fun z hz => h z (List.mem_cons_of_mem _ hz)
    have hx := h x (List.mem_cons_self ..)
    refine ⟨?_, ?_⟩
    · simp [PyData.canLayAll0, PyData.canLay0, hx, h1]
    · simp [PyData.depthAll, PyData.depth, h2]
theorem shaped_words {xs : List Str} (h : ∀ x ∈ xs, PyData.strOk x = true) : SeqAt.shaped (.list (xs.map PyData.str)) = true := by
  obtain ⟨h1, h2⟩ := lay_words h
  unfold SeqAt.shaped
  have a : PyData.canLay0 (.list (xs.map PyData.str)) = true := by simpa [PyData.canLay0] using h1
  have b : PyData.depth (.list (xs.map PyData.str)) ≤ 64 := by
    have e : PyData.depth (.list (xs.map PyData.str)) = 1 + PyData.depthAll (xs.map PyData.str) := by simp [PyData.depth, Nat.add_comm]
    omega
  rw [a, decide_eq_true b]
  rfl
theorem in_words (y : Str) (xs : List Str) : inV (.str y) (xs.map V.str) = decide (y ∈ xs) := by
  induction xs with
  | nil => rfl
  | cons x r ih =>
    show (eqV (.str x) (.str y) || inV (.str y) (r.map V.str)) = _
    rw [ih]
    have e : eqV (.str x) (.str y) = decide (y = x) := by
      show (x == y) = _
      by_cases h : y = x
      · rw [h]; simp
      · simp [h, Ne.symm h]
    rw [e]
    simp [List.mem_cons]
section
variable {P : Program} {w : World} {K : PySem.W.Frag} {mg : Str → Option Value} {base : Heap} {C : Addr}
/-- is_name of a name -/
def spName : Sp := fun vs H Q _ => ∃ (x : Str), vs = [.str x] ∧ nameB x = true ∧ ∀ H', Same H H' → Q (.bl true) H'
theorem scName : FnScope ["word", "sign"] ["word"] (defScope sIsName) := ⟨rfl, rfl, rfl, by decide +kernel, rfl, by decide +kernel, by decide +kernel⟩
theorem ok_name {f : Addr} {fd : FuncData} (F : Fun K "is_name" "is_name" sIsName f fd) (ml : mg "len" = none) (ma : mg "all" = none) : FnOk P w K mg base CX0 1 f fd ["word"] spName := by
  refine F.ok scName (fun vs H Q E h => ?_) (fun cdv A outer s H vs Q E hr h => ?_)
  · obtain ⟨x, rfl, _⟩ := h
    rfl
  obtain ⟨x, rfl, hx, k⟩ := h
  have nd := scName.nd
  refine ⟨_, pss_one (ps_ret (pe_and (pe_chain op_le op_le pe_int (pe_callB call_len_str rfl ml PySem.boot_len (pa_cons (pv 0) pa_nil)) pe_int) (pe_one (pe_callB (cr_all rfl) rfl ma PyProof.Rows.boot_all (pa_cons
    (pe_lc (own := [("sign", 1)]) (g := gName 1) (tt := tYes) rfl nd (pi_str (pv 0)) (blkOk_by (N := ["word", "sign"]) (sc := defScope sIsName) (by decide +kernel)) (fun _ _ _ _ _ => pg_name (i := 1) nd rfl (Or.inl rfl)) (fun _ _ _ _ _ => pts_nil)
      (fun _ _ _ _ _ => pe_cmpR op_in_sign (pv 1) pe_str (by rfl))) pa_nil))))), ?_⟩
  obtain ⟨l1, l8, hc⟩ := name_is hx
  refine ⟨_, rfl, x, rfl, sz (by omega), _, _, rfl, rfl, _, rfl, ?_⟩
  refine ite2 (fun _ => ?_) (fun c => absurd (of_decide_eq_false c) (by omega))
  refine ⟨_, _, rfl, rfl, _, rfl, ?_⟩
  refine ite2 (fun _ => ?_) (fun c => absurd (of_decide_eq_false c) (by omega))
  exact lc_signs rfl (by show 1 < 2; decide) (by omega) (fun c hc' => letters c (by have := hc c hc'; omega) (hc c hc').1) k
/-- number_of a digit -/
def spNumOf : Sp := fun vs H Q _ => ∃ (x : Str) (n : Int), vs = [.str x] ∧ digitB x = true ∧ PySem.intText? x = some n ∧ ∀ H', Same H H' → Q (.int n) H'
theorem scNumOf : FnScope ["word", "sign"] ["word"] (defScope sNumberOf) := ⟨rfl, rfl, rfl, by decide +kernel, rfl, by decide +kernel, by decide +kernel⟩
theorem ok_numOf {f : Addr} {fd : FuncData} (F : Fun K "number_of" "number_of" sNumberOf f fd) (ml : mg "len" = none) (ma : mg "all" = none) (mi : mg "int" = none) : FnOk P w K mg base CX0 1 f fd ["word"] spNumOf := by
  refine F.ok scNumOf (fun vs H Q E h => ?_) (fun cdv A outer s H vs Q E hr h => ?_)
  · obtain ⟨x, n, rfl, _⟩ := h
    rfl
  obtain ⟨x, n, rfl, hx, hn, k⟩ := h
  have nd := scNumOf.nd
  refine ⟨_, pss_cons (ps_if (PW.pt (pw_or (pt_not (pt_chain op_le op_le pe_int (pe_callB call_len_str rfl ml PySem.boot_len (pa_cons (pv 0) pa_nil)) pe_int)) (pw_or1 (pt_not (pt_val (pe_callB (cr_all rfl) rfl ma PyProof.Rows.boot_all (pa_cons
      (pe_lc (own := [("sign", 1)]) (g := gName 1) (tt := tYes) rfl nd (pi_str (pv 0)) (blkOk_by (N := ["word", "sign"]) (sc := defScope sNumberOf) (by decide +kernel)) (fun _ _ _ _ _ => pg_name (i := 1) nd rfl (Or.inl rfl)) (fun _ _ _ _ _ => pts_nil)
      (fun _ _ _ _ _ => pe_cmpR op_in_sign (pv 1) pe_str (by rfl))) pa_nil))))))) pss_never pss_nil)
    (pss_cons (ps_if (PW.pt (pw_and (pt_cmpR op_gt (pe_callB call_len_str rfl ml PySem.boot_len (pa_cons (pv 0) pa_nil)) pe_int (nomark _)) (pw_and1 (pt_cmpR op_eq (pe_item_str (pv 0) pe_int (fun _ _ => rfl)) pe_str (nomark _))))) pss_never pss_nil)
    (pss_one (ps_ret (pe_callTy call_int_str rfl mi PyProof.Rows.Boot.«int» (pa_cons (pv 0) pa_nil))))), ?_⟩
  obtain ⟨l1, hc⟩ := digit_is hx
  refine ⟨_, rfl, x, rfl, sz (by omega), _, _, rfl, rfl, _, rfl, ?_⟩
  refine ite2 (fun _ => ?_) (fun c => absurd (of_decide_eq_false c) (by omega))
  refine ⟨_, _, rfl, rfl, _, rfl, ?_⟩
  have e1 : (decide (1 ≤ (x.length : Int)) && decide ((x.length : Int) ≤ 9)) = true := by
    rw [decide_eq_true (by omega), decide_eq_true (by omega)]
    rfl
  show if (!decide ((x.length : Int) ≤ 9)) = true then _ else _
  rw [decide_eq_true (by omega : (x.length : Int) ≤ 9)]
  refine iteF ?_
  refine lc_signs rfl (by show 1 < 2; decide) (by omega) (fun c hc' => digits c (by have := hc c hc'; omega) (hc c hc').1) fun H1 s1 => ?_
  refine ⟨_, rfl, iteF ?_⟩
  refine ⟨_, rfl, x, rfl, sz (by omega), _, _, rfl, rfl, _, rfl, ?_⟩
  rw [decide_eq_false (by omega : ¬ (1 : Int) < (x.length : Int))]
  refine iteF ?_
  exact ⟨_, rfl, x, n, rfl, hn, by omega, k H1 s1⟩
/-! ### need -/
def spNeed : Sp := fun vs H Q _ => ∃ (L : Addr), vs = [.ref L, .bl true] ∧ Q .non H
theorem scNeed : FnScope ["self", "holds"] ["self", "holds"] (defScope sNeed) := ⟨rfl, rfl, rfl, by decide +kernel, rfl, by decide +kernel, by decide +kernel⟩
theorem ok_need {f : Addr} {fd : FuncData} (F : Fun K "need" "Lines.need" sNeed f fd) : FnOk P w K mg base CX0 1 f fd ["self", "holds"] spNeed := by
  refine F.ok scNeed (fun vs H Q E h => ?_) (fun cdv A outer s H vs Q E hr h => ?_)
  · obtain ⟨L, rfl, _⟩ := h
    rfl
  obtain ⟨L, rfl, k⟩ := h
  exact ⟨_, pss_one (ps_if (pt_not (pt_val (pv 1))) pss_never pss_nil), _, rfl, _, rfl, iteF k⟩
/-! ### is_next -/
/-- the words are plain signs, few -/
def nextB (ws : List Str) (xs : List Str) : Bool := match ws with
  | [] => false
  | x :: _ => decide (x ∈ xs)
def spNext (C : Addr) (K : PySem.W.Frag) : Sp := fun vs H Q _ => ∃ (L t : Addr) (d : Int) (rows xs : List Str) (n : Nat), vs = [.ref L, .int d, .ref t] ∧ LinesAt C H L rows n ∧ (d = 0 ∨ d = 1) ∧ n ≤ rows.length ∧ SqT K H t (xs.map V.str) ∧
  (∀ x ∈ ahead rows n d, PyData.strOk x = true) ∧ ∀ H', Same H H' → Q (.bl (nextB (ahead rows n d) xs)) H'
theorem scNext : FnScope ["self", "depth", "words", "ahead"] ["self", "depth", "words"] (defScope sIsNext) := ⟨rfl, rfl, rfl, by decide +kernel, rfl, by decide +kernel, by decide +kernel⟩
theorem ok_next {f fA : Addr} {fd dA : FuncData} (F : Fun K "is_next" "Lines.is_next" sIsNext f fd) (T : LTxt K mg C) (GA : FnOk P w K mg base CX0 1 fA dA ["self", "depth"] (spAhead C)) (bA : Binds K dA ["self", "depth"] []) (mA : Meth K C "words_ahead" fA) :
    FnOk P w K mg base CX0 2 f fd ["self", "depth", "words"] (spNext C K) := by
  refine F.ok scNext (fun vs H Q E h => ?_) (fun cdv A outer s H vs Q E hr h => ?_)
  · obtain ⟨L, t, d, rows, xs, n, rfl, _⟩ := h
    rfl
  obtain ⟨L, t, d, rows, xs, n, rfl, LA, hd, hn, ht, hw, k⟩ := h
  have nd := scNext.nd
  have hu := hr.units
  refine ⟨_, pss_cons (ps_set (i := 3) nd rfl (.inl rfl) (pe_meth (pv 0) T.cl mA GA hr bA .nil pass0 (pa_cons (pv 1) pa_nil)))
    (pss_one (ps_ret (pe_and (pe_cmpR (op_neD hu) (pv 3) (pe_lst pa_nil) (nomark _)) (pe_one (pe_cmpR op_in_seq (pe_ix ix_list (pv 3) pe_int (fun _ _ => rfl)) (pv 2) (by rfl)))))), ?_⟩
  obtain ⟨⟨dx, R, g1, g2⟩, few, short⟩ := id LA
  refine ⟨_, rfl, L, dx, _, rfl, g1, rfl, _, rfl, L, d, rows, n, rfl, LA, hd, hn, fun p H1 s1 np e1 => ?_⟩
  refine ⟨_, rfl, sz (by decide : 0 ≤ 1000), fun q hq => ?_⟩
  have e2 := same_new hq (.lst []) _ _ e1
  have s2 := s1.trans (same_new hq (.lst []))
  refine ⟨.list ((ahead rows n d).map PyData.str), .list [], .lst (SqL.of e2) (dp_words _ _), .lst (SqL.of upd_same) .nil, shaped_words hw, rfl, ?_⟩
  cases ea : ahead rows n d with
  | nil =>
    rw [ea] at k
    exact ⟨_, rfl, iteF (k _ s2)⟩
  | cons y r =>
    rw [ea] at k e2
    refine ⟨_, rfl, iteT ?_⟩
    refine ⟨_, rfl, p, _, 0, .str y, rfl, rfl, SqL.of e2, atI_nat (j := 0) rfl, _, rfl, t, _, rfl, .inr (same_sqt s2 ht), rfl, flat_words _, ?_⟩
    have e3 : inV (.str y) (xs.map V.str) = nextB (y :: r) xs := in_words _ _
    show Q (.bl (inV (.str y) (xs.map V.str))) _
    rw [e3]
    exact k _ s2
/-! ### is_more -/
def spMore (C : Addr) (K : PySem.W.Frag) : Sp := fun vs H Q _ => ∃ (L t l : Addr) (d : Int) (rows xs : List Str) (n : Nat) (found : List V) (least most : Int), vs = [.ref L, .int d, .ref t, .ref l, .int least, .int most] ∧ LinesAt C H L rows n ∧ (d = 0 ∨ d = 1) ∧ n ≤ rows.length ∧
  SqT K H t (xs.map V.str) ∧ (∀ x ∈ ahead rows n d, PyData.strOk x = true) ∧ SqL K H l found ∧
  ∀ H', Same H H' → Q (.bl (decide ((found.length : Int) < least) || (decide ((found.length : Int) < most) && nextB (ahead rows n d) xs))) H'
theorem scMore : FnScope ["self", "depth", "words", "found", "least", "most"] ["self", "depth", "words", "found", "least", "most"] (defScope sIsMore) := ⟨rfl, rfl, rfl, by decide +kernel, rfl, by decide +kernel, by decide +kernel⟩
theorem ok_more {f fN : Addr} {fd dN : FuncData} (F : Fun K "is_more" "Lines.is_more" sIsMore f fd) (T : LTxt K mg C) (GN : FnOk P w K mg base CX0 2 fN dN ["self", "depth", "words"] (spNext C K)) (bN : Binds K dN ["self", "depth", "words"] []) (mN : Meth K C "is_next" fN) :
    FnOk P w K mg base CX0 3 f fd ["self", "depth", "words", "found", "least", "most"] (spMore C K) := by
  refine F.ok scMore (fun vs H Q E h => ?_) (fun cdv A outer s H vs Q E hr h => ?_)
  · obtain ⟨L, t, l, d, rows, xs, n, found, least, most, rfl, _⟩ := h
    rfl
  obtain ⟨L, t, l, d, rows, xs, n, found, least, most, rfl, LA, hd, hn, ht, hw, hl, k⟩ := h
  refine ⟨_, pss_cons (ps_if (pt_cmpR op_lt (pe_callB call_len_seq rfl T.len PySem.boot_len (pa_cons (pv 3) pa_nil)) (pv 4) (nomark _)) (pss_one (ps_ret pe_bl)) pss_nil)
    (pss_one (ps_ret (pe_and (pe_cmpR op_lt (pe_callB call_len_seq rfl T.len PySem.boot_len (pa_cons (pv 3) pa_nil)) (pv 5) (nomark _)) (pe_one (pe_meth (pv 0) T.cl mN GN hr bN .nil pass0 (pa_cons (pv 1) (pa_cons (pv 2) pa_nil))))))), ?_⟩
  refine ⟨_, rfl, l, _, rfl, .inl hl, _, rfl, _, _, rfl, rfl, _, rfl, ?_⟩
  refine ite2 (fun c => ?_) (fun c => ?_)
  · rw [c, Bool.true_or] at k
    exact k H (same_refl H)
  · rw [c, Bool.false_or] at k
    refine ⟨_, rfl, l, _, rfl, .inl hl, _, rfl, _, _, rfl, rfl, _, rfl, ?_⟩
    refine ite2 (fun c2 => ?_) (fun c2 => ?_)
    · rw [c2, Bool.true_and] at k
      obtain ⟨⟨dx, R, g1, g2⟩, few, short⟩ := id LA
      exact ⟨_, rfl, L, dx, _, rfl, g1, rfl, _, rfl, _, rfl, L, t, d, rows, xs, n, rfl, LA, hd, hn, ht, hw, k⟩
    · rw [c2, Bool.false_and] at k
      exact k H (same_refl H)
end
end Hx
set_option maxRecDepth 100000
set_option maxHeartbeats 4000000
namespace Hx
open PySem PySem.Spec PyProof.Rows L2
section
variable {P : Program} {w : World} {K : PySem.W.Frag} {mg : Str → Option Value} {base : Heap} {C : Addr}
theorem ne_ {L : Addr} {b : Bool} (h : b = true) : [V.ref L, V.bl b] = [V.ref L, V.bl true] := by rw [h]
theorem eqV_str (x y : Str) : eqV (.str x) (.str y) = decide (x = y) := by
  show (x == y) = _
  by_cases h : x = y
  · rw [h]; simp
  · simp [h]
theorem first_of {names : List Str} {x : Str} {j : Nat} (hnd : names.Nodup) (hj : names[j]? = some x) : ∀ (m : Nat) (z' : V), m < j → (names.map V.str)[m]? = some z' → eqV z' (.str x) = false := fun m z' hm' ez => by
  rw [List.getElem?_map] at ez
  cases e : names[m]? with
  | none =>
    rw [e] at ez
    cases ez
  | some y =>
    rw [e] at ez
    cases ez
    rw [eqV_str]
    refine decide_eq_false fun z => ?_
    have q := nodup_ix hnd (by rw [e, z]) hj
    omega
/-! ### take -/
def spTake (C : Addr) (K : PySem.W.Frag) : Sp := fun vs H Q _ => ∃ (L t : Addr) (d : Int) (rows xs : List Str) (n : Nat), vs = [.ref L, .int d, .ref t] ∧ LinesAt C H L rows n ∧ (d = 0 ∨ d = 1) ∧ n ≤ rows.length ∧ SqT K H t (xs.map V.str) ∧
  (∀ x ∈ ahead rows n d, PyData.strOk x = true) ∧ nextB (ahead rows n d) xs = true ∧ ∀ p H', Bar L H H' → H p = none → p ≠ L → H' p = some (.lst ((ahead rows n d).map V.str)) → LinesAt C H' L rows (n + 1) → Q (.ref p) H'
theorem scTake : FnScope ["self", "depth", "words", "ahead"] ["self", "depth", "words"] (defScope sTake) := ⟨rfl, rfl, rfl, by decide +kernel, rfl, by decide +kernel, by decide +kernel⟩
theorem ok_take {f fA fN : Addr} {fd dA dN : FuncData} (F : Fun K "take" "Lines.take" sTake f fd) (T : LTxt K mg C) (GA : FnOk P w K mg base CX0 1 fA dA ["self", "depth"] (spAhead C)) (bA : Binds K dA ["self", "depth"] []) (mA : Meth K C "words_ahead" fA)
    (GN : FnOk P w K mg base CX0 1 fN dN ["self", "holds"] spNeed) (bN : Binds K dN ["self", "holds"] []) (mN : Meth K C "need" fN) :
    FnOk P w K mg base CX0 2 f fd ["self", "depth", "words"] (spTake C K) := by
  refine F.ok scTake (fun vs H Q E h => ?_) (fun cdv A outer s H vs Q E hr h => ?_)
  · obtain ⟨L, t, d, rows, xs, n, rfl, _⟩ := h
    rfl
  obtain ⟨L, t, d, rows, xs, n, rfl, LA, hd, hn, ht, hw, hx, k⟩ := h
  have nd := scTake.nd
  have hu := hr.units
  refine ⟨_, pss_cons (ps_set (i := 3) nd rfl (.inl rfl) (pe_meth (pv 0) T.cl mA GA hr bA .nil pass0 (pa_cons (pv 1) pa_nil)))
    (pss_cons (ps_fldaug (pv 0) pe_int in_add)
    (pss_cons (ps_expr (pe_meth (pv 0) T.cl mN GN hr bN .nil pass0 (pa_cons (pe_and (pe_cmpR (op_neD hu) (pv 3) (pe_lst pa_nil) (nomark _)) (pe_one (pe_cmpR op_in_seq (pe_ix ix_list (pv 3) pe_int (fun _ _ => rfl)) (pv 2) (by rfl)))) pa_nil)))
    (pss_one (ps_ret (pv 3))))), ?_⟩
  obtain ⟨⟨dx, R, g1, g2⟩, few, short⟩ := id LA
  have lt : n < rows.length := by
    rcases Nat.lt_or_ge n rows.length with z | z
    · exact z
    · unfold ahead at hx
      rw [List.getElem?_eq_none z] at hx
      cases hx
  refine ⟨_, rfl, L, dx, _, rfl, g1, rfl, _, rfl, L, d, rows, n, rfl, LA, hd, hn, fun p H1 s1 np e1 => ?_⟩
  have npL : p ≠ L := fun z => by
    rw [z, g1] at np
    cases np
  have l1 := s1 _ _ g1
  refine ⟨_, rfl, L, C, dx, _, _, rfl, l1, T.cl, T.nN, rfl, _, _, rfl, rfl, dx, _, l1, (by show 2 < 1000; decide), ?_⟩
  have l2 : ∀ o, upd H1 L o L = some o := fun o => upd_same
  have nRL : R ≠ L := fun z => by
    rw [z, g1] at g2
    cases g2
  have b2 : Bar L H (upd H1 L (.ins C dx (putF "number" (.int ((n : Int) + 1)) [("rows", .ref R), ("number", .int n)]))) := (Bar.of s1).trans (Bar.upd L H1 _)
  have e2 : upd H1 L (.ins C dx (putF "number" (.int ((n : Int) + 1)) [("rows", .ref R), ("number", .int n)])) p = some (.lst ((ahead rows n d).map V.str)) := by
    rw [upd_ne npL]
    exact e1
  have la2 : LinesAt C (upd H1 L (.ins C dx (putF "number" (.int ((n : Int) + 1)) [("rows", .ref R), ("number", .int n)]))) L rows (n + 1) := ⟨⟨dx, R, upd_same, by rw [upd_ne nRL]; exact s1 _ _ g2⟩, few, short⟩
  have t2 : SqT K (upd H1 L (.ins C dx (putF "number" (.int ((n : Int) + 1)) [("rows", .ref R), ("number", .int n)]))) t (xs.map V.str) := sqt_upd l1 (same_sqt s1 ht)
  generalize upd H1 L (.ins C dx (putF "number" (.int ((n : Int) + 1)) [("rows", .ref R), ("number", .int n)])) = H2 at *
  obtain ⟨⟨dy, R2, c1, c2⟩, _, _⟩ := id la2
  refine ⟨_, rfl, L, dy, _, rfl, c1, rfl, _, rfl, sz (by decide : 0 ≤ 1000), fun q hq => ?_⟩
  have e3 := same_new hq (.lst []) _ _ e2
  have s3 := same_new hq (.lst [])
  refine ⟨.list ((ahead rows n d).map PyData.str), .list [], .lst (SqL.of e3) (dp_words _ _), .lst (SqL.of upd_same) .nil, shaped_words hw, rfl, ?_⟩
  cases ea : ahead rows n d with
  | nil =>
    rw [ea] at hx
    cases hx
  | cons y r =>
    rw [ea] at k e3 hx
    refine ⟨_, rfl, iteT ?_⟩
    refine ⟨_, rfl, p, _, 0, .str y, rfl, rfl, SqL.of e3, atI_nat (j := 0) rfl, _, rfl, t, _, rfl, .inr (same_sqt s3 t2), rfl, flat_words _, ?_⟩
    have e4 : inV (.str y) (xs.map V.str) = true := (in_words _ _).trans hx
    exact ⟨L, ne_ e4, _, rfl, k p _ (b2.trans (Bar.of s3)) np npL e3 (la2.same s3)⟩
/-! ### take_exactly -/
def spExactly (C : Addr) (K : PySem.W.Frag) : Sp := fun vs H Q _ => ∃ (L t : Addr) (d many : Int) (rows xs : List Str) (n : Nat), vs = [.ref L, .int d, .ref t, .int many] ∧ LinesAt C H L rows n ∧ (d = 0 ∨ d = 1) ∧ n ≤ rows.length ∧ SqT K H t (xs.map V.str) ∧
  (∀ x ∈ ahead rows n d, PyData.strOk x = true) ∧ nextB (ahead rows n d) xs = true ∧ ((ahead rows n d).length : Int) = many ∧ ∀ p H', Bar L H H' → H p = none → p ≠ L → H' p = some (.lst ((ahead rows n d).map V.str)) → LinesAt C H' L rows (n + 1) → Q (.ref p) H'
theorem scExactly : FnScope ["self", "depth", "words", "many", "ahead"] ["self", "depth", "words", "many"] (defScope sExactly) := ⟨rfl, rfl, rfl, by decide +kernel, rfl, by decide +kernel, by decide +kernel⟩
theorem ok_exactly {f fT fN : Addr} {fd dT dN : FuncData} (F : Fun K "take_exactly" "Lines.take_exactly" sExactly f fd) (T : LTxt K mg C) (GT : FnOk P w K mg base CX0 2 fT dT ["self", "depth", "words"] (spTake C K)) (bT : Binds K dT ["self", "depth", "words"] []) (mT : Meth K C "take" fT)
    (GN : FnOk P w K mg base CX0 1 fN dN ["self", "holds"] spNeed) (bN : Binds K dN ["self", "holds"] []) (mN : Meth K C "need" fN) :
    FnOk P w K mg base CX0 3 f fd ["self", "depth", "words", "many"] (spExactly C K) := by
  refine F.ok scExactly (fun vs H Q E h => ?_) (fun cdv A outer s H vs Q E hr h => ?_)
  · obtain ⟨L, t, d, many, rows, xs, n, rfl, _⟩ := h
    rfl
  obtain ⟨L, t, d, many, rows, xs, n, rfl, LA, hd, hn, ht, hw, hx, hm, k⟩ := h
  have nd := scExactly.nd
  have hr1 : Room 1 (A.deeper (envOfC "Lines.take_exactly" (defScope sExactly) s.heap.objs.size f cdv)) := hr.mono (by decide)
  refine ⟨_, pss_cons (ps_set (i := 4) nd rfl (.inl rfl) (pe_meth (pv 0) T.cl mT GT hr bT .nil pass0 (pa_cons (pv 1) (pa_cons (pv 2) pa_nil))))
    (pss_cons (ps_expr (pe_meth (pv 0) T.cl mN GN hr1 bN .nil pass0 (pa_cons (pe_cmpR op_eq (pe_callB call_len_seq rfl T.len PySem.boot_len (pa_cons (pv 4) pa_nil)) (pv 3) (nomark _)) pa_nil)))
    (pss_one (ps_ret (pv 4)))), ?_⟩
  obtain ⟨⟨dx, R, g1, g2⟩, few, short⟩ := id LA
  refine ⟨_, rfl, L, dx, _, rfl, g1, rfl, _, rfl, _, rfl, L, t, d, rows, xs, n, rfl, LA, hd, hn, ht, hw, hx, fun p H1 b1 np npL e1 la1 => ?_⟩
  obtain ⟨⟨dy, R2, c1, c2⟩, _, _⟩ := id la1
  refine ⟨_, rfl, L, dy, _, rfl, c1, rfl, _, rfl, p, _, rfl, .inl (SqL.of e1), _, rfl, rfl, ?_⟩
  have e : decide (V.int (((ahead rows n d).map V.str).length : Nat) = V.int many) = true := by rw [List.length_map, hm]; exact decide_eq_true rfl
  exact ⟨L, ne_ e, _, rfl, k p H1 b1 np npL e1 la1⟩
/-! ### take_end -/
def spEnd (C : Addr) : Sp := fun vs H Q _ => ∃ (L : Addr) (rows : List Str), vs = [.ref L] ∧ LinesAt C H L rows rows.length ∧ Q .non H
theorem scEnd : FnScope ["self"] ["self"] (defScope sTakeEnd) := ⟨rfl, rfl, rfl, by decide +kernel, rfl, by decide +kernel, by decide +kernel⟩
theorem ok_end {f : Addr} {fd : FuncData} (F : Fun K "take_end" "Lines.take_end" sTakeEnd f fd) (T : LTxt K mg C) : FnOk P w K mg base CX0 1 f fd ["self"] (spEnd C) := by
  refine F.ok scEnd (fun vs H Q E h => ?_) (fun cdv A outer s H vs Q E hr h => ?_)
  · obtain ⟨L, rows, rfl, _⟩ := h
    rfl
  obtain ⟨L, rows, rfl, LA, k⟩ := h
  obtain ⟨⟨dx, R, e1, e2⟩, few, short⟩ := id LA
  refine ⟨_, pss_one (ps_if (pt_cmpR op_lt (pe_fld (pv 0) rfl) (pe_callB call_len_seq rfl T.len PySem.boot_len (pa_cons (pe_fld (pv 0) rfl) pa_nil)) (nomark _)) pss_never pss_nil), ?_⟩
  refine ⟨_, rfl, L, C, dx, _, _, rfl, e1, T.cl, T.nN, rfl, _, rfl, L, C, dx, _, _, rfl, e1, T.cl, T.nR, rfl, R, _, rfl, .inl (SqL.of e2), _, _, rfl, rfl, _, rfl, ?_⟩
  rw [List.length_map, decide_eq_false (Int.lt_irrefl _)]
  exact iteF k
/-! ### new_name -/
def spNewName (C : Addr) (K : PySem.W.Frag) : Sp := fun vs H Q _ => ∃ (L l : Addr) (x : Str) (names : List Str) (rows : List Str) (n : Nat), vs = [.ref L, .str x, .ref l] ∧ LinesAt C H L rows n ∧ nameB x = true ∧ SqL K H l (names.map V.str) ∧ x ∉ names ∧ ∀ H', Same H H' → Q (.str x) H'
theorem scNewName : FnScope ["self", "word", "names"] ["self", "word", "names"] (defScope sNewName) := ⟨rfl, rfl, rfl, by decide +kernel, rfl, by decide +kernel, by decide +kernel⟩
theorem ok_newName {f fI fN : Addr} {fd dI dN : FuncData} (F : Fun K "new_name" "Lines.new_name" sNewName f fd) (T : LTxt K mg C) (GI : FnOk P w K mg base CX0 1 fI dI ["word"] spName) (bI : Binds K dI ["word"] []) (kI : PySem.W.keepIn K (.ref fI) = true) (gI : mg "is_name" = some (.ref fI))
    (GN : FnOk P w K mg base CX0 1 fN dN ["self", "holds"] spNeed) (bN : Binds K dN ["self", "holds"] []) (mN : Meth K C "need" fN) : FnOk P w K mg base CX0 2 f fd ["self", "word", "names"] (spNewName C K) := by
  refine F.ok scNewName (fun vs H Q E h => ?_) (fun cdv A outer s H vs Q E hr h => ?_)
  · obtain ⟨L, l, x, names, rows, n, rfl, _⟩ := h
    rfl
  obtain ⟨L, l, x, names, rows, n, rfl, LA, hx, hl, hin, k⟩ := h
  obtain ⟨⟨dx, R, e1, e2⟩, few, short⟩ := id LA
  refine ⟨_, pss_cons (ps_expr (pe_meth (pv 0) T.cl mN GN hr bN .nil pass0 (pa_cons (pe_and (pe_call GI hr rfl gI kI bI .nil pass0 (pa_cons (pv 1) pa_nil)) (pe_one (pe_cmpR op_notIn_seq (pv 1) (pv 2) (by rfl)))) pa_nil))) (pss_one (ps_ret (pv 1))), ?_⟩
  refine ⟨_, rfl, L, dx, _, rfl, e1, rfl, _, rfl, x, rfl, hx, fun H1 s1 => ⟨_, rfl, iteT ?_⟩⟩
  refine ⟨_, rfl, _, rfl, l, _, rfl, .inl (same_sql s1 hl), rfl, flat_words _, ?_⟩
  have e : (!inV (.str x) (names.map V.str)) = true := by rw [in_words, decide_eq_false hin]; rfl
  exact ⟨L, ne_ e, _, rfl, k H1 s1⟩
/-! ### place -/
def spPlace (C : Addr) (K : PySem.W.Frag) : Sp := fun vs H Q _ => ∃ (L l : Addr) (x : Str) (names : List Str) (rows : List Str) (n j : Nat), vs = [.ref L, .str x, .ref l] ∧ LinesAt C H L rows n ∧ SqL K H l (names.map V.str) ∧ names[j]? = some x ∧ names.Nodup ∧ Q (.int j) H
theorem scPlace : FnScope ["self", "word", "names"] ["self", "word", "names"] (defScope sPlace) := ⟨rfl, rfl, rfl, by decide +kernel, rfl, by decide +kernel, by decide +kernel⟩
theorem ok_place {f fN : Addr} {fd dN : FuncData} (F : Fun K "place" "Lines.place" sPlace f fd) (T : LTxt K mg C) (GN : FnOk P w K mg base CX0 1 fN dN ["self", "holds"] spNeed) (bN : Binds K dN ["self", "holds"] []) (mN : Meth K C "need" fN) : FnOk P w K mg base CX0 2 f fd ["self", "word", "names"] (spPlace C K) := by
  refine F.ok scPlace (fun vs H Q E h => ?_) (fun cdv A outer s H vs Q E hr h => ?_)
  · obtain ⟨L, l, x, names, rows, n, j, rfl, _⟩ := h
    rfl
  obtain ⟨L, l, x, names, rows, n, j, rfl, LA, hl, hj, hnd, k⟩ := h
  obtain ⟨⟨dx, R, e1, e2⟩, few, short⟩ := id LA
  refine ⟨_, pss_cons (ps_expr (pe_meth (pv 0) T.cl mN GN hr bN .nil pass0 (pa_cons (pe_cmpR op_in_seq (pv 1) (pv 2) (by rfl)) pa_nil)))
    (pss_one (ps_ret (pe_bm PySem.F.plainAttrs_list PySem.F.slot_list_index PySem.F.type_list_index mt_index (pv 2) (pa_cons (pv 1) pa_nil)))), ?_⟩
  have hm : x ∈ names := List.mem_of_getElem? hj
  refine ⟨_, rfl, L, dx, _, rfl, e1, rfl, _, rfl, _, rfl, l, _, rfl, .inl hl, rfl, flat_words _, ?_⟩
  have e : inV (.str x) (names.map V.str) = true := by rw [in_words, decide_eq_true hm]
  refine ⟨L, ne_ e, _, rfl, .inl ⟨rfl, _, hl⟩, _, rfl, l, _, .str x, j, .str x, rfl, rfl, hl, rfl, flat_words _, by rw [List.getElem?_map, hj] <;> rfl, by rw [eqV_str]; exact decide_eq_true rfl, fun m z' hm' ez => ?_, k⟩
  rw [List.getElem?_map] at ez
  cases e : names[m]? with
  | none =>
    rw [e] at ez
    cases ez
  | some y =>
    rw [e] at ez
    cases ez
    rw [eqV_str]
    refine decide_eq_false fun z => ?_
    have q := nodup_ix hnd (by rw [e, z]) hj
    omega
/-! ### number_from -/
def spNumFrom (C : Addr) : Sp := fun vs H Q _ => ∃ (L : Addr) (x : Str) (v low limit : Int) (rows : List Str) (n : Nat), vs = [.ref L, .str x, .int low, .int limit] ∧ LinesAt C H L rows n ∧ digitB x = true ∧ PySem.intText? x = some v ∧ low ≤ v ∧ v < limit ∧ ∀ H', Same H H' → Q (.int v) H'
theorem scNumFrom : FnScope ["self", "word", "low", "limit", "number"] ["self", "word", "low", "limit"] (defScope sNumberFrom) := ⟨rfl, rfl, rfl, by decide +kernel, rfl, by decide +kernel, by decide +kernel⟩
theorem ok_numFrom {f fI fN : Addr} {fd dI dN : FuncData} (F : Fun K "number_from" "Lines.number_from" sNumberFrom f fd) (T : LTxt K mg C) (GI : FnOk P w K mg base CX0 1 fI dI ["word"] spNumOf) (bI : Binds K dI ["word"] []) (kI : PySem.W.keepIn K (.ref fI) = true) (gI : mg "number_of" = some (.ref fI))
    (GN : FnOk P w K mg base CX0 1 fN dN ["self", "holds"] spNeed) (bN : Binds K dN ["self", "holds"] []) (mN : Meth K C "need" fN) : FnOk P w K mg base CX0 2 f fd ["self", "word", "low", "limit"] (spNumFrom C) := by
  refine F.ok scNumFrom (fun vs H Q E h => ?_) (fun cdv A outer s H vs Q E hr h => ?_)
  · obtain ⟨L, x, v, low, limit, rows, n, rfl, _⟩ := h
    rfl
  obtain ⟨L, x, v, low, limit, rows, n, rfl, LA, hx, hv, h1, h2, k⟩ := h
  have nd := scNumFrom.nd
  refine ⟨_, pss_cons (ps_set (i := 4) nd rfl (.inl rfl) (pe_call GI hr rfl gI kI bI .nil pass0 (pa_cons (pv 1) pa_nil)))
    (pss_cons (ps_expr (pe_meth (pv 0) T.cl mN GN hr bN .nil pass0 (pa_cons (pe_chain op_le op_lt (pv 2) (pv 4) (pv 3)) pa_nil))) (pss_one (ps_ret (pv 4)))), ?_⟩
  refine ⟨_, rfl, x, v, rfl, hx, hv, fun H1 s1 => ?_⟩
  obtain ⟨⟨dx, R, e1, e2⟩, few, short⟩ := LA.same s1
  refine ⟨_, rfl, L, dx, _, rfl, e1, rfl, _, rfl, _, rfl, _, _, rfl, rfl, _, rfl, ?_⟩
  rw [decide_eq_true h1]
  refine iteT ⟨_, rfl, _, _, rfl, rfl, ?_⟩
  exact ⟨L, ne_ (decide_eq_true h2), _, rfl, k H1 s1⟩
/-! ### Lines(text) -/
def spLines (C : Addr) : Sp := fun vs H Q _ => ∃ (L dx : Addr) (x : Str), vs = [.ref L, .str x] ∧ H L = some (.ins C dx []) ∧ x.length + 2 ≤ sizeLine ∧ (Txt.split x "\n").length ≤ 900 ∧ (∀ r ∈ Txt.split x "\n", r.length ≤ 900) ∧
  ∀ H', Bar L H H' → LinesAt C H' L (Txt.split x "\n") 0 → Q .non H'
theorem scLines : FnScope ["self", "text"] ["self", "text"] (defScope sLinesInit) := ⟨rfl, rfl, rfl, by decide +kernel, rfl, by decide +kernel, by decide +kernel⟩
theorem ok_lines {f : Addr} {fd : FuncData} (F : Fun K "__init__" "Lines.__init__" sLinesInit f fd) (T : LTxt K mg C) (mi : mg "isinstance" = none) (ms : mg "str" = none) : FnOk P w K mg base CX0 1 f fd ["self", "text"] (spLines C) := by
  refine F.ok scLines (fun vs H Q E h => ?_) (fun cdv A outer s H vs Q E hr h => ?_)
  · obtain ⟨L, dx, x, rfl, _⟩ := h
    rfl
  obtain ⟨L, dx, x, rfl, hL, hz, few, short, k⟩ := h
  refine ⟨_, pss_cons (ps_if (pt_not (pt_val (pe_callB RZ.call_isTy rfl mi PyProof.Rows.boot_isinstance (pa_cons (pv 1) (pa_cons (pe_bltn (v := .ty "str") rfl ms PyProof.Rows.Boot.«str» rfl) pa_nil))))) pss_never pss_nil)
    (pss_cons (ps_fld (pv 0) (pe_split (pv 1) pe_str) rfl) (pss_one (ps_fld (pv 0) pe_int rfl))), ?_⟩
  refine ⟨_, rfl, _, _, rfl, .str x, _, rfl, iteF ?_⟩
  refine ⟨_, rfl, ⟨_, rfl⟩, x, "\n", rfl, rfl, rfl, hz, fun p hp => ?_⟩
  have npL : L ≠ p := ne_of_none hL hp
  have e1 : upd H p (.lst ((Txt.split x "\n").map V.str)) L = some (.ins C dx []) := by rw [upd_ne npL]; exact hL
  refine ⟨_, rfl, L, C, dx, _, rfl, e1, T.cl, T.nR, (by show 0 < 1000; decide), _, rfl, L, C, dx, _, rfl, upd_same, T.cl, T.nN, (by show 1 < 1000; decide), ?_⟩
  refine k _ (((Bar.of (same_new hp _)).trans (Bar.upd L _ _)).trans (Bar.upd L _ _)) ⟨⟨dx, p, upd_same, ?_⟩, few, short⟩
  rw [upd_ne npL.symm, upd_ne npL.symm]
  exact upd_same
end
end Hx
set_option maxRecDepth 100000
set_option maxHeartbeats 4000000
/-! A page: lines by their words. -/
namespace Hx
open PySem PySem.Spec PyProof.Rows L2
/-- a line: whether it stands deeper, its words -/
structure Rw where
  d : Bool
  ws : List Str
def pad (d : Bool) : Str := if d = true then "  " else Str.empty
def Rw.text (r : Rw) : Str := pad r.d ++ Str.join " " r.ws
/-- plain words: no blank, no feed, not empty, all signs printable -/
def wordB (x : Str) : Bool := decide (1 ≤ x.length) && x.cps.toList.all fun c => decide (33 ≤ c) && decide (c ≤ 126)
def rwB (r : Rw) : Bool := decide (r.ws ≠ []) && (r.ws.all wordB && decide (r.text.length ≤ 900))
def PageOk (page : List Rw) : Prop := page.length ≤ 900 ∧ ∀ r ∈ page, rwB r = true
theorem word_is {x : Str} (h : wordB x = true) : 1 ≤ x.length ∧ ∀ c ∈ x.cps.toList, 33 ≤ c ∧ c ≤ 126 := by
  unfold wordB at h
  simp only [Bool.and_eq_true, decide_eq_true_eq, List.all_eq_true] at h
  exact h
theorem rw_is {r : Rw} (h : rwB r = true) : r.ws ≠ [] ∧ (∀ x ∈ r.ws, wordB x = true) ∧ r.text.length ≤ 900 := by
  unfold rwB at h
  simp only [Bool.and_eq_true, decide_eq_true_eq, List.all_eq_true] at h
  exact h
theorem word_strOk {x : Str} (h : wordB x = true) : PyData.strOk x = true := by
  obtain ⟨_, hc⟩ := word_is h
  unfold PyData.strOk
  rw [← Array.all_toList, List.all_eq_true]
  intro c hm
  have := hc c hm
  exact decide_eq_true (by omega)
def aheadP (page : List Rw) (n : Nat) (d : Int) : List Str := match page[n]? with
  | none => []
  | some r => if r.d = decide (d = 1) then r.ws else if d = 1 then [] else Str.empty :: Str.empty :: r.ws
theorem tl_ofS : TL.tl (" " : Str) = [32] := by decide +kernel
theorem split_words {ws : List Str} (ne : ws ≠ []) (hw : ∀ x ∈ ws, wordB x = true) : Txt.split (Str.join " " ws) " " = ws := by
  have h := TL.split_join (y := " ") (s := 32) (S := []) tl_ofS (by decide +kernel) ne (fun p hp z => by
    have := (word_is (hw p hp)).2 32 z
    omega)
  rw [TL.join_eq] at h
  exact h
theorem empty_app (x : Str) : Str.empty ++ x = x := TL.ext_tl (by rw [TL.tl_append]; rfl)
theorem cut_none (z : Str) : cutS z (some 0) none = z := by
  refine TL.ext_tl ?_
  unfold cutS
  have e : HT.sIx z.length 0 (some (0 : Int)) = 0 := by
    have := HT.sIx_nat z.length 0 0
    simpa using this
  rw [e, HT.sIx_none, List.drop_zero, Nat.sub_zero]
  show z.cps.toList.take z.cps.size = z.cps.toList
  rw [← Array.length_toList, List.take_length]
theorem tl_two : TL.tl ("  " : Str) = [32, 32] := by decide +kernel
theorem cut_two (z : Str) : cutS ("  " ++ z) (some 2) none = z := by
  refine TL.ext_tl ?_
  unfold cutS
  have l : ("  " ++ z).length = 2 + z.length := by
    rw [TL.len_tl, TL.tl_append, List.length_append, tl_two, ← TL.len_tl]
    rfl
  have e : HT.sIx ("  " ++ z).length 0 (some (2 : Int)) = 2 := by
    have := HT.sIx_nat ("  " ++ z).length 0 2
    rw [l, Nat.min_eq_left (by omega)] at this
    rw [l]
    exact this
  rw [e, HT.sIx_none, l]
  show ((TL.tl ("  " ++ z)).drop 2).take (2 + z.length - 2) = TL.tl z
  rw [TL.tl_append, tl_two]
  show (TL.tl z).take (2 + z.length - 2) = TL.tl z
  rw [Nat.add_sub_cancel_left, TL.len_tl, List.take_length]
theorem starts_no {z : Str} {c : Nat} {l : List Nat} (h : TL.tl z = c :: l) (hc : c ≠ 32) : Txt.startswith z "  " = false := by
  unfold Txt.startswith
  have s : Builtin.Str.subAt z "  " 0 = false := by
    rw [StrLaws.subAt_eq]
    refine beq_eq_false_iff_ne.mpr fun e => ?_
    rw [List.drop_zero, show z.cps.toList = c :: l from h] at e
    have e2 : (c :: l).take ("  " : Str).length = [32, 32] := by
      rw [← tl_two]
      exact e
    rw [show ("  " : Str).length = 2 by decide +kernel] at e2
    cases l with
    | nil => cases e2
    | cons y r => exact hc (List.cons.inj e2).1
  rw [s, Bool.and_false]
theorem join_cons (x y : Str) (r : List Str) : Str.join " " (x :: y :: r) = x ++ " " ++ Str.join " " (y :: r) := rfl
theorem pad_join {ws : List Str} (ne : ws ≠ []) : "  " ++ Str.join " " ws = Str.join " " (Str.empty :: Str.empty :: ws) := by
  obtain ⟨w, r, rfl⟩ := List.exists_cons_of_ne_nil ne
  rw [join_cons, join_cons]
  rw [empty_app]
  refine TL.ext_tl ?_
  rw [TL.tl_append, TL.tl_append, TL.tl_append, tl_two, tl_ofS]
  rfl
theorem split_pad {ws : List Str} (ne : ws ≠ []) (hw : ∀ x ∈ ws, wordB x = true) : Txt.split ("  " ++ Str.join " " ws) " " = Str.empty :: Str.empty :: ws := by
  rw [pad_join ne]
  have h := TL.split_join (y := " ") (s := 32) (S := []) tl_ofS (by decide +kernel) (parts := Str.empty :: Str.empty :: ws) (by simp) (fun p hp z => by
    rcases List.mem_cons.mp hp with rfl | hp
    · cases z
    · rcases List.mem_cons.mp hp with rfl | hp
      · cases z
      · have := (word_is (hw p hp)).2 32 z
        omega)
  rw [TL.join_eq] at h
  exact h
theorem join_head {ws : List Str} (ne : ws ≠ []) (hw : ∀ x ∈ ws, wordB x = true) : ∃ c l, TL.tl (Str.join " " ws) = c :: l ∧ c ≠ 32 := by
  obtain ⟨x, r, rfl⟩ := List.exists_cons_of_ne_nil ne
  obtain ⟨h1, h2⟩ := word_is (hw x (List.mem_cons_self ..))
  cases e : TL.tl x with
  | nil =>
    rw [TL.len_tl, e] at h1
    simp at h1
  | cons c l =>
    have hc := h2 c (by show c ∈ TL.tl x; rw [e]; exact List.mem_cons_self ..)
    refine ⟨c, ?_⟩
    cases r with
    | nil => exact ⟨l, e, by omega⟩
    | cons y r =>
      refine ⟨l ++ TL.tl (" " : Str) ++ TL.tl (Str.join " " (y :: r)), ?_, by omega⟩
      rw [join_cons, TL.tl_append, TL.tl_append, e]
      simp
theorem ahead_page {page : List Rw} (ok : PageOk page) {n : Nat} {d : Int} (hd : d = 0 ∨ d = 1) : ahead (page.map Rw.text) n d = aheadP page n d := by
  unfold ahead aheadP
  rw [List.getElem?_map]
  cases e : page[n]? with
  | none => rfl
  | some r =>
    obtain ⟨ne, hw, _⟩ := rw_is (ok.2 r (List.mem_of_getElem? e))
    show (if Txt.startswith r.text (ind d) = true then Txt.split (cutS r.text (some (2 * d)) none) " " else []) = if r.d = decide (d = 1) then r.ws else if d = 1 then [] else Str.empty :: Str.empty :: r.ws
    obtain ⟨rd, ws⟩ := r
    rcases hd with rfl | rfl
    · have s : Txt.startswith (Rw.text ⟨rd, ws⟩) (ind 0) = true := by
        have z := PySem.W.KT.starts_app Str.empty (Rw.text ⟨rd, ws⟩)
        rw [empty_app] at z
        exact z
      rw [if_pos s, show (2 * (0 : Int)) = 0 by decide, cut_none]
      cases rd with
      | false =>
        show Txt.split (Str.empty ++ Str.join " " ws) " " = ws
        rw [empty_app, split_words ne hw]
      | true => exact split_pad ne hw
    · cases rd with
      | true =>
        have s : Txt.startswith ("  " ++ Str.join " " ws) "  " = true := PySem.W.KT.starts_app "  " (Str.join " " ws)
        show (if Txt.startswith ("  " ++ Str.join " " ws) "  " = true then Txt.split (cutS ("  " ++ Str.join " " ws) (some (2 * 1)) none) " " else []) = ws
        rw [if_pos s, show (2 * (1 : Int)) = 2 by decide, cut_two, split_words ne hw]
      | false =>
        obtain ⟨c, l, h1, h2⟩ := join_head ne hw
        show (if Txt.startswith (Str.empty ++ Str.join " " ws) "  " = true then _ else []) = []
        rw [empty_app, starts_no h1 h2]
        rfl
/-- the object that takes the lines of this page, behind the first n -/
structure PageAt (C : Addr) (H : Hp) (L : Addr) (page : List Rw) (n : Nat) : Prop where
  la : LinesAt C H L (page.map Rw.text) n
  ok : PageOk page
  le : n ≤ page.length
theorem PageAt.same {C : Addr} {H H' : Hp} {L : Addr} {page : List Rw} {n : Nat} (s : Same H H') (h : PageAt C H L page n) : PageAt C H' L page n := ⟨h.la.same s, h.ok, h.le⟩
theorem ahead_ok {page : List Rw} (ok : PageOk page) {n : Nat} {d : Int} (hd : d = 0 ∨ d = 1) : ∀ x ∈ ahead (page.map Rw.text) n d, PyData.strOk x = true := by
  rw [ahead_page ok hd]
  intro x hx
  unfold aheadP at hx
  cases e : page[n]? with
  | none =>
    rw [e] at hx
    cases hx
  | some r =>
    rw [e] at hx
    obtain ⟨ne, hw, _⟩ := rw_is (ok.2 r (List.mem_of_getElem? e))
    have hx' : x ∈ (if r.d = decide (d = 1) then r.ws else if d = 1 then [] else Str.empty :: Str.empty :: r.ws) := hx
    split at hx'
    · exact word_strOk (hw x hx')
    · split at hx'
      · cases hx'
      · rcases List.mem_cons.mp hx' with rfl | hx'
        · decide +kernel
        · rcases List.mem_cons.mp hx' with rfl | hx'
          · decide +kernel
          · exact word_strOk (hw x hx')
/-- what the next line begins with -/
def nextP (page : List Rw) (n : Nat) (d : Int) (xs : List Str) : Bool := nextB (aheadP page n d) xs
section
variable {P : Program} {w : World} {K : PySem.W.Frag} {mg : Str → Option Value} {base : Heap} {C : Addr}
def spNextP (C : Addr) (K : PySem.W.Frag) : Sp := fun vs H Q _ => ∃ (L t : Addr) (d : Int) (page : List Rw) (xs : List Str) (n : Nat), vs = [.ref L, .int d, .ref t] ∧ PageAt C H L page n ∧ (d = 0 ∨ d = 1) ∧ SqT K H t (xs.map V.str) ∧ ∀ H', Same H H' → Q (.bl (nextP page n d xs)) H'
theorem next_page {vs : List V} {H : Hp} {Q : VK} {E : XK} (h : spNextP C K vs H Q E) : spNext C K vs H Q E := by
  obtain ⟨L, t, d, page, xs, n, rfl, pa, hd, ht, k⟩ := h
  refine ⟨L, t, d, page.map Rw.text, xs, n, rfl, pa.la, hd, by rw [List.length_map]; exact pa.le, ht, ahead_ok pa.ok hd, ?_⟩
  rw [ahead_page pa.ok hd]
  exact k
def spMoreP (C : Addr) (K : PySem.W.Frag) : Sp := fun vs H Q _ => ∃ (L t l : Addr) (d : Int) (page : List Rw) (xs : List Str) (n : Nat) (found : List V) (least most : Int), vs = [.ref L, .int d, .ref t, .ref l, .int least, .int most] ∧ PageAt C H L page n ∧ (d = 0 ∨ d = 1) ∧
  SqT K H t (xs.map V.str) ∧ SqL K H l found ∧ ∀ H', Same H H' → Q (.bl (decide ((found.length : Int) < least) || (decide ((found.length : Int) < most) && nextP page n d xs))) H'
theorem more_page {vs : List V} {H : Hp} {Q : VK} {E : XK} (h : spMoreP C K vs H Q E) : spMore C K vs H Q E := by
  obtain ⟨L, t, l, d, page, xs, n, found, least, most, rfl, pa, hd, ht, hl, k⟩ := h
  refine ⟨L, t, l, d, page.map Rw.text, xs, n, found, least, most, rfl, pa.la, hd, by rw [List.length_map]; exact pa.le, ht, ahead_ok pa.ok hd, hl, ?_⟩
  rw [ahead_page pa.ok hd]
  exact k
/-- take: the next line stands so deep and begins with one of the words -/
def spTakeP (C : Addr) (K : PySem.W.Frag) : Sp := fun vs H Q _ => ∃ (L t : Addr) (d : Int) (page : List Rw) (xs ws : List Str) (n : Nat), vs = [.ref L, .int d, .ref t] ∧ PageAt C H L page n ∧ (d = 0 ∨ d = 1) ∧ SqT K H t (xs.map V.str) ∧ page[n]? = some ⟨decide (d = 1), ws⟩ ∧ nextB ws xs = true ∧
  ∀ p H', Bar L H H' → H p = none → p ≠ L → H' p = some (.lst (ws.map V.str)) → PageAt C H' L page (n + 1) → Q (.ref p) H'
theorem ahead_is {page : List Rw} (ok : PageOk page) {n : Nat} {d : Int} {ws : List Str} (hd : d = 0 ∨ d = 1) (e : page[n]? = some ⟨decide (d = 1), ws⟩) : ahead (page.map Rw.text) n d = ws := by
  rw [ahead_page ok hd]
  unfold aheadP
  rw [e]
  exact if_pos rfl
theorem lt_of_at {page : List Rw} {n : Nat} {r : Rw} (e : page[n]? = some r) : n < page.length := (List.getElem?_eq_some_iff.mp e).1
theorem take_page {vs : List V} {H : Hp} {Q : VK} {E : XK} (h : spTakeP C K vs H Q E) : spTake C K vs H Q E := by
  obtain ⟨L, t, d, page, xs, ws, n, rfl, pa, hd, ht, e, hx, k⟩ := h
  have ea := ahead_is pa.ok hd e
  refine ⟨L, t, d, page.map Rw.text, xs, n, rfl, pa.la, hd, by rw [List.length_map]; exact pa.le, ht, ahead_ok pa.ok hd, by rw [ea]; exact hx, ?_⟩
  rw [ea]
  exact fun p H' b np npL e1 la => k p H' b np npL e1 ⟨la, pa.ok, lt_of_at e⟩
def spExactlyP (C : Addr) (K : PySem.W.Frag) : Sp := fun vs H Q _ => ∃ (L t : Addr) (d many : Int) (page : List Rw) (xs ws : List Str) (n : Nat), vs = [.ref L, .int d, .ref t, .int many] ∧ PageAt C H L page n ∧ (d = 0 ∨ d = 1) ∧ SqT K H t (xs.map V.str) ∧ page[n]? = some ⟨decide (d = 1), ws⟩ ∧ nextB ws xs = true ∧
  (ws.length : Int) = many ∧ ∀ p H', Bar L H H' → H p = none → p ≠ L → H' p = some (.lst (ws.map V.str)) → PageAt C H' L page (n + 1) → Q (.ref p) H'
theorem exactly_page {vs : List V} {H : Hp} {Q : VK} {E : XK} (h : spExactlyP C K vs H Q E) : spExactly C K vs H Q E := by
  obtain ⟨L, t, d, many, page, xs, ws, n, rfl, pa, hd, ht, e, hx, hm, k⟩ := h
  have ea := ahead_is pa.ok hd e
  refine ⟨L, t, d, many, page.map Rw.text, xs, n, rfl, pa.la, hd, by rw [List.length_map]; exact pa.le, ht, ahead_ok pa.ok hd, by rw [ea]; exact hx, by rw [ea]; exact hm, ?_⟩
  rw [ea]
  exact fun p H' b np npL e1 la => k p H' b np npL e1 ⟨la, pa.ok, lt_of_at e⟩
end
end Hx
set_option maxRecDepth 100000
set_option maxHeartbeats 4000000
/-! zip of a list and a tuple. -/
namespace Hx
open PySem PySem.Spec PyProof.Rows L2
/-- zip(list, tuple) -/
def ItzM (K : PySem.W.Frag) (a b : Addr) : It where
  stop := fun i H => ∃ xs ys, SqL K H a xs ∧ SqT K H b ys ∧ (xs.length = i ∨ ys.length = i) ∧ i ≤ xs.length ∧ i ≤ ys.length
  go := fun i H => ∃ xs ys x y, SqL K H a xs ∧ SqT K H b ys ∧ xs[i]? = some x ∧ ys[i]? = some y
  yld := fun i H v H' => ∃ T x y, v = .ref T ∧ H T = none ∧ H' = upd H T (.tup [x, y]) ∧ (∀ xs, SqL K H a xs → xs[i]? = some x) ∧ (∀ ys, SqT K H b ys → ys[i]? = some y)
/-- the objects of such a zip -/
structure ZmAt (h : Heap) (z TI TO i1 i2 a b : Addr) (i : Nat) : Prop where
  zip : IsZip h z TI TO .none
  ti : IsPair h TI (.ref i1) (.ref i2)
  to : ∃ x y, IsPair h TO x y
  it1 : h.IsListIter i1 a i
  it2 : h.IsTupleIter i2 b i
theorem zm_turn {P : Program} {w : World} {K : PySem.W.Frag} {elts : List Expr} {kk : Nat} {tpos : Pos} {a b z TI TO i1 i2 : Addr} (S : ZipSep2 z TI TO i1 i2 [i1, a] [i2, b]) (na : a ≠ i1) (nb : b ≠ i2) :
    Turn P w K (.Tuple elts kk tpos) (ItzM K a b) [z, TI, TO, i1, i2] z (fun i h => ZmAt h z TI TO i1 i2 a b i) where
  mem := List.mem_cons_self ..
  obj := by
    intro i h st c hc
    have hz := st.zip
    have ht := st.ti
    obtain ⟨x, y, ho⟩ := st.to
    obtain ⟨o1, e1, _, d1⟩ := st.it1
    obtain ⟨o2, e2, _, d2⟩ := st.it2
    simp only [List.mem_cons, List.not_mem_nil, or_false] at hc
    rcases hc with rfl | rfl | rfl | rfl | rfl
    · exact ⟨_, hz, fun v q => by cases q⟩
    · exact ⟨_, ht, fun v q => by cases q⟩
    · exact ⟨_, ho, fun v q => by cases q⟩
    · exact ⟨o1, e1, fun v q => by rw [d1] at q; cases q⟩
    · exact ⟨o2, e2, fun v q => by rw [d2] at q; cases q⟩
  keep := by
    intro i h h' st k
    obtain ⟨x, y, ho⟩ := st.to
    exact ⟨k z (by simp) _ st.zip, k TI (by simp) _ st.ti, ⟨x, y, k TO (by simp) _ ho⟩, st.it1.at fun o q => k i1 (by simp) o q, st.it2.at fun o q => k i2 (by simp) o q⟩
  item := by
    intro X hP hw hK hc i pins s σ H E I hf st hg
    subst hP hw hK
    obtain ⟨xs, ys, x, y, hqx, hqy, hx, hy⟩ := hg
    obtain ⟨us, rx, p1, _⟩ := I.list hqx
    obtain ⟨vs, ry, p2, _⟩ := I.tuple hqy
    obtain ⟨u, hu, ru⟩ := rx.get hx
    obtain ⟨v, hv, rv⟩ := ry.get hy
    obtain ⟨x0, y0, ho⟩ := st.to
    have zl : z < s.heap.objs.size := Heap.lt_size st.zip
    have n1 : i < us.toArray.size := by
      rw [List.size_toArray]
      exact (List.getElem?_eq_some_iff.mp hu).1
    have n2 : i < vs.toArray.size := by
      rw [List.size_toArray]
      exact (List.getElem?_eq_some_iff.mp hv).1
    refine wpAny_pyNext_zipD2_item (i := i) S (Draws.list (A := X.A.in1) (I.ok.hd hc) i1 a na us.toArray) (Draws.tuple (A := X.A.in1) (I.ok.hd hc) i2 b nb vs.toArray) st.zip st.ti ho ⟨st.it1, p1.isList⟩ ⟨st.it2, p2⟩ n1 n2 fun x1 x2 h' tk e1 e2 z1 t1 s1 s2 tn sz kp => ?_
    have e1 : us[i]? = some x1 := by simpa using e1
    have e2 : vs[i]? = some x2 := by simpa using e2
    rw [hu] at e1
    rw [hv] at e2
    obtain rfl := Option.some.inj e1
    obtain rfl := Option.some.inj e2
    refine ⟨_, rfl, wpAny_letOwnedTupleGo_zip (s := { s with heap := h', toks := tk }) z1 fun h2 z2 sb => ?_⟩
    have zn : s.heap.objs.size ≠ z := fun q => Nat.lt_irrefl _ (q ▸ zl)
    have tn2 : h2.get? s.heap.objs.size = some { cls := .type "tuple", data := .seq #[u, v] } := (sb.2 _ zn).trans tn
    have I1 : Inv X pins σ (upd H s.heap.objs.size (.tup [x, y])) { s with heap := h2, toks := tk } := by
      refine I.turnedNew (t' := tk) (ch := [z, TI, TO, i1, i2]) (fun c o hb q => ?_) hf (Nat.le_refl _) ⟨by show 2 ≤ sizeLine; decide, [u, v], .cons ru (.cons rv .nil), ⟨_, tn2, rfl, _, rfl⟩⟩
      simp only [List.mem_cons, List.not_mem_nil, or_false, not_or] at hb
      exact (sb.2 c hb.1).trans (kp c o hb.1 hb.2.2.1 hb.2.2.2.1 hb.2.2.2.2 q)
    have up : ∀ {c : Addr} {o : Obj}, c ≠ z → h'.get? c = some o → h2.get? c = some o := fun n q => (sb.2 _ n).trans q
    refine ⟨.ref s.heap.objs.size, _, I1, rfl, ⟨_, x, y, rfl, I.hok.fresh (Nat.le_refl _), rfl, fun l hl => ?_, fun l hl => ?_⟩, ⟨z2, ?_, ⟨u, v, up S.TOz t1⟩, ?_, ?_⟩, fun c hcm => ?_⟩
    · rw [I.list_inj hl hqx]
      exact hx
    · rw [I.tuple_inj hl hqy]
      exact hy
    · exact up S.TIz (kp _ _ S.TIz S.TITO S.TIi1 S.TIi2 st.ti)
    · exact s1.1.at fun o q => up (fun e => S.zi1 e.symm) q
    · exact s2.1.at fun o q => up (fun e => S.zi2 e.symm) q
    · have lt : c < s.heap.objs.size := by
        obtain ⟨o1, e1, _⟩ := st.it1
        obtain ⟨o2, e2, _⟩ := st.it2
        simp only [List.mem_cons, List.not_mem_nil, or_false] at hcm
        rcases hcm with rfl | rfl | rfl | rfl | rfl
        · exact zl
        · exact Heap.lt_size st.ti
        · exact Heap.lt_size ho
        · exact Heap.lt_size e1
        · exact Heap.lt_size e2
      rw [upd_ne (fun e => Nat.lt_irrefl _ (e ▸ lt))]
      exact (hf c hcm).1
  done := by
    intro X hP hw hK hc i pins s σ H E I hf st hg
    subst hP hw hK
    obtain ⟨xs, ys, hqx, hqy, hend, l1, l2⟩ := hg
    obtain ⟨us, rx, p1, _⟩ := I.list hqx
    obtain ⟨vs, ry, p2, _⟩ := I.tuple hqy
    obtain ⟨x0, y0, ho⟩ := st.to
    have m1 : us.toArray.size = xs.length := by rw [List.size_toArray, rx.length]
    have m2 : vs.toArray.size = ys.length := by rw [List.size_toArray, ry.length]
    refine wpAny_pyNext_zipD2_end (i := i) (I.ok.hd hc |> fun _ => S) (Draws.list (A := X.A.in1) (I.ok.hd hc) i1 a na us.toArray) (Draws.tuple (A := X.A.in1) (I.ok.hd hc) i2 b nb vs.toArray) st.zip st.ti ho ⟨st.it1, p1.isList⟩ ⟨st.it2, p2⟩ (by omega) (by omega) (by omega) fun h' tk kp => ⟨rfl, ?_⟩
    refine I.turnedL (t' := tk) (ch := [z, TI, TO, i1, i2]) (fun c o hb q => ?_) hf
    simp only [List.mem_cons, List.not_mem_nil, or_false, not_or] at hb
    exact kp c o hb.1 hb.2.2.1 hb.2.2.2.1 hb.2.2.2.2 q
  self := fun A i s Q E st h => wpAny_pyIter_zip st.zip h
/-- the objects as zip makes them -/
abbrev zm1 (h : Heap) (a : Addr) : Heap := h.push { cls := .type "list_iterator", data := .fields #[.ref a, .int 0 0] }
abbrev zm2 (h : Heap) (a b : Addr) : Heap := (zm1 h a).push { cls := .type "tuple_iterator", data := .fields #[.ref b, .int 0 0] }
abbrev zm3 (h : Heap) (a b : Addr) : Heap := (zm2 h a b).push { cls := .type "tuple", data := .seq #[.ref h.objs.size, .ref (zm1 h a).objs.size] }
abbrev zm4 (h : Heap) (a b : Addr) : Heap := (zm3 h a b).push { cls := .type "tuple", data := .seq #[.none, .none] }
abbrev zm5 (h : Heap) (a b : Addr) : Heap := (zm4 h a b).push { cls := .type "zip", data := .fields #[.none, .bool false, .bool false, .ref (zm2 h a b).objs.size, .ref (zm3 h a b).objs.size] }
theorem zm_new (a b : Addr) (xs ys : Array Value) :
    Meets (Builtin.«zip.__new__» ⟨[.type "zip", .ref a, .ref b], []⟩) (fun _ R s => s.heap.IsList a xs ∧ s.heap.IsTuple b ys ∧ R (.ok (.ret (.ref (zm4 s.heap a b).objs.size))) { s with heap := zm5 s.heap a b }) :=
  .of_wp fun prog w A R s h => by
    obtain ⟨hp, g, d, tk, os⟩ := s
    obtain ⟨la, lb, h⟩ := h
    have sub := sub_zip
    have h1 : Heap.IsList (Shared.heap ⟨hp, g, d, tk, os⟩) a xs := la
    have h2 : Heap.IsTuple (Shared.heap ⟨hp.push { cls := .type "list_iterator", data := .fields #[.ref a, .int 0 0] }, g, d, tk, os⟩) b ys := Heap.IsTuple.push lb _
    wp_walk using wpAny_pyIter_list h1, wpAny_pyIter_tuple h2
    exact ⟨_, rfl, h⟩
theorem zm_call {prog : Program} {w : World} {A : Around} {E : Value → Shared → Prop} {s : Shared} {a b : Addr} {xs ys : Array Value} {Q : Value → Shared → Prop} (la : s.heap.IsList a xs) (lb : s.heap.IsTuple b ys)
    (h : ∀ h', ZmAt h' (s.heap.objs.size + 4) (s.heap.objs.size + 2) (s.heap.objs.size + 3) s.heap.objs.size (s.heap.objs.size + 1) a b 0 → (∀ c o, s.heap.get? c = some o → h'.get? c = some o) → Q (.ref (s.heap.objs.size + 4)) { s with heap := h' }) :
    wpAny (model prog w) A (call (.type "zip") [.ref a, .ref b]) Q E s := by
  refine callType_new F.called_zip (by decide) (F.typeCall_zip_2 _ _) (F.newCall_zip_2 _ _) (fun obj => F.args_object_init_3 obj _ _) F.entry_zip_new (zm_new a b xs ys) ⟨la, lb, ?_⟩
  have n1 : (zm1 s.heap a).objs.size = s.heap.objs.size + 1 := Heap.size_push ..
  have n2 : (zm2 s.heap a b).objs.size = s.heap.objs.size + 2 := by rw [Heap.size_push, n1]
  have n3 : (zm3 s.heap a b).objs.size = s.heap.objs.size + 3 := by rw [Heap.size_push, n2]
  have n4 : (zm4 s.heap a b).objs.size = s.heap.objs.size + 4 := by rw [Heap.size_push, n3]
  have up5 : ∀ c o, (zm4 s.heap a b).get? c = some o → (zm5 s.heap a b).get? c = some o := fun _ _ q => Heap.get?_push_of_some _ q
  have up4 : ∀ c o, (zm3 s.heap a b).get? c = some o → (zm5 s.heap a b).get? c = some o := fun c o q => up5 c o (Heap.get?_push_of_some _ q)
  have up3 : ∀ c o, (zm2 s.heap a b).get? c = some o → (zm5 s.heap a b).get? c = some o := fun c o q => up4 c o (Heap.get?_push_of_some _ q)
  have up2 : ∀ c o, (zm1 s.heap a).get? c = some o → (zm5 s.heap a b).get? c = some o := fun c o q => up3 c o (Heap.get?_push_of_some _ q)
  have e5 : (zm5 s.heap a b).get? (zm4 s.heap a b).objs.size = some _ := Heap.get?_push_size _ rfl
  have e4 : (zm5 s.heap a b).get? (zm3 s.heap a b).objs.size = some _ := up5 _ _ (Heap.get?_push_size _ rfl)
  have e3 : (zm5 s.heap a b).get? (zm2 s.heap a b).objs.size = some _ := up4 _ _ (Heap.get?_push_size _ rfl)
  have e2 : (zm5 s.heap a b).get? (zm1 s.heap a).objs.size = some _ := up3 _ _ (Heap.get?_push_size _ rfl)
  have e1 : (zm5 s.heap a b).get? s.heap.objs.size = some _ := up2 _ _ (Heap.get?_push_size _ rfl)
  show _ ∧ _
  rw [n2, n3, n4] at e5
  rw [n3] at e4
  rw [n1, n2] at e3
  rw [n1] at e2
  rw [n4]
  exact ⟨⟨_, e5, rfl⟩, h _ ⟨e5, e3, ⟨_, _, e4⟩, ⟨_, e1, rfl, rfl⟩, ⟨_, e2, rfl, rfl⟩⟩ fun c o q => up2 c o (Heap.get?_push_of_some _ q)⟩
def iZipM (K : PySem.W.Frag) (ta : TA) : TI := fun σ H R => ta σ H fun vs H1 => ∃ a b xs ys, vs = [.ref a, .ref b] ∧ SqL K H1 a xs ∧ SqT K H1 b ys ∧ R (ItzM K a b) H1
theorem pi_zipM {X : Cx} {e e2 : Expr} {ta : TA} {p pos tpos : Pos} {elts : List Expr} {kk : Nat} (hg : Gl X "zip") (hm : X.mg "zip" = none) (ha : PA X [e, e2] ta)
    (hs : starEach [e, e2] X.env = (false, eval e X.env) :: starEach [e2] X.env := by rfl) (hpl : (backTo pos (starEach [e2] X.env)).any (·.1) = false := by rfl) :
    PI X (.Tuple elts kk tpos) (.Call (.Name "zip" p) [e, e2] [] pos) (iZipM X.K ta) := by
  constructor
  intro pins s σ H R I h
  refine Call_ (ld_blt I hg hm PyProof.Rows.boot_zip (PyProof.Rows.callWith_type1 (thn (ha.run pos pins s σ H _ I h) fun us s1 ⟨vs, H1, I1, r1, q1⟩ => ?_) hs hpl))
  obtain ⟨a, b, xs, ys, rfl, hqx, hqy, q⟩ := q1
  obtain ⟨u, v, rfl, ru, rv⟩ := vals2 r1
  obtain rfl : u = Value.ref a := ru
  obtain rfl : v = Value.ref b := rv
  obtain ⟨us, rx, p1, _⟩ := I1.list hqx
  obtain ⟨vs, ry, p2, _⟩ := I1.tuple hqy
  have la : a < s1.heap.objs.size := p1.lt
  have lb : b < s1.heap.objs.size := by
    obtain ⟨o, ho, _⟩ := id p2
    exact Heap.lt_size ho
  refine zm_call p1.isList p2 fun h' at_ kp => wpAny_pyIter_zip at_.zip ?_
  generalize en : s1.heap.objs.size = n at *
  have I2 : Inv X pins σ H1 { s1 with heap := h' } := I1.kept (t' := s1.toks) kp
  have la' : @LT.lt Nat instLTNat a n := la
  have lb' : @LT.lt Nat instLTNat b n := lb
  have nq : ∀ {c d : Nat}, c ≠ d → (show Addr from c) ≠ (show Addr from d) := fun h => h
  refine ⟨n + 4, [n + 4, n + 2, n + 3, n, n + 1], _, _, H1, rfl, I2, zm_turn (a := a) (b := b) ⟨nq (by omega), nq (by omega), nq (by omega), nq (by omega), by simp, ?_, ?_, nq (by omega), by simp, ?_, ?_, ?_, ?_⟩ (nq (by omega)) (nq (by omega)), at_, fun c hc => ?_, q⟩
  · simp only [List.mem_cons, List.not_mem_nil, or_false, not_or]
    exact ⟨nq (by omega), nq (by omega)⟩
  · simp only [List.mem_cons, List.not_mem_nil, or_false, not_or]
    exact ⟨nq (by omega), nq (by omega)⟩
  · simp only [List.mem_cons, List.not_mem_nil, or_false, not_or]
    exact ⟨nq (by omega), nq (by omega)⟩
  · simp only [List.mem_cons, List.not_mem_nil, or_false, not_or]
    exact ⟨nq (by omega), nq (by omega)⟩
  · simp only [List.mem_cons, List.not_mem_nil, or_false, not_or]
    exact ⟨nq (by omega), nq (by omega)⟩
  · simp only [List.mem_cons, List.not_mem_nil, or_false, not_or]
    exact ⟨nq (by omega), nq (by omega)⟩
  · have le : s1.heap.objs.size ≤ c := by
      simp only [List.mem_cons, List.not_mem_nil, or_false] at hc
      rw [en]
      rcases hc with z | z | z | z | z
      · rw [z]; exact Nat.le_add_right ..
      · rw [z]; exact Nat.le_add_right ..
      · rw [z]; exact Nat.le_add_right ..
      · rw [z]; exact Nat.le_refl _
      · rw [z]; exact Nat.le_add_right ..
    exact I1.fpOk le (I1.hok.fresh le)
theorem walk_zipM {K : PySem.W.Frag} {a b : Addr} {xs ys : List V} {n : Nat} (h1 : xs.length = n) (h2 : ys.length = n) : Walk (ItzM K a b) n (fun H => SqL K H a xs ∧ SqT K H b ys) (YPair (fun i => xs[i]?) (fun i => ys[i]?)) :=
  ⟨fun i H hi ⟨q1, q2⟩ => ⟨xs, ys, xs[i]'(by omega), ys[i]'(by omega), q1, q2, List.getElem?_eq_getElem _, List.getElem?_eq_getElem _⟩, fun H ⟨q1, q2⟩ => ⟨xs, ys, q1, q2, .inl h1, by omega, by omega⟩,
    fun i H x H' _ ⟨q1, q2⟩ ⟨T, u, v, e1, e2, e3, f1, f2⟩ => ⟨T, u, v, e1, e2, e3, f1 xs q1, f2 ys q2⟩⟩
end Hx
set_option maxRecDepth 100000
set_option maxHeartbeats 8000000
/-! len(set(xs)) of unlike texts. -/
namespace Hx
open PySem PySem.Spec PyProof.Rows L2
/-- the texts met so far -/
def met (xs : List Str) (i : Nat) (k : Str) : Bool := (xs.take i).any (· == k)
theorem met_next {xs : List Str} {i : Nat} (hi : i < xs.length) (k : Str) : met xs (i + 1) k = (met xs i k || decide (k = xs.getD i Str.empty)) := by
  unfold met
  have e : xs.getD i Str.empty = xs[i] := by rw [List.getD_eq_getElem?_getD, List.getElem?_eq_getElem hi]; rfl
  rw [List.take_add_one, List.getElem?_eq_getElem hi, List.any_append, e]
  by_cases q : k = xs[i]
  · subst q
    simp
  · have z : (xs[i] == k) = false := beq_eq_false_iff_ne.mpr fun h => q h.symm
    simp [q, z]
theorem met_new {xs : List Str} (nd : xs.Nodup) {i : Nat} (hi : i < xs.length) : met xs i (xs.getD i Str.empty) = false := by
  have e : xs.getD i Str.empty = xs[i] := by rw [List.getD_eq_getElem?_getD, List.getElem?_eq_getElem hi]; rfl
  rw [e]
  unfold met
  rw [List.any_eq_false]
  intro x hx
  obtain ⟨j, hj, ej⟩ := List.getElem_of_mem hx
  rw [List.length_take] at hj
  rw [List.getElem_take] at ej
  have ne := List.pairwise_iff_getElem.mp nd j i (by omega) hi (by omega)
  intro z
  exact ne (ej.trans (by simpa using z))
section
variable {prog : Program} {w : World} {A : Around} {R : Result → Shared → Prop} {it : Addr} {fp wr : List Addr} {G : Array GenState → Array GenState → Prop} {n : Nat} {P : Nat → Value → Prop} {St : Nat → Shared → Prop}
theorem texts_loop (W : WalksS prog w A.in1 it fp wr G n P St) (S : Addr) (hSf : S ∉ fp) {xs : List Str} (nd : xs.Nodup) (hn : xs.length = n) (hb : n + 1 < scanBound) (hval : ∀ i v, P i v → ∃ t, v = .str (xs.getD i Str.empty) t) :
    ∀ (left i : Nat) (s : Shared), i + left = n → St i s → s.heap.SetOf (strKind prog w) S (met xs i) i →
      (∀ s', Moved (S :: wr) G s s' → s'.heap.SetOf (strKind prog w) S (met xs n) n → R (.ok (.ret .none)) s') → codeAny (model prog w) A (.builtin "set.update.loop" ⟨[.ref S, .ref it], []⟩) R s
  | 0, i, s, e, st, hS, hR => by
    obtain rfl : i = n := by omega
    refine codeAny_builtin PyProof.Rows.F.entry_set_update_loop ?_
    rw [Around.under_plainId PyProof.Rows.F.plain_set_update_loop _]
    show wpAny _ A.in1 (pyNext _ >>= _) _ _ s
    refine wpAny_bind (W.done s _ _ st fun s' mv => ?_)
    show wpAny _ A.in1 (ret .none) _ _ s'
    refine wpAny_pure (hR s' (mv.mono fun b hb => List.mem_cons_of_mem _ hb) ?_)
    obtain ⟨o, es, ep, t, ho, more⟩ := hS
    exact ⟨o, es, ep, t, mv.heap S _ (fun z => hSf (W.sub _ z)) ho, more⟩
  | left + 1, i, s, e, st, hS, hR => by
    have lt : i < n := by omega
    refine codeAny_builtin PyProof.Rows.F.entry_set_update_loop ?_
    rw [Around.under_plainId PyProof.Rows.F.plain_set_update_loop _]
    show wpAny _ A.in1 (pyNext _ >>= _) _ _ s
    refine wpAny_bind (W.item i s _ _ lt st fun v s' hP st' mv => ?_)
    obtain ⟨t, rfl⟩ := hval i v hP
    have hS' : s'.heap.SetOf (strKind prog w) S (met xs i) i := by
      obtain ⟨o, es, ep, tb, ho, more⟩ := hS
      exact ⟨o, es, ep, tb, mv.heap S _ (fun z => hSf (W.sub _ z)) ho, more⟩
    show wpAny _ A.in1 (holding [Value.str (xs.getD i Str.empty) t] (setAdd S _) >>= _) _ _ s'
    refine wpAny_bind (wpAny_holding ?_)
    unfold setAdd
    refine wpAny_holding (wpAny_bind ((strKind prog w).pyHash (k := xs.getD i Str.empty) (strKind_is _ _ _ _) ?_))
    refine wpAny_setAddHashed_of (knd := strKind prog w) (s := { s' with toks := s'.toks + 1 }) (strKind_is _ _ _ _) rfl hS' (by omega) fun h2 sb hS2 => ?_
    have hS3 : h2.SetOf (strKind prog w) S (met xs (i + 1)) (i + 1) := PyProof.Rows.SetOf_congr hS2 (fun k => (met_next (by omega) k).symm) (by rw [met_new nd (by omega)]; rfl)
    have keep : ∀ b o, b ≠ S → s'.heap.get? b = some o → h2.get? b = some o := fun b o hb q => (sb.2 b hb).trans q
    refine wpAny_pure ⟨plainId_quiet PyProof.Rows.F.plain_set_update_loop _, ?_⟩
    refine texts_loop W S hSf nd hn hb hval left (i + 1) _ (by omega) (W.frame _ s' _ _ st' (Nat.le_succ _) fun b hb o q => keep b o (fun z => hSf (z ▸ hb)) q) hS3 fun s3 mv3 hS4 => hR s3 ?_ hS4
    exact Moved.trans W.gtrans ((mv.mono fun b hb => List.mem_cons_of_mem _ hb).then_heap (Nat.le_succ _) fun b o hb q => keep b o (fun z => hb (z ▸ List.mem_cons_self ..)) q) mv3
end
section
variable {prog : Program} {w : World} {A : Around} {E : Value → Shared → Prop} {s : Shared}
/-- the heap with a new empty set -/
abbrev setH (h : Heap) (led : Bool) : Heap := h.push { cls := .type "set", dict := none, data := .set #[] 0 (.fresh 0 0 led) }
theorem set_of_texts {l : Addr} {us : Array Value} {xs : List Str} {Q : Value → Shared → Prop} (hh : A.handled = none) (hl : s.heap.IsList l us) (hi : StrsAre us.toList xs) (nd : xs.Nodup) (hb : us.size + 1 < scanBound)
    (h : ∀ (h' : Heap) (tk : Nat), h'.SetOf (strKind prog w) s.heap.objs.size (met xs us.size) us.size → (∀ b o, b < s.heap.objs.size → s.heap.get? b = some o → h'.get? b = some o) → Q (.ref s.heap.objs.size) { s with heap := h', toks := tk }) :
    wpAny (model prog w) A (call (.type "set") [.ref l]) Q E s := by
  have hlen : xs.length = us.size := by
    have := hi.length
    simpa using this.symm
  obtain ⟨c0, t0, m0⟩ := PySem.F.called_set.mro
  have m1 := PySem.F.called_set.made
  have m2 := PySem.F.called_set.sub
  have m3 := PySem.F.called_set.notType
  have m4 := PySem.F.called_set.canCreate
  have m5 := PySem.F.typeCall_set_1 (.ref l)
  refine wpAny_call (codeAny_of_tree ?_)
  show wpAny _ _ (callAny (.type "set") _) _ _ _
  refine wpAny_pure ⟨Code.quiet_builtin _ (by decide +kernel), codeAny_builtin PySem.F.entry_type_call ?_⟩
  rw [Around.under_plain (weight_type_call_type "set" [.ref l] []) rfl]
  repeat (any_goals (first | assumption | wp_step))
  refine codeAny_mono (code_set_new_1 (.ref l) (E := E) (Q₁ := fun v s1 => ∃ led : Bool, v = .ref s.heap.objs.size ∧ s1 = { s with heap := setH s.heap led }) fun led => ⟨led, rfl, rfl⟩) fun r s1 hr => ?_
  rcases r with e | fl
  · exact hr
  cases fl
  all_goals first | exact hr.elim | skip
  obtain ⟨led, rfl, rfl⟩ := hr
  have g0 : (setH s.heap led).get? s.heap.objs.size = some { cls := .type "set", dict := none, data := .set #[] 0 (.fresh 0 0 led) } := Heap.get?_push_size _ rfl
  have T : Shared.TypeIs { s with heap := setH s.heap led } (.ref s.heap.objs.size) "set" := ⟨_, g0, rfl⟩
  have m6 := PySem.F.called_set.init.lookup
  have m7 := PySem.F.called_set.init.bind (.ref s.heap.objs.size)
  repeat (any_goals (first | assumption | wp_step))
  refine codeAny_mono (codeAny_call_builtin (R := wants (fun r s2 => r = .none ∧ ∃ h' tk, s2 = { s with heap := h', toks := tk } ∧ h'.SetOf (strKind prog w) s.heap.objs.size (met xs us.size) us.size ∧ ∀ b o, b < s.heap.objs.size → s.heap.get? b = some o → h'.get? b = some o) E) PySem.F.called_set.init.plain PySem.F.entry_set_init (check_set_init_1 T ?_)) fun r2 s2 hr2 => ?_
  · obtain ⟨ol, hol, hcl, nl, hdl⟩ := hl
    obtain ⟨oc, od, odt, osl⟩ := ol
    simp only at hcl hdl
    subst hcl
    subst hdl
    have k0 : (setH s.heap led).get? l = some { cls := .type "list", dict := od, data := .seq us nl, slots := osl } := Heap.get?_push_of_some _ hol
    have k1 := PySem.F.sub_list_set
    have k2 := PySem.F.sub_list_frozenset
    have k3 : (Value.type "list" == Value.type "dict") = false := by decide
    have k4 : (setH s.heap led).IsList l us := ⟨_, k0, rfl, nl, rfl⟩
    unfold Builtin.«set.__init__» noKeywords Builtin.Frozenset.updateFrom
    generalize eI : pyIter = PI
    wp_walk
    subst eI
    refine wpAny_pyIter_list k4 (wpAny_bind (wpAny_runValue ?_))
    have lt : l < s.heap.objs.size := Heap.lt_size hol
    have sz : (setH s.heap led).objs.size = s.heap.objs.size + 1 := Heap.size_push ..
    have nI : l ≠ (setH s.heap led).objs.size := by
      rw [sz]
      exact Nat.ne_of_lt (Nat.lt_succ_of_lt lt)
    have nS : s.heap.objs.size ∉ [(setH s.heap led).objs.size, l] := by
      rw [sz]
      simp only [List.mem_cons, List.not_mem_nil, or_false, not_or]
      exact ⟨(Nat.succ_ne_self _).symm, Nat.ne_of_gt lt⟩
    refine texts_loop ((Walks.list (by simp [hh]) _ l nI us).toS) s.heap.objs.size nS nd hlen hb (fun i v hv => SS.strs_at hi i v (by rw [Array.getElem?_toList]; exact hv)) us.size 0 _ (Nat.zero_add _) ⟨⟨_, Heap.get?_push_size _ rfl, rfl, rfl⟩, k4.push _⟩ ?_ ?_
    · exact PyProof.Rows.SetOf_congr ((PyProof.Rows.setObjOf_fresh (knd := strKind prog w) led).setOf (Heap.get?_push_of_some _ g0) (by unfold scanBound; omega)) (fun _ => rfl) rfl
    · intro s' mv hS'
      obtain ⟨h', g', d', tk', os'⟩ := s'
      obtain rfl : g' = s.gens := mv.gens
      obtain rfl : d' = s.drawn := mv.drawn
      obtain rfl : os' = s.os := mv.os
      show wpAny _ _ _ _ _ _
      refine wpAny_pure ?_
      show wpAny _ _ (ret Value.none) _ _ _
      refine wpAny_pure ⟨rfl, h', tk', rfl, hS', fun b o hb q => mv.heap b o ?_ (Heap.get?_push_of_some _ (Heap.get?_push_of_some _ q))⟩
      rw [sz]
      simp only [List.mem_cons, List.not_mem_nil, or_false, not_or]
      exact ⟨Nat.ne_of_lt hb, Nat.ne_of_lt (Nat.lt_succ_of_lt hb)⟩
  · rcases r2 with e | fl
    · exact hr2
    cases fl
    all_goals first | exact hr2.elim | skip
    obtain ⟨rfl, h', tk, rfl, hS', kp⟩ := hr2
    repeat (any_goals (first | assumption | wp_step))
    exact h _ _ hS' kp
end
/-- len(set(xs)), xs a list of unlike texts -/
def tLenSetS (K : PySem.W.Frag) (ta : TE) : TE := fun σ H Q => ta σ H fun x H1 => ∃ (l : Addr) (xs : List Str), x = .ref l ∧ SqL K H1 l (xs.map V.str) ∧ xs.Nodup ∧ xs.length ≤ 900 ∧ Q (.int (xs.length : Nat)) H1
theorem pe_lenSetS {X : Cx} {a : Expr} {ta : TE} {p p2 q pos : Pos} (hg : Gl X "len") (hm : X.mg "len" = none) (hg2 : Gl X "set") (hm2 : X.mg "set" = none) (ha : PE X a ta) (hc : X.calm = true := by rfl)
    (na : starEach [a] X.env = (false, eval a X.env) :: starEach [] X.env := by rfl) : PE X (.Call (.Name "len" p) [.Call (.Name "set" p2) [a] [] q] [] pos) (tLenSetS X.K ta) := by
  constructor
  intro pins s σ H Q I h
  refine Call_ (ld_blt I hg hm boot_len (PyProof.Rows.callWith_builtin1 (PyProof.Rows.args_cons ?_ rfl) rfl rfl))
  refine Call_ (ld_blt I hg2 hm2 boot_set (PyProof.Rows.callWith_type1 (PyProof.Rows.args_cons (thn (ha.run pins s σ H _ I h) fun v s1 ⟨x, H1, I1, r1, q1⟩ => PyProof.Rows.args_nil ?_) na) na rfl))
  obtain ⟨l, xs, rfl, hq, nd, few, q1⟩ := q1
  cases r1
  obtain ⟨us, r, pl, _⟩ := I1.list hq
  have hlen : us.toArray.size = xs.length := by rw [List.size_toArray, ← r.length, List.length_map]
  refine set_of_texts (I1.ok.hd hc) pl.isList (by simpa using strsAre_of r) nd (by rw [hlen]; unfold scanBound; omega) fun h' tk hS hk => PyProof.Rows.args_nil ?_
  rw [hlen] at hS
  obtain ⟨o, es, ep, t, ho, hex, hd, _, _, _, hf, hn⟩ := hS
  have I2 : Inv X pins σ H1 { s1 with heap := h', toks := tk } := I1.kept fun b o e => hk b o (Heap.lt_size e) e
  exact call_len_set ho hex hd hf (by rw [hn]; omega) ⟨.int xs.length, H1, I2.tok _, ⟨_, by rw [hn]⟩, q1⟩
end Hx

set_option maxRecDepth 100000
set_option maxHeartbeats 4000000
/-! What a house's lines tell, line by line. -/
namespace Hx
open PySem PySem.Spec PyProof.Rows L2
/-! ### defs and methods by what they promise -/
structure DefOk (P : Program) (w : World) (K : PySem.W.Frag) (mg : Str → Option Value) (base : Heap) (x : Str) (k : Nat) (ps : List Str) (sp : Sp) : Prop where
  ex : ∃ f fd, mg x = some (.ref f) ∧ PySem.W.keepIn K (.ref f) = true ∧ FnOk P w K mg base CX0 k f fd ps sp ∧ Binds K fd ps []
structure MethOk (P : Program) (w : World) (K : PySem.W.Frag) (mg : Str → Option Value) (base : Heap) (C : Addr) (m : Str) (k : Nat) (ps : List Str) (sp : Sp) : Prop where
  ex : ∃ f fd, Meth K C m f ∧ FnOk P w K mg base CX0 k f fd ps sp ∧ Binds K fd ps []
section
variable {X : Cx} {x m : Str} {C : Addr} {k : Nat} {ps : List Str} {sp : Sp} {o e : Expr} {es : List Expr} {p pos apos : Pos} {t : TA} {ta : TE}
theorem pe_D (D : DefOk X.prog X.w X.K X.mg X.base x k ps sp) (hr : Room k X.A) (hg : Gl X x) (ha : PA X (e :: es) t) (hdb : (x == ("__debug__" : Str)) = false := by decide)
    (he : starEach (e :: es) X.env = (false, eval e X.env) :: starEach es X.env := by rfl) (hpl : (backTo pos (starEach es X.env)).any (·.1) = false := by rfl) : PE X (.Call (.Name x p) (e :: es) [] pos) (tCall sp [] E0 t) := by
  obtain ⟨f, fd, hm, kp, G, b⟩ := D.ex
  exact pe_call G hr hg hm kp b .nil pass0 ha hdb he hpl
theorem pe_M {pl : Sem Bool} (ho : PE X o ta) (c : L2.Cls X.K C) (D : MethOk X.prog X.w X.K X.mg X.base C m k ps sp) (hr : Room k X.A) (ha : PA X (e :: es) t)
    (hst : starEach (e :: es) X.env = (false, eval e X.env) :: starEach es X.env := by rfl) (hpl : (backTo pos (starEach es X.env)).any (·.1) = false := by rfl)
    (ht : eval (.Call (.Attribute o m apos) (e :: es) [] pos) X.env = (do
      let ov ← eval o X.env
      standAt apos.atName
      let (f, first) ← holding [ov] (getMethod ov m pl)
      callWith pos f first (backTo pos (starEach (e :: es) X.env)) (backToKw pos (keywordEach [] X.env))) := by rfl) : PE X (.Call (.Attribute o m apos) (e :: es) [] pos) (tMeth C m sp [] E0 ta t) := by
  obtain ⟨f, fd, M, G, b⟩ := D.ex
  exact pe_meth ho c M G hr b .nil pass0 ha hst hpl ht
theorem pe_M0 {pl : Sem Bool} (ho : PE X o ta) (c : L2.Cls X.K C) (D : MethOk X.prog X.w X.K X.mg X.base C m k ps sp) (hr : Room k X.A)
    (ht : eval (.Call (.Attribute o m apos) [] [] pos) X.env = (do
      let ov ← eval o X.env
      standAt apos.atName
      let (f, first) ← holding [ov] (getMethod ov m pl)
      callWith pos f first (backTo pos (starEach [] X.env)) (backToKw pos (keywordEach [] X.env))) := by rfl) : PE X (.Call (.Attribute o m apos) [] [] pos) (tMeth C m sp [] E0 ta tNil) := by
  obtain ⟨f, fd, M, G, b⟩ := D.ex
  exact pe_meth0 ho c M G hr b .nil pass0 ht
end
/-! ### the lines' methods, together -/
structure Ln (P : Program) (w : World) (K : PySem.W.Frag) (mg : Str → Option Value) (base : Heap) (C : Addr) : Prop where
  T : LTxt K mg C
  need : MethOk P w K mg base C "need" 1 ["self", "holds"] spNeed
  next : MethOk P w K mg base C "is_next" 2 ["self", "depth", "words"] (spNextP C K)
  more : MethOk P w K mg base C "is_more" 3 ["self", "depth", "words", "found", "least", "most"] (spMoreP C K)
  take : MethOk P w K mg base C "take" 2 ["self", "depth", "words"] (spTakeP C K)
  exactly_ : MethOk P w K mg base C "take_exactly" 3 ["self", "depth", "words", "many"] (spExactlyP C K)
  end_ : MethOk P w K mg base C "take_end" 1 ["self"] (spEnd C)
  newName : MethOk P w K mg base C "new_name" 2 ["self", "word", "names"] (spNewName C K)
  place : MethOk P w K mg base C "place" 2 ["self", "word", "names"] (spPlace C K)
  numFrom : MethOk P w K mg base C "number_from" 2 ["self", "word", "low", "limit"] (spNumFrom C)
  isName : DefOk P w K mg base "is_name" 1 ["word"] spName
  numOf : DefOk P w K mg base "number_of" 1 ["word"] spNumOf
  set : mg "set" = none
  tuple : mg "tuple" = none
/-- where the object of the lines stands -/
theorem PageAt.at {C : Addr} {H : Hp} {L : Addr} {page : List Rw} {n : Nat} (h : PageAt C H L page n) : ∃ dx R, H L = some (.ins C dx [("rows", .ref R), ("number", .int n)]) := by
  obtain ⟨dx, R, e, _⟩ := h.la.ob
  exact ⟨dx, R, e⟩
/-! ### data stand -/
theorem sql_bar {K : PySem.W.Frag} {H H' : Hp} {L a C dx : Addr} {fs : List (Str × V)} {xs : List V} (e : H L = some (.ins C dx fs)) (b : Bar L H H') (h : SqL K H a xs) : SqL K H' a xs := by
  rcases h with (h | ⟨o, h⟩) | h
  · exact .inl (.inl (b a _ (fun z => by rw [z, e] at h; cases h) h))
  · exact .inl (.inr ⟨o, b a _ (fun z => by rw [z, e] at h; cases h) h⟩)
  · exact .inr h
theorem sqt_bar {K : PySem.W.Frag} {H H' : Hp} {L a C dx : Addr} {fs : List (Str × V)} {xs : List V} (e : H L = some (.ins C dx fs)) (b : Bar L H H') (h : SqT K H a xs) : SqT K H' a xs := by
  rcases h with (h | ⟨o, h⟩) | h
  · exact .inl (.inl (b a _ (fun z => by rw [z, e] at h; cases h) h))
  · exact .inl (.inr ⟨o, b a _ (fun z => by rw [z, e] at h; cases h) h⟩)
  · exact .inr h
mutual
theorem dp_map {K : PySem.W.Frag} {H H' : Hp} (l : ∀ {a xs}, SqL K H a xs → SqL K H' a xs) (t : ∀ {a xs}, SqT K H a xs → SqT K H' a xs) : ∀ {v : V} {d : PyData}, Dp K H v d → Dp K H' v d
  | _, _, .non => .non
  | _, _, .bl b => .bl b
  | _, _, .int i => .int i
  | _, _, .str x => .str x
  | _, _, .lst h r => .lst (l h) (dpa_map l t r)
  | _, _, .tup h r => .tup (t h) (dpa_map l t r)
theorem dpa_map {K : PySem.W.Frag} {H H' : Hp} (l : ∀ {a xs}, SqL K H a xs → SqL K H' a xs) (t : ∀ {a xs}, SqT K H a xs → SqT K H' a xs) : ∀ {vs : List V} {ds : List PyData}, DpAll K H vs ds → DpAll K H' vs ds
  | _, _, .nil => .nil
  | _, _, .cons h r => .cons (dp_map l t h) (dpa_map l t r)
end
theorem dp_same {K : PySem.W.Frag} {H H' : Hp} (s : Same H H') {v : V} {d : PyData} (h : Dp K H v d) : Dp K H' v d := dp_map (same_sql s) (same_sqt s) h
theorem dpa_same {K : PySem.W.Frag} {H H' : Hp} (s : Same H H') {vs : List V} {ds : List PyData} (h : DpAll K H vs ds) : DpAll K H' vs ds := dpa_map (same_sql s) (same_sqt s) h
theorem dp_bar {K : PySem.W.Frag} {H H' : Hp} {L C dx : Addr} {fs : List (Str × V)} (e : H L = some (.ins C dx fs)) (b : Bar L H H') {v : V} {d : PyData} (h : Dp K H v d) : Dp K H' v d := dp_map (sql_bar e b) (sqt_bar e b) h
theorem dpa_bar {K : PySem.W.Frag} {H H' : Hp} {L C dx : Addr} {fs : List (Str × V)} (e : H L = some (.ins C dx fs)) (b : Bar L H H') {vs : List V} {ds : List PyData} (h : DpAll K H vs ds) : DpAll K H' vs ds := dpa_map (sql_bar e b) (sqt_bar e b) h

theorem cut_tail (x : V) (r : List V) : cutV (x :: r) (some 1) none = r := by
  unfold cutV
  have e : HT.sIx (x :: r).length 0 (some (1 : Int)) = 1 := by
    have := HT.sIx_nat (x :: r).length 0 1
    rw [Nat.min_eq_left (by simp)] at this
    exact this
  rw [e, HT.sIx_none]
  show r.take (r.length + 1 - 1) = r
  rw [Nat.add_sub_cancel, List.take_length]
theorem cut_tailS (x : Str) (r : List Str) : cutV (List.map V.str (x :: r)) (some 1) none = List.map V.str r := cut_tail _ _
theorem replicate_all (n : Nat) : (List.replicate n true).all id = true := by simp
abbrev sTakePeople : Stmt := top 37
abbrev sTakeCell : Stmt := top 38
section
variable {P : Program} {w : World} {K : PySem.W.Frag} {mg : Str → Option Value} {base : Heap} {C : Addr}
/-! ### take_people -/
def spPeople (C : Addr) (K : PySem.W.Frag) : Sp := fun vs H Q _ => ∃ (L : Addr) (page : List Rw) (n : Nat) (names : List Str), vs = [.ref L] ∧ PageAt C H L page n ∧ page[n]? = some ⟨false, "people" :: names⟩ ∧ 1 ≤ names.length ∧ names.length ≤ 3 ∧ names.Nodup ∧ (∀ x ∈ names, nameB x = true ∧ x ≠ "who") ∧
  ∀ p H', Bar L H H' → PageAt C H' L page (n + 1) → SqT K H' p (names.map V.str) → Q (.ref p) H'
theorem scPeople : FnScope ["lines", "names", "name"] ["lines"] (defScope sTakePeople) := ⟨rfl, rfl, rfl, by decide +kernel, rfl, by decide +kernel, by decide +kernel⟩
theorem ok_people {f : Addr} {fd : FuncData} (F : Fun K "take_people" "take_people" sTakePeople f fd) (T : Ln P w K mg base C) : FnOk P w K mg base CX0 3 f fd ["lines"] (spPeople C K) := by
  refine F.ok scPeople (fun vs H Q E h => ?_) (fun cdv A outer s H vs Q E hr h => ?_)
  · obtain ⟨L, page, n, names, rfl, _⟩ := h
    rfl
  obtain ⟨L, page, n, names, rfl, pa, e, n1, n3, hnd, hx, k⟩ := h
  have nd := scPeople.nd
  have hr1 : Room 1 (A.deeper (envOfC "take_people" (defScope sTakePeople) s.heap.objs.size f cdv)) := hr.mono (by decide)
  refine ⟨_, pss_cons (ps_set (i := 1) nd rfl (.inl rfl) (pe_slice sl_list (pe_M (pv 0) T.T.cl T.take hr (pa_cons pe_int (pa_cons (pe_tup (pa_cons pe_str pa_nil)) pa_nil))) (po_some pe_int) po_none))
    (pss_cons (ps_expr (pe_M (pv 0) T.T.cl T.need hr1 (pa_cons (pe_and (pe_chain op_le op_le pe_int (pe_callB call_len_seq rfl T.T.len PySem.boot_len (pa_cons (pv 1) pa_nil)) pe_int)
        (pe_one (pe_cmpR op_eq (pe_lenSetS rfl T.T.len rfl T.set (pv 1)) (pe_callB call_len_seq rfl T.T.len PySem.boot_len (pa_cons (pv 1) pa_nil)) (nomark _)))) pa_nil)))
    (pss_cons (ps_expr (pe_M (pv 0) T.T.cl T.need hr1 (pa_cons (pe_callB (cr_all rfl) rfl T.T.all PyProof.Rows.boot_all (pa_cons
      (pe_lc (own := [("name", 2)]) (g := gName 2) (tt := tYes) rfl nd (pi_list (pv 1)) (blkOk_by (N := ["lines", "names", "name"]) (sc := defScope sTakePeople) (by decide +kernel)) (fun _ _ _ _ _ => pg_name (i := 2) nd rfl (Or.inl rfl)) (fun _ _ _ _ _ => pts_nil)
        (fun _ _ _ _ _ => pe_and (pe_D T.isName hr1 rfl (pa_cons (pv 2) pa_nil)) (pe_one (pe_cmpR op_ne (pv 2) pe_str (nomark _))))) pa_nil)) pa_nil)))
    (pss_one (ps_ret (pe_callTy call_tuple_of rfl T.tuple PyProof.Rows.Boot.«tuple» (pa_cons (pv 1) pa_nil)))))), ?_⟩
  obtain ⟨dx, R, hL⟩ := pa.at
  refine ⟨_, rfl, L, dx, _, rfl, hL, rfl, sz (by decide : 1 ≤ 1000), fun t ht => ?_⟩
  have s0 := same_new ht (.tup [.str "people"])
  refine ⟨L, t, 0, page, ["people"], "people" :: names, n, rfl, pa.same s0, .inl rfl, SqT.of upd_same, e, by simp [nextB], fun q H1 b1 nq nqL e1 pa1 => ?_⟩
  refine ⟨_, rfl, q, _, rfl, SqL.of e1, fun l hl => ?_⟩
  rw [cut_tailS]
  have b2 := ((Bar.of s0).trans b1).trans (Bar.of (same_new hl (.lst (names.map V.str))))
  have pa2 := pa1.same (same_new hl (.lst (names.map V.str)))
  have el : upd H1 l (.lst (names.map V.str)) l = some (.lst (names.map V.str)) := upd_same
  generalize upd H1 l (.lst (names.map V.str)) = H2 at *
  obtain ⟨dy, R2, hL2⟩ := pa2.at
  refine ⟨_, rfl, L, dy, _, rfl, hL2, rfl, _, rfl, l, _, rfl, .inl (SqL.of el), _, _, rfl, rfl, _, rfl, ?_⟩
  rw [List.length_map, decide_eq_true (by omega)]
  refine iteT ⟨_, _, rfl, rfl, _, rfl, ?_⟩
  rw [decide_eq_true (by omega)]
  refine iteT ⟨_, rfl, l, names, rfl, SqL.of el, hnd, by omega, _, rfl, l, _, rfl, .inl (SqL.of el), rfl, ?_⟩
  have e3 : decide (V.int (names.length : Nat) = V.int ((names.map V.str).length : Nat)) = true := by rw [List.length_map]; exact decide_eq_true rfl
  refine ⟨L, ne_ e3, _, rfl, L, dy, _, rfl, hL2, rfl, ?_⟩
  refine ⟨_, rfl, l, rfl, ⟨_, SqL.of el⟩, fun D hD => lc_list (xs := names.map V.str) (fun i H' => Same H2 H' ∧ H' D = some (.lst ((List.replicate i true).map V.bl))) ⟨same_new hD _, upd_same⟩ (fun i H' _ z => SqL.of (z.1 _ _ el)) ?_ ?_⟩
  · rintro i x H' hi ⟨sm, eD⟩
    rw [List.getElem?_map] at hi
    have hil : i < names.length := by
      cases ei : names[i]? with
      | none =>
        rw [ei] at hi
        cases hi
      | some y => exact (List.getElem?_eq_some_iff.mp ei).1
    obtain ⟨y, ey, rfl⟩ : ∃ y, names[i]? = some y ∧ x = .str y := by
      cases ei : names[i]? with
      | none =>
        rw [ei] at hi
        cases hi
      | some y =>
        rw [ei] at hi
        exact ⟨y, rfl, (Option.some.inj hi).symm⟩
    obtain ⟨y1, y2⟩ := hx y (List.mem_of_getElem? ey)
    refine ⟨set2, yes ⟨_, get_same (by show 2 < 3; decide), y, rfl, y1, fun H3 s3 => ⟨_, rfl, iteT ?_⟩⟩⟩
    refine ⟨_, get_same (by show 2 < 3; decide), rfl, _, s3 _ _ eD, ?_, same_grow hD (sm.trans s3), ?_⟩
    · rw [List.length_map, List.length_replicate]
      exact small1000 (by omega)
    · have e4 : (!decide (V.str y = V.str "who")) = true := by
        rw [decide_eq_false (fun z => y2 (V.str.inj z))]
        rfl
      show upd H3 D (.lst ((List.replicate i true).map V.bl ++ [V.bl (!decide (V.str y = V.str "who"))])) D = _
      rw [upd_same, e4, List.replicate_succ', List.map_append]
      rfl
  · rintro H' ⟨sm, eD⟩
    refine ⟨D, _, rfl, SqL.of eD, ?_⟩
    refine ⟨L, ne_ (replicate_all _), _, rfl, l, _, rfl, .inl ⟨SqL.of (sm _ _ el), fun r hr' => ?_⟩⟩
    have s5 := same_new hr' (.tup (names.map V.str))
    exact k r _ (b2.trans (Bar.of (sm.trans s5))) ((pa2.same sm).same s5) (SqT.of upd_same)
/-! ### take_cell -/
def cellD (x : Str) (z i : Int) : PyData := .tuple [.str x, .int z, .int i]
end
end Hx
set_option maxRecDepth 100000
set_option maxHeartbeats 4000000
namespace Hx
open PySem PySem.Spec PyProof.Rows L2
/-! ### data of tuples -/
mutual
inductive Tp (K : PySem.W.Frag) (H : Hp) : V → PyData → Prop
  | non : Tp K H .non .none
  | bl (b : Bool) : Tp K H (.bl b) (.bool b)
  | int (i : Int) : Tp K H (.int i) (.int i)
  | str (x : Str) : Tp K H (.str x) (.str x)
  | tup {a : Addr} {xs : List V} {ds : List PyData} : SqT K H a xs → TpAll K H xs ds → Tp K H (.ref a) (.tuple ds)
inductive TpAll (K : PySem.W.Frag) (H : Hp) : List V → List PyData → Prop
  | nil : TpAll K H [] []
  | cons {v : V} {vs : List V} {d : PyData} {ds : List PyData} : Tp K H v d → TpAll K H vs ds → TpAll K H (v :: vs) (d :: ds)
end
mutual
theorem Tp.map {K : PySem.W.Frag} {H H' : Hp} (t : ∀ {a xs}, SqT K H a xs → SqT K H' a xs) : ∀ {v : V} {d : PyData}, Tp K H v d → Tp K H' v d
  | _, _, .non => .non
  | _, _, .bl b => .bl b
  | _, _, .int i => .int i
  | _, _, .str x => .str x
  | _, _, .tup h r => .tup (t h) (TpAll.map t r)
theorem TpAll.map {K : PySem.W.Frag} {H H' : Hp} (t : ∀ {a xs}, SqT K H a xs → SqT K H' a xs) : ∀ {vs : List V} {ds : List PyData}, TpAll K H vs ds → TpAll K H' vs ds
  | _, _, .nil => .nil
  | _, _, .cons h r => .cons (Tp.map t h) (TpAll.map t r)
end
mutual
theorem Tp.dp {K : PySem.W.Frag} {H : Hp} : ∀ {v : V} {d : PyData}, Tp K H v d → Dp K H v d
  | _, _, .non => .non
  | _, _, .bl b => .bl b
  | _, _, .int i => .int i
  | _, _, .str x => .str x
  | _, _, .tup h r => .tup h (TpAll.dp r)
theorem TpAll.dp {K : PySem.W.Frag} {H : Hp} : ∀ {vs : List V} {ds : List PyData}, TpAll K H vs ds → DpAll K H vs ds
  | _, _, .nil => .nil
  | _, _, .cons h r => .cons (Tp.dp h) (TpAll.dp r)
end
section
variable {K : PySem.W.Frag} {H H' : Hp}
theorem Tp.same (s : Same H H') {v : V} {d : PyData} (h : Tp K H v d) : Tp K H' v d := h.map (same_sqt s)
theorem TpAll.same (s : Same H H') {v : List V} {d : List PyData} (h : TpAll K H v d) : TpAll K H' v d := h.map (same_sqt s)
theorem Tp.bar {L C dx : Addr} {fs : List (Str × V)} (e : H L = some (.ins C dx fs)) (b : Bar L H H') {v : V} {d : PyData} (h : Tp K H v d) : Tp K H' v d := h.map (sqt_bar e b)
theorem TpAll.bar {L C dx : Addr} {fs : List (Str × V)} (e : H L = some (.ins C dx fs)) (b : Bar L H H') {v : List V} {d : List PyData} (h : TpAll K H v d) : TpAll K H' v d := h.map (sqt_bar e b)
theorem sqt_lst {l a : Addr} {ys xs : List V} {o : HO} (e : H l = some (.lst ys)) (h : SqT K H a xs) : SqT K (upd H l o) a xs := by
  rcases h with (h | ⟨o', h⟩) | h
  · exact .inl (.inl (by rw [upd_ne (fun z => by rw [z, e] at h; cases h)]; exact h))
  · exact .inl (.inr ⟨o', by rw [upd_ne (fun z => by rw [z, e] at h; cases h)]; exact h⟩)
  · exact .inr h
theorem Tp.lst {l : Addr} {ys : List V} {o : HO} (e : H l = some (.lst ys)) {v : V} {d : PyData} (h : Tp K H v d) : Tp K (upd H l o) v d := h.map (sqt_lst e)
theorem TpAll.lst {l : Addr} {ys : List V} {o : HO} (e : H l = some (.lst ys)) {v : List V} {d : List PyData} (h : TpAll K H v d) : TpAll K (upd H l o) v d := h.map (sqt_lst e)
theorem TpAll.append : ∀ {xs ys : List V} {ds es : List PyData}, TpAll K H xs ds → TpAll K H ys es → TpAll K H (xs ++ ys) (ds ++ es)
  | _, _, _, _, .nil, h => h
  | _, _, _, _, .cons a r, h => .cons a (TpAll.append r h)
theorem TpAll.length : ∀ {xs : List V} {ds : List PyData}, TpAll K H xs ds → xs.length = ds.length
  | _, _, .nil => rfl
  | _, _, .cons _ r => congrArg (· + 1) r.length
theorem TpAll.get : ∀ {xs : List V} {ds : List PyData} {i : Nat} {x : V}, TpAll K H xs ds → xs[i]? = some x → ∃ d, ds[i]? = some d ∧ Tp K H x d
  | _, _, 0, _, .cons a _, e => ⟨_, rfl, by cases e; exact a⟩
  | _, _, i + 1, _, .cons _ r, e => r.get (by simpa using e)
theorem TpAll.at : ∀ {xs : List V} {ds : List PyData} {i : Nat} {d : PyData}, TpAll K H xs ds → ds[i]? = some d → ∃ x, xs[i]? = some x ∧ Tp K H x d
  | _, _, 0, _, .cons a _, e => ⟨_, rfl, by cases e; exact a⟩
  | _, _, i + 1, _, .cons _ r, e => r.at (by simpa using e)
theorem tp_tup {v : V} {ds : List PyData} (h : Tp K H v (.tuple ds)) : ∃ a xs, v = .ref a ∧ SqT K H a xs ∧ TpAll K H xs ds := by
  cases h with
  | tup h r => exact ⟨_, _, rfl, h, r⟩
theorem tp_str {v : V} {x : Str} (h : Tp K H v (.str x)) : v = .str x := by
  cases h
  rfl
theorem tp_int {v : V} {x : Int} (h : Tp K H v (.int x)) : v = .int x := by
  cases h
  rfl
theorem tp_non {v : V} (h : Tp K H v .none) : v = .non := by
  cases h
  rfl
theorem tpa_strs : ∀ {vs : List V} {xs : List Str}, TpAll K H vs (xs.map PyData.str) → vs = xs.map V.str
  | _, [], .nil => rfl
  | _, _ :: _, .cons a r => by rw [tp_str a, tpa_strs r]; rfl
theorem tpa_of_strs : ∀ xs : List Str, TpAll K H (xs.map V.str) (xs.map PyData.str)
  | [] => .nil
  | x :: r => .cons (.str x) (tpa_of_strs r)
end
/-! ### numerals -/
def numS (v : Int) : Str := Str.ofString (toString v)
theorem num_ok {v : Int} (h0 : 0 ≤ v) (h : v < 10) : digitB (numS v) = true ∧ PySem.intText? (numS v) = some v ∧ wordB (numS v) = true := by
  have e : v = 0 ∨ v = 1 ∨ v = 2 ∨ v = 3 ∨ v = 4 ∨ v = 5 ∨ v = 6 ∨ v = 7 ∨ v = 8 ∨ v = 9 := by omega
  rcases e with rfl | rfl | rfl | rfl | rfl | rfl | rfl | rfl | rfl | rfl <;> decide +kernel
/-! ### cells -/
structure CellD where
  x : Str
  z : Int
  i : Int
def CellD.d (c : CellD) : PyData := .tuple [.str c.x, .int c.z, .int c.i]
def CellD.row (c : CellD) : Rw := ⟨false, ["cell", c.x, numS c.z, numS c.i]⟩
def CellD.ok (c : CellD) : Prop := nameB c.x = true ∧ c.x ≠ "it" ∧ 2 ≤ c.z ∧ c.z < 5 ∧ 0 ≤ c.i ∧ c.i < c.z
abbrev sTakeCells : Stmt := top 39
section
variable {P : Program} {w : World} {K : PySem.W.Frag} {mg : Str → Option Value} {base : Heap} {C : Addr}
def spCell (C : Addr) (K : PySem.W.Frag) : Sp := fun vs H Q _ => ∃ (L l : Addr) (page : List Rw) (n : Nat) (c : CellD) (names : List Str), vs = [.ref L, .ref l] ∧ PageAt C H L page n ∧ page[n]? = some c.row ∧ c.ok ∧ SqL K H l (names.map V.str) ∧ c.x ∉ names ∧
  ∀ v H', Bar L H H' → PageAt C H' L page (n + 1) → Tp K H' v c.d → Q v H'
theorem scCell : FnScope ["lines", "names", "_", "name", "size", "first"] ["lines", "names"] (defScope sTakeCell) := ⟨rfl, rfl, rfl, by decide +kernel, rfl, by decide +kernel, by decide +kernel⟩
theorem ok_cell {f : Addr} {fd : FuncData} (F : Fun K "take_cell" "take_cell" sTakeCell f fd) (T : Ln P w K mg base C) : FnOk P w K mg base CX0 4 f fd ["lines", "names"] (spCell C K) := by
  refine F.ok scCell (fun vs H Q E h => ?_) (fun cdv A outer s H vs Q E hr h => ?_)
  · obtain ⟨L, l, page, n, c, names, rfl, _⟩ := h
    rfl
  obtain ⟨L, l, page, n, c, names, rfl, pa, e, ⟨c1, c2, c3, c4, c5, c6⟩, hl, hin, k⟩ := h
  have nd := scCell.nd
  have hr1 : Room 1 (A.deeper (envOfC "take_cell" (defScope sTakeCell) s.heap.objs.size f cdv)) := hr.mono (by decide)
  have hr2 : Room 2 (A.deeper (envOfC "take_cell" (defScope sTakeCell) s.heap.objs.size f cdv)) := hr.mono (by decide)
  refine ⟨_, pss_cons (ps_asg (pe_M (pv 0) T.T.cl T.exactly_ hr (pa_cons pe_int (pa_cons (pe_tup (pa_cons pe_str pa_nil)) (pa_cons pe_int pa_nil)))) (pg_unl rfl (pgs_cons (pg_name (i := 2) nd rfl (.inl rfl)) (pgs_cons (pg_name (i := 3) nd rfl (.inl rfl)) (pgs_cons (pg_name (i := 4) nd rfl (.inl rfl)) (pgs_cons (pg_name (i := 5) nd rfl (.inl rfl)) pgs_nil))))))
    (pss_cons (ps_expr (pe_M (pv 0) T.T.cl T.need hr1 (pa_cons (pe_cmpR op_ne (pv 3) pe_str (nomark _)) pa_nil)))
    (pss_cons (ps_set (i := 3) nd rfl (.inl rfl) (pe_M (pv 0) T.T.cl T.newName hr2 (pa_cons (pv 3) (pa_cons (pv 1) pa_nil))))
    (pss_cons (ps_set (i := 4) nd rfl (.inl rfl) (pe_M (pv 0) T.T.cl T.numFrom hr2 (pa_cons (pv 4) (pa_cons pe_int (pa_cons pe_int pa_nil)))))
    (pss_one (ps_ret (pe_tup (pa_cons (pv 3) (pa_cons (pv 4) (pa_cons (pe_M (pv 0) T.T.cl T.numFrom hr2 (pa_cons (pv 5) (pa_cons pe_int (pa_cons (pv 4) pa_nil)))) pa_nil))))))))), ?_⟩
  obtain ⟨dx, R, hL⟩ := pa.at
  refine ⟨_, rfl, L, dx, _, rfl, hL, rfl, sz (by decide : 1 ≤ 1000), fun t ht => ?_⟩
  have s0 := same_new ht (.tup [.str "cell"])
  refine ⟨L, t, 0, 4, page, ["cell"], _, n, rfl, pa.same s0, .inl rfl, SqT.of upd_same, e, by simp [nextB], rfl, fun q H1 b1 nq nqL e1 pa1 => ?_⟩
  have b01 := (Bar.of s0).trans b1
  have hl1 := sql_bar hL b01 hl
  refine ⟨q, _, rfl, SqL.of e1, rfl, ?_⟩
  obtain ⟨dy, R2, hL1⟩ := pa1.at
  refine ⟨_, _, rfl, _, _, rfl, _, _, rfl, _, _, rfl, rfl, ?_⟩
  refine ⟨_, rfl, L, dy, _, rfl, hL1, rfl, _, rfl, rfl, ?_⟩
  have e3 : (!decide (V.str c.x = V.str "it")) = true := by
    rw [decide_eq_false (fun z => c2 (V.str.inj z))]
    rfl
  refine ⟨L, ne_ e3, _, rfl, L, dy, _, rfl, hL1, rfl, _, rfl, _, rfl, L, l, c.x, names, page.map Rw.text, n + 1, rfl, pa1.la, c1, hl1, hin, fun H2 s2 => ?_⟩
  have pa2 := pa1.same s2
  have hL2 := s2 _ _ hL1
  obtain ⟨g1, g2, _⟩ := num_ok (v := c.z) (by omega) (by omega)
  obtain ⟨g3, g4, _⟩ := num_ok (v := c.i) (by omega) (by omega)
  refine ⟨_, rfl, L, dy, _, rfl, hL2, rfl, _, rfl, L, numS c.z, c.z, 2, 5, page.map Rw.text, n + 1, rfl, pa2.la, g1, g2, c3, c4, fun H3 s3 => ?_⟩
  have pa3 := pa2.same s3
  have hL3 := s3 _ _ hL2
  refine ⟨_, rfl, _, rfl, _, rfl, L, dy, _, rfl, hL3, rfl, _, rfl, _, rfl, L, numS c.i, c.i, 0, c.z, page.map Rw.text, n + 1, rfl, pa3.la, g3, g4, c5, c6, fun H4 s4 => ?_⟩
  refine ⟨sz (by decide : 3 ≤ 1000), fun p hp => ?_⟩
  have s5 := same_new hp (.tup [.str c.x, .int c.z, .int c.i])
  exact k _ _ (b01.trans (Bar.of (s2.trans (s3.trans (s4.trans s5))))) ((pa3.same s4).same s5) (.tup (SqT.of upd_same) (.cons (.str _) (.cons (.int _) (.cons (.int _) .nil))))
end
end Hx
set_option maxRecDepth 100000
set_option maxHeartbeats 4000000
namespace Hx
open PySem PySem.Spec PyProof.Rows L2
theorem ix_tupK {X : Cx} (K : PySem.W.Frag) (h : X.K = K := by rfl) : IxR X (rIxT K) := by
  subst h
  exact ix_tup
theorem op_in_seqK {X : Cx} (K : PySem.W.Frag) (h : X.K = K := by rfl) : OpR X (compareOp .In) (rIn K false) := by
  subst h
  exact op_in_seq
/-- the name with which a datum begins -/
def hdS : PyData → Str
  | .tuple (.str x :: _) => x
  | _ => Str.empty
def headed : PyData → Prop
  | .tuple (.str _ :: _) => True
  | _ => False
/-- [known[0] for known in xs] -/
theorem lc_heads {K : PySem.W.Frag} {σ : L2.St} {H : Hp} {l : Addr} {xs : List V} {ds : List PyData} {s i : Nat} {Q : VK} (es : σ[s]? = some (some (.ref l))) (hi : i < σ.length) (hl : SqL K H l xs) (hx : TpAll K H xs ds) (hd : ∀ d ∈ ds, headed d) (few : ds.length ≤ 900)
    (k : ∀ D H', Same H H' → H D = none → H' D = some (.lst ((ds.map hdS).map V.str)) → Q (.ref D) H') : tLc (iList K (tVar s)) (gName i) tYes (tOp (rIxT K) (tVar i) (tC (.int 0))) [i] σ H Q := by
  have ln := hx.length
  refine ⟨_, es, l, rfl, ⟨_, hl⟩, fun D hD => lc_list (xs := xs) (fun j H' => Same H H' ∧ H' D = some (.lst (((ds.take j).map hdS).map V.str))) ⟨same_new hD _, by rw [upd_same]; rfl⟩ (fun j H' _ z => same_sql z.1 hl) ?_ (fun H' z => k D H' z.1 hD (by have := z.2; rwa [ln, List.take_length] at this))⟩
  rintro j x H' hj ⟨sm, eD⟩
  obtain ⟨d, ed, tp⟩ := hx.get hj
  have hlt : j < ds.length := (List.getElem?_eq_some_iff.mp ed).1
  obtain ⟨y, r, rfl⟩ : ∃ y r, d = .tuple (.str y :: r) := by
    have := hd d (List.mem_of_getElem? ed)
    unfold headed at this
    split at this
    · exact ⟨_, _, rfl⟩
    · exact this.elim
  obtain ⟨a, ys, rfl, hs, ha⟩ := tp_tup (tp.same sm)
  cases ha with
  | cons h0 hr =>
    have e0 := tp_str h0
    subst e0
    refine ⟨set2, yes ⟨_, get_same hi, a, _, 0, _, rfl, rfl, hs, atI_nat (j := 0) rfl, _, eD, ?_, same_grow hD sm, ?_⟩⟩
    · rw [List.length_map, List.length_map, List.length_take]
      exact small1000 (by omega)
    · rw [upd_same, List.take_add_one, ed, List.map_append, List.map_append]
      rfl
/-- .. of a tuple -/
theorem lc_headsT {K : PySem.W.Frag} {σ : L2.St} {H : Hp} {l : Addr} {xs : List V} {ds : List PyData} {s i : Nat} {Q : VK} (es : σ[s]? = some (some (.ref l))) (hi : i < σ.length) (hl : SqT K H l xs) (hx : TpAll K H xs ds) (hd : ∀ d ∈ ds, headed d) (few : ds.length ≤ 900)
    (k : ∀ D H', Same H H' → H D = none → H' D = some (.lst ((ds.map hdS).map V.str)) → Q (.ref D) H') : tLc (iTup K (tVar s)) (gName i) tYes (tOp (rIxT K) (tVar i) (tC (.int 0))) [i] σ H Q := by
  have ln := hx.length
  refine ⟨_, es, l, rfl, ⟨_, hl⟩, fun D hD => lc_tup (xs := xs) (fun j H' => Same H H' ∧ H' D = some (.lst (((ds.take j).map hdS).map V.str))) ⟨same_new hD _, by rw [upd_same]; rfl⟩ (fun j H' _ z => same_sqt z.1 hl) ?_ (fun H' z => k D H' z.1 hD (by have := z.2; rwa [ln, List.take_length] at this))⟩
  rintro j x H' hj ⟨sm, eD⟩
  obtain ⟨d, ed, tp⟩ := hx.get hj
  have hlt : j < ds.length := (List.getElem?_eq_some_iff.mp ed).1
  obtain ⟨y, r, rfl⟩ : ∃ y r, d = .tuple (.str y :: r) := by
    have := hd d (List.mem_of_getElem? ed)
    unfold headed at this
    split at this
    · exact ⟨_, _, rfl⟩
    · exact this.elim
  obtain ⟨a, ys, rfl, hs, ha⟩ := tp_tup (tp.same sm)
  cases ha with
  | cons h0 hr =>
    have e0 := tp_str h0
    subst e0
    refine ⟨set2, yes ⟨_, get_same hi, a, _, 0, _, rfl, rfl, hs, atI_nat (j := 0) rfl, _, eD, ?_, same_grow hD sm, ?_⟩⟩
    · rw [List.length_map, List.length_map, List.length_take]
      exact small1000 (by omega)
    · rw [upd_same, List.take_add_one, ed, List.map_append, List.map_append]
      rfl
theorem bar_grow {L D : Addr} {H H' : Hp} {o : HO} (hD : H D = none) (b : Bar L H H') : Bar L H (upd H' D o) := fun c u n e => by
  rw [upd_ne (ne_of_none e hD)]
  exact b c u n e
theorem ne_rows {K : PySem.W.Frag} {H : Hp} {xs : List V} {ds : List PyData} {page : List Rw} (hx : TpAll K H xs ds) (hd : ∀ d ∈ ds, headed d) (hp : page ≠ []) : xs ≠ (page.map Rw.text).map V.str := by
  intro z
  obtain ⟨r, rs, rfl⟩ := List.exists_cons_of_ne_nil hp
  cases hx with
  | nil => cases z
  | cons h t =>
    rename_i v vs d ds
    have e := (List.cons.inj z).1
    subst e
    have := hd d (List.mem_cons_self ..)
    unfold headed at this
    split at this
    · cases h
    · exact this
theorem page_lst {C l L : Addr} {H : Hp} {xs : List V} {o : HO} {page : List Rw} {n : Nat} (el : H l = some (.lst xs)) (ne : xs ≠ (page.map Rw.text).map V.str) (h : PageAt C H L page n) : PageAt C (upd H l o) L page n := by
  obtain ⟨⟨⟨dx, R, e1, e2⟩, f, g⟩, ok, le⟩ := h
  have n1 : L ≠ l := fun z => by
    rw [z, el] at e1
    cases e1
  have n2 : R ≠ l := fun z => by
    rw [z, el] at e2
    have := Option.some.inj e2
    exact ne (HO.lst.inj this)
  exact ⟨⟨⟨dx, R, by rw [upd_ne n1]; exact e1, by rw [upd_ne n2]; exact e2⟩, f, g⟩, ok, le⟩
theorem page_ne {page : List Rw} {n : Nat} {r : Rw} (e : page[n]? = some r) : page ≠ [] := fun z => by
  rw [z] at e
  cases e
/-- what stands from n on -/
def At (page : List Rw) (n : Nat) (rs : List Rw) : Prop := ∀ j r, rs[j]? = some r → page[n + j]? = some r
section
variable {P : Program} {w : World} {K : PySem.W.Frag} {mg : Str → Option Value} {base : Heap} {C : Addr}
/-! ### take_cells -/
def spCells (C : Addr) (K : PySem.W.Frag) : Sp := fun vs H Q _ => ∃ (L : Addr) (page : List Rw) (n : Nat) (cs : List CellD), vs = [.ref L] ∧ PageAt C H L page n ∧ At page n (cs.map CellD.row) ∧ 1 ≤ cs.length ∧ cs.length ≤ 3 ∧ (∀ c ∈ cs, c.ok) ∧ (cs.map (·.x)).Nodup ∧ nextP page (n + cs.length) 0 ["cell"] = false ∧
  ∀ v H', Bar L H H' → PageAt C H' L page (n + cs.length) → Tp K H' v (.tuple (cs.map CellD.d)) → Q v H'
theorem scCells : FnScope ["lines", "cells", "cell"] ["lines"] (defScope sTakeCells) := ⟨rfl, rfl, rfl, by decide +kernel, rfl, by decide +kernel, by decide +kernel⟩
theorem cells_hd (cs : List CellD) : (cs.map CellD.d).map hdS = cs.map (·.x) := by
  rw [List.map_map]
  rfl
theorem cells_headed (cs : List CellD) : ∀ d ∈ cs.map CellD.d, headed d := by
  intro d hd
  obtain ⟨c, _, rfl⟩ := List.mem_map.mp hd
  trivial
theorem not_in_take {α β : Type} [DecidableEq β] {f : α → β} {cs : List α} (h : (cs.map f).Nodup) {j : Nat} {c : α} (e : cs[j]? = some c) : f c ∉ (cs.take j).map f := by
  intro m
  obtain ⟨y, hy, ey⟩ := List.mem_map.mp m
  obtain ⟨i, hi, ei⟩ := List.mem_iff_getElem.mp hy
  rw [List.length_take] at hi
  have e1 : (cs.map f)[i]? = some (f c) := by
    rw [List.getElem?_map]
    have : cs[i]? = some y := by
      rw [List.getElem_take] at ei
      exact List.getElem?_eq_some_iff.mpr ⟨by omega, ei⟩
    rw [this, ← ey]
    rfl
  have e2 : (cs.map f)[j]? = some (f c) := by
    rw [List.getElem?_map, e]
    rfl
  obtain ⟨h1, q1⟩ := List.getElem?_eq_some_iff.mp e1
  obtain ⟨h2, q2⟩ := List.getElem?_eq_some_iff.mp e2
  have := List.pairwise_iff_getElem.mp h i j h1 h2 (by omega)
  rw [q1, q2] at this
  exact this rfl
theorem ok_cells {f : Addr} {fd : FuncData} (F : Fun K "take_cells" "take_cells" sTakeCells f fd) (T : Ln P w K mg base C) (TC : DefOk P w K mg base "take_cell" 4 ["lines", "names"] (spCell C K)) : FnOk P w K mg base CX0 5 f fd ["lines"] (spCells C K) := by
  refine F.ok scCells (fun vs H Q E h => ?_) (fun cdv A outer s H vs Q E hr h => ?_)
  · obtain ⟨L, page, n, cs, rfl, _⟩ := h
    rfl
  obtain ⟨L, page, n, cs, rfl, pa, at_, c1, c3, ok, hnd, stop, k⟩ := h
  have nd := scCells.nd
  have hr3 : Room 3 (A.deeper (envOfC "take_cells" (defScope sTakeCells) s.heap.objs.size f cdv)) := hr.mono (by decide)
  refine ⟨_, pss_cons (ps_set (i := 1) nd rfl (.inl rfl) (pe_lst pa_nil))
    (pss_cons (ps_while PassesOwn.never (pt_val (pe_M (pv 0) T.T.cl T.more hr3 (pa_cons pe_int (pa_cons (pe_tup (pa_cons pe_str pa_nil)) (pa_cons (pv 1) (pa_cons pe_int (pa_cons pe_int pa_nil)))))))
      (pss_one (ps_expr (pe_bm PySem.F.plainAttrs_list PySem.F.slot_list_append PySem.F.type_list_append mt_append (pv 1) (pa_cons (pe_D TC hr rfl (pa_cons (pv 0) (pa_cons
        (pe_lc (own := [("cell", 2)]) (g := gName 2) (tt := tYes) rfl nd (pi_list (pv 1)) (blkOk_by (N := ["lines", "cells", "cell"]) (sc := defScope sTakeCells) (by decide +kernel)) (fun _ _ _ _ _ => pg_name (i := 2) nd rfl (Or.inl rfl)) (fun _ _ _ _ _ => pts_nil) (fun _ _ _ _ _ => pe_ix (ix_tupK K) (pv 2) pe_int (fun _ _ => rfl))) pa_nil))) pa_nil)))))
    (pss_one (ps_ret (pe_callTy call_tuple_of rfl T.tuple PyProof.Rows.Boot.«tuple» (pa_cons (pv 1) pa_nil))))), ?_⟩
  refine ⟨sz (by decide : 0 ≤ 1000), fun l hl => ?_⟩
  have hlL : l ≠ L := fun z => by
    obtain ⟨dx, R, e⟩ := pa.at
    rw [z, e] at hl
    cases hl
  have s0 := same_new hl (.lst [])
  refine ⟨fun m σ H' => ∃ (j : Nat) (xs : List V), m = cs.length - j ∧ j ≤ cs.length ∧ σ = [some (.ref L), some (.ref l), none] ∧ Bar L H H' ∧ PageAt C H' L page (n + j) ∧ H' l = some (.lst xs) ∧ TpAll K H' xs ((cs.take j).map CellD.d), ⟨_, 0, [], rfl, Nat.zero_le _, rfl, Bar.of s0, pa.same s0, upd_same, .nil⟩, ?_⟩
  rintro m σ H' ⟨j, xs, rfl, hj, rfl, b, pj, el, tx⟩
  obtain ⟨dx, R, hL⟩ := pj.at
  have lx : xs.length = j := by
    rw [tx.length, List.length_map, List.length_take]
    omega
  refine ⟨_, rfl, L, dx, _, rfl, hL, rfl, sz (by decide : 1 ≤ 1000), fun t ht => ?_⟩
  have s1 := same_new ht (.tup [.str "cell"])
  have el1 := s1 _ _ el
  refine ⟨_, rfl, L, t, l, 0, page, ["cell"], n + j, xs, 1, 3, rfl, pj.same s1, .inl rfl, SqT.of upd_same, SqL.of el1, fun H2 s2 => ⟨_, rfl, ?_⟩⟩
  have s12 := s1.trans s2
  have el2 := s2 _ _ el1
  by_cases hlt : j < cs.length
  · have ej : cs[j]? = some cs[j] := List.getElem?_eq_getElem hlt
    have row := at_ j cs[j].row (by rw [List.getElem?_map, ej] <;> rfl)
    have yes' : (decide ((xs.length : Int) < 1) || (decide ((xs.length : Int) < 3) && nextP page (n + j) 0 ["cell"])) = true := by
      have a : nextP page (n + j) 0 ["cell"] = true := by
        unfold nextP aheadP
        rw [row]
        rfl
      rw [a, lx, decide_eq_true (by omega : (j : Int) < 3)]
      simp
    rw [yes']
    refine iteT ⟨fun σ' H3 => ∃ (xs : List V), σ' = [some (.ref L), some (.ref l), none] ∧ Bar L H H3 ∧ PageAt C H3 L page (n + (j + 1)) ∧ H3 l = some (.lst xs) ∧ TpAll K H3 xs ((cs.take (j + 1)).map CellD.d), ?_, ?_⟩
    · rintro σ' H3 ⟨ys, rfl, b3, p3, e3, t3⟩
      exact ⟨cs.length - (j + 1), by omega, j + 1, ys, rfl, hlt, rfl, b3, p3, e3, t3⟩
    · refine ⟨_, rfl, .inl ⟨rfl, _, SqL.of el2⟩, _, rfl, ?_⟩
      refine lc_heads (s := 1) (i := 2) rfl (by show 2 < 3; decide) (SqL.of el2) (tx.same s12) (cells_headed _) (by rw [List.length_map, List.length_take]; omega) fun D H3 s3 hD eD => ?_
      rw [cells_hd] at eD
      refine ⟨L, D, page, n + j, cs[j], _, rfl, (pj.same s12).same s3, row, ok _ (List.getElem_mem hlt), SqL.of eD, not_in_take hnd ej, fun v H4 b4 p4 tv => ?_⟩
      have el4 := b4 l _ hlL (s3 _ _ el2)
      refine ⟨l, xs, v, rfl, rfl, el4, small1000 (by omega), ?_⟩
      have bb : Bar L H H4 := (b.trans (Bar.of (s12.trans s3))).trans b4
      obtain ⟨dz, Rz, hL3⟩ := ((pj.same s12).same s3).at
      refine ⟨xs ++ [v], rfl, bar_grow hl bb, ?_, upd_same, ?_⟩
      · exact page_lst el4 (ne_rows ((tx.same (s12.trans s3)).bar hL3 b4) (fun d hd => cells_headed cs d (by rw [List.map_take] at hd; exact List.mem_of_mem_take hd)) (page_ne row)) p4
      · have e5 : (cs.take (j + 1)).map CellD.d = (cs.take j).map CellD.d ++ [cs[j].d] := by
          rw [List.take_add_one, ej, List.map_append]
          rfl
        rw [e5]
        exact TpAll.append (((tx.same (s12.trans s3)).bar hL3 b4).lst el4) (.cons (tv.lst el4) .nil)
  · have e : j = cs.length := by omega
    subst e
    have no' : (decide ((xs.length : Int) < 1) || (decide ((xs.length : Int) < 3) && nextP page (n + cs.length) 0 ["cell"])) = false := by
      rw [stop, lx, decide_eq_false (by omega : ¬ (cs.length : Int) < 1)]
      simp
    rw [no']
    refine iteF ?_
    refine ⟨_, rfl, l, xs, rfl, .inl ⟨SqL.of el2, fun p hp => ?_⟩⟩
    have s3 := same_new hp (.tup xs)
    rw [List.take_length] at tx
    exact k _ _ (b.trans (Bar.of (s12.trans s3))) ((pj.same s12).same s3) (.tup (SqT.of upd_same) (tx.same (s12.trans s3)))
end
end Hx
set_option maxRecDepth 100000
set_option maxHeartbeats 4000000
namespace Hx
open PySem PySem.Spec PyProof.Rows L2
/-! ### kinds -/
structure FieldD where
  x : Str
  z : Option Int
def FieldD.d (f : FieldD) : PyData := .tuple [.str f.x, match f.z with | none => .none | some z => .int z]
def FieldD.row (f : FieldD) : Rw := ⟨true, match f.z with | none => ["who", f.x] | some z => ["worth", f.x, numS z]⟩
def FieldD.ok (f : FieldD) : Prop := nameB f.x = true ∧ ∀ z, f.z = some z → 2 ≤ z ∧ z < 5
structure KindD where
  x : Str
  fs : List FieldD
def KindD.d (k : KindD) : PyData := .tuple [.str k.x, .tuple (k.fs.map FieldD.d)]
def KindD.rows (k : KindD) : List Rw := ⟨false, ["kind", k.x]⟩ :: k.fs.map FieldD.row
def KindD.ok (k : KindD) : Prop := nameB k.x = true ∧ k.fs.length ≤ 3 ∧ (k.fs.map (·.x)).Nodup ∧ ∀ f ∈ k.fs, f.ok
abbrev sTakeField : Stmt := top 40
abbrev sTakeKind : Stmt := top 41
abbrev sTakeKinds : Stmt := top 42
theorem fields_hd (cs : List FieldD) : (cs.map FieldD.d).map hdS = cs.map (·.x) := by
  rw [List.map_map]
  rfl
theorem fields_headed (cs : List FieldD) : ∀ d ∈ cs.map FieldD.d, headed d := by
  intro d hd
  obtain ⟨c, _, rfl⟩ := List.mem_map.mp hd
  trivial
theorem kinds_hd (cs : List KindD) : (cs.map KindD.d).map hdS = cs.map (·.x) := by
  rw [List.map_map]
  rfl
theorem kinds_headed (cs : List KindD) : ∀ d ∈ cs.map KindD.d, headed d := by
  intro d hd
  obtain ⟨c, _, rfl⟩ := List.mem_map.mp hd
  trivial
theorem At.head {page : List Rw} {n : Nat} {r : Rw} {rs : List Rw} (h : At page n (r :: rs)) : page[n]? = some r := h 0 r rfl
theorem At.left {page : List Rw} {n : Nat} {as bs : List Rw} (h : At page n (as ++ bs)) : At page n as := fun j r e => h j r (by
  rw [List.getElem?_append_left (List.getElem?_eq_some_iff.mp e).1]
  exact e)
theorem At.right {page : List Rw} {n : Nat} {as bs : List Rw} (h : At page n (as ++ bs)) : At page (n + as.length) bs := fun j r e => by
  have z := h (as.length + j) r (by rw [List.getElem?_append_right (by omega), Nat.add_sub_cancel_left]; exact e)
  rwa [← Nat.add_assoc] at z
theorem At.tail {page : List Rw} {n : Nat} {r : Rw} {rs : List Rw} (h : At page n (r :: rs)) : At page (n + 1) rs := At.right (as := [r]) h
section
variable {P : Program} {w : World} {K : PySem.W.Frag} {mg : Str → Option Value} {base : Heap} {C : Addr}
def spField (C : Addr) (K : PySem.W.Frag) : Sp := fun vs H Q _ => ∃ (L l : Addr) (page : List Rw) (n : Nat) (c : FieldD) (names : List Str), vs = [.ref L, .ref l] ∧ PageAt C H L page n ∧ page[n]? = some c.row ∧ c.ok ∧ SqL K H l (names.map V.str) ∧ c.x ∉ names ∧
  ∀ v H', Bar L H H' → PageAt C H' L page (n + 1) → Tp K H' v c.d → Q v H'
theorem scField : FnScope ["lines", "names", "_", "name", "size"] ["lines", "names"] (defScope sTakeField) := ⟨rfl, rfl, rfl, by decide +kernel, rfl, by decide +kernel, by decide +kernel⟩
theorem ok_field {f : Addr} {fd : FuncData} (F : Fun K "take_field" "take_field" sTakeField f fd) (T : Ln P w K mg base C) : FnOk P w K mg base CX0 4 f fd ["lines", "names"] (spField C K) := by
  refine F.ok scField (fun vs H Q E h => ?_) (fun cdv A outer s H vs Q E hr h => ?_)
  · obtain ⟨L, l, page, n, c, names, rfl, _⟩ := h
    rfl
  obtain ⟨L, l, page, n, c, names, rfl, pa, e, ⟨c1, c2⟩, hl, hin, k⟩ := h
  have nd := scField.nd
  have hr2 : Room 2 (A.deeper (envOfC "take_field" (defScope sTakeField) s.heap.objs.size f cdv)) := hr.mono (by decide)
  refine ⟨_, pss_cons (ps_if (pt_val (pe_M (pv 0) T.T.cl T.next hr2 (pa_cons pe_int (pa_cons (pe_tup (pa_cons pe_str pa_nil)) pa_nil))))
      (pss_one (ps_ret (pe_tup (pa_cons (pe_M (pv 0) T.T.cl T.newName hr2 (pa_cons (pe_ix ix_list (pe_M (pv 0) T.T.cl T.exactly_ hr (pa_cons pe_int (pa_cons (pe_tup (pa_cons pe_str pa_nil)) (pa_cons pe_int pa_nil)))) pe_int (fun _ _ => rfl)) (pa_cons (pv 1) pa_nil))) (pa_cons pe_non pa_nil))))) pss_nil)
    (pss_cons (ps_asg (pe_M (pv 0) T.T.cl T.exactly_ hr (pa_cons pe_int (pa_cons (pe_tup (pa_cons pe_str pa_nil)) (pa_cons pe_int pa_nil)))) (pg_unl rfl (pgs_cons (pg_name (i := 2) nd rfl (.inl rfl)) (pgs_cons (pg_name (i := 3) nd rfl (.inl rfl)) (pgs_cons (pg_name (i := 4) nd rfl (.inl rfl)) pgs_nil)))))
    (pss_one (ps_ret (pe_tup (pa_cons (pe_M (pv 0) T.T.cl T.newName hr2 (pa_cons (pv 3) (pa_cons (pv 1) pa_nil))) (pa_cons (pe_M (pv 0) T.T.cl T.numFrom hr2 (pa_cons (pv 4) (pa_cons pe_int (pa_cons pe_int pa_nil)))) pa_nil)))))), ?_⟩
  obtain ⟨dx, R, hL⟩ := pa.at
  refine ⟨_, rfl, L, dx, _, rfl, hL, rfl, sz (by decide : 1 ≤ 1000), fun t ht => ?_⟩
  have s0 := same_new ht (.tup [.str "who"])
  refine ⟨L, t, 1, page, ["who"], n, rfl, pa.same s0, .inr rfl, SqT.of upd_same, fun H1 s1 => ⟨_, rfl, ?_⟩⟩
  have s01 := s0.trans s1
  have pa1 := pa.same s01
  have hL1 := s01 _ _ hL
  obtain ⟨x, z⟩ := c
  cases z with
  | none =>
    have row : page[n]? = some ⟨true, ["who", x]⟩ := e
    have a : nextP page n 1 ["who"] = true := by
      unfold nextP aheadP
      rw [row]
      rfl
    rw [a]
    refine iteT ?_
    refine ⟨_, rfl, L, dx, _, rfl, hL1, rfl, _, rfl, L, dx, _, rfl, hL1, rfl, sz (by decide : 1 ≤ 1000), fun t2 ht2 => ?_⟩
    have s2 := same_new ht2 (.tup [.str "who"])
    refine ⟨L, t2, 1, 2, page, ["who"], _, n, rfl, pa1.same s2, .inr rfl, SqT.of upd_same, row, by simp [nextB], rfl, fun q H3 b3 nq nqL e3 pa3 => ?_⟩
    have b03 := (Bar.of (s01.trans s2)).trans b3
    refine ⟨q, _, 1, .str x, rfl, rfl, SqL.of e3, atI_nat (j := 1) rfl, _, rfl, ?_⟩
    refine ⟨L, l, x, names, page.map Rw.text, n + 1, rfl, pa3.la, c1, sql_bar hL b03 hl, hin, fun H4 s4 => ?_⟩
    refine ⟨sz (by decide : 2 ≤ 1000), fun p hp => ?_⟩
    have s5 := same_new hp (.tup [.str x, .non])
    exact k _ _ (b03.trans (Bar.of (s4.trans s5))) ((pa3.same s4).same s5) (.tup (SqT.of upd_same) (.cons (.str _) (.cons .non .nil)))
  | some z =>
    have row : page[n]? = some ⟨true, ["worth", x, numS z]⟩ := e
    have a : nextP page n 1 ["who"] = false := by
      unfold nextP aheadP
      rw [row]
      rfl
    rw [a]
    refine iteF ?_
    obtain ⟨z1, z2⟩ := c2 z rfl
    refine ⟨_, rfl, L, dx, _, rfl, hL1, rfl, sz (by decide : 1 ≤ 1000), fun t2 ht2 => ?_⟩
    have s2 := same_new ht2 (.tup [.str "worth"])
    refine ⟨L, t2, 1, 3, page, ["worth"], _, n, rfl, pa1.same s2, .inr rfl, SqT.of upd_same, row, by simp [nextB], rfl, fun q H3 b3 nq nqL e3 pa3 => ?_⟩
    have b03 := (Bar.of (s01.trans s2)).trans b3
    refine ⟨q, _, rfl, SqL.of e3, rfl, ?_⟩
    refine ⟨_, _, rfl, _, _, rfl, _, _, rfl, rfl, ?_⟩
    obtain ⟨dy, R2, hL3⟩ := pa3.at
    refine ⟨_, rfl, L, dy, _, rfl, hL3, rfl, _, rfl, _, rfl, L, l, x, names, page.map Rw.text, n + 1, rfl, pa3.la, c1, sql_bar hL b03 hl, hin, fun H4 s4 => ?_⟩
    have pa4 := pa3.same s4
    have hL4 := s4 _ _ hL3
    obtain ⟨g1, g2, _⟩ := num_ok (v := z) (by omega) (by omega)
    refine ⟨_, rfl, L, dy, _, rfl, hL4, rfl, _, rfl, L, numS z, z, 2, 5, page.map Rw.text, n + 1, rfl, pa4.la, g1, g2, z1, z2, fun H5 s5 => ?_⟩
    refine ⟨sz (by decide : 2 ≤ 1000), fun p hp => ?_⟩
    have s6 := same_new hp (.tup [.str x, .int z])
    exact k _ _ (b03.trans (Bar.of (s4.trans (s5.trans s6)))) ((pa4.same s5).same s6) (.tup (SqT.of upd_same) (.cons (.str _) (.cons (.int _) .nil)))
/-! ### take_kind -/
def spKind (C : Addr) (K : PySem.W.Frag) : Sp := fun vs H Q _ => ∃ (L a : Addr) (page : List Rw) (n : Nat) (c : KindD) (names : List Str), vs = [.ref L, .ref a] ∧ PageAt C H L page n ∧ At page n c.rows ∧ c.ok ∧ SqL K H a (names.map V.str) ∧ c.x ∉ names ∧ nextP page (n + c.rows.length) 1 ["who", "worth"] = false ∧
  ∀ v H', Bar L H H' → PageAt C H' L page (n + c.rows.length) → Tp K H' v c.d → Q v H'
theorem scKind : FnScope ["lines", "names", "name", "fields", "field"] ["lines", "names"] (defScope sTakeKind) := ⟨rfl, rfl, rfl, by decide +kernel, rfl, by decide +kernel, by decide +kernel⟩
theorem field_next {page : List Rw} {m : Nat} {c : FieldD} (e : page[m]? = some c.row) : nextP page m 1 ["who", "worth"] = true := by
  obtain ⟨x, z⟩ := c
  unfold nextP aheadP
  rw [e]
  cases z <;> rfl
theorem ok_kind {f : Addr} {fd : FuncData} (F : Fun K "take_kind" "take_kind" sTakeKind f fd) (T : Ln P w K mg base C) (TC : DefOk P w K mg base "take_field" 4 ["lines", "names"] (spField C K)) : FnOk P w K mg base CX0 5 f fd ["lines", "names"] (spKind C K) := by
  refine F.ok scKind (fun vs H Q E h => ?_) (fun cdv A outer s H vs Q E hr h => ?_)
  · obtain ⟨L, a, page, n, c, names, rfl, _⟩ := h
    rfl
  obtain ⟨L, a, page, n, ⟨x, cs⟩, names, rfl, pa, at_, ⟨c1, c3, hnd, ok⟩, ha, hin, stop, k⟩ := h
  have nd := scKind.nd
  have hr3 : Room 3 (A.deeper (envOfC "take_kind" (defScope sTakeKind) s.heap.objs.size f cdv)) := hr.mono (by decide)
  have hr2 : Room 2 (A.deeper (envOfC "take_kind" (defScope sTakeKind) s.heap.objs.size f cdv)) := hr.mono (by decide)
  refine ⟨_, pss_cons (ps_set (i := 2) nd rfl (.inl rfl) (pe_M (pv 0) T.T.cl T.newName hr2 (pa_cons (pe_ix ix_list (pe_M (pv 0) T.T.cl T.exactly_ hr3 (pa_cons pe_int (pa_cons (pe_tup (pa_cons pe_str pa_nil)) (pa_cons pe_int pa_nil)))) pe_int (fun _ _ => rfl)) (pa_cons (pv 1) pa_nil))))
    (pss_cons (ps_set (i := 3) nd rfl (.inl rfl) (pe_lst pa_nil))
    (pss_cons (ps_while PassesOwn.never (pt_val (pe_M (pv 0) T.T.cl T.more hr3 (pa_cons pe_int (pa_cons (pe_tup (pa_cons pe_str (pa_cons pe_str pa_nil))) (pa_cons (pv 3) (pa_cons pe_int (pa_cons pe_int pa_nil)))))))
      (pss_one (ps_expr (pe_bm PySem.F.plainAttrs_list PySem.F.slot_list_append PySem.F.type_list_append mt_append (pv 3) (pa_cons (pe_D TC hr rfl (pa_cons (pv 0) (pa_cons
        (pe_lc (own := [("field", 4)]) (g := gName 4) (tt := tYes) rfl nd (pi_list (pv 3)) (blkOk_by (N := ["lines", "names", "name", "fields", "field"]) (sc := defScope sTakeKind) (by decide +kernel)) (fun _ _ _ _ _ => pg_name (i := 4) nd rfl (Or.inl rfl)) (fun _ _ _ _ _ => pts_nil) (fun _ _ _ _ _ => pe_ix (ix_tupK K) (pv 4) pe_int (fun _ _ => rfl))) pa_nil))) pa_nil)))))
    (pss_one (ps_ret (pe_tup (pa_cons (pv 2) (pa_cons (pe_callTy call_tuple_of rfl T.tuple PyProof.Rows.Boot.«tuple» (pa_cons (pv 3) pa_nil)) pa_nil))))))), ?_⟩
  obtain ⟨dx, R, hL⟩ := pa.at
  have c3' : cs.length ≤ 3 := c3
  have head := at_.head
  have rest := at_.tail
  have rlen : (KindD.rows ⟨x, cs⟩).length = cs.length + 1 := by
    show (cs.map FieldD.row).length + 1 = _
    rw [List.length_map]
  rw [rlen] at stop k
  refine ⟨_, rfl, L, dx, _, rfl, hL, rfl, _, rfl, L, dx, _, rfl, hL, rfl, sz (by decide : 1 ≤ 1000), fun t ht => ?_⟩
  have s0 := same_new ht (.tup [.str "kind"])
  refine ⟨L, t, 0, 2, page, ["kind"], _, n, rfl, pa.same s0, .inl rfl, SqT.of upd_same, head, by simp [nextB], rfl, fun q H1 b1 nq nqL e1 pa1 => ?_⟩
  have b01 := (Bar.of s0).trans b1
  refine ⟨q, _, 1, .str x, rfl, rfl, SqL.of e1, atI_nat (j := 1) rfl, _, rfl, ?_⟩
  refine ⟨L, a, x, names, page.map Rw.text, n + 1, rfl, pa1.la, c1, sql_bar hL b01 ha, hin, fun H2 s2 => ?_⟩
  have pa2 := pa1.same s2
  have b02 := b01.trans (Bar.of s2)
  refine ⟨sz (by decide : 0 ≤ 1000), fun l hl => ?_⟩
  have hlL : l ≠ L := fun z => by
    obtain ⟨dx, R, e⟩ := pa2.at
    rw [z, e] at hl
    cases hl
  have s3 := same_new hl (.lst [])
  refine ⟨fun m σ H' => ∃ (j : Nat) (xs : List V), m = cs.length - j ∧ j ≤ cs.length ∧ σ = [some (.ref L), some (.ref a), some (.str x), some (.ref l), none] ∧ Bar L H2 H' ∧ PageAt C H' L page (n + 1 + j) ∧ H' l = some (.lst xs) ∧ TpAll K H' xs ((cs.take j).map FieldD.d), ⟨_, 0, [], rfl, Nat.zero_le _, rfl, Bar.of s3, pa2.same s3, upd_same, .nil⟩, ?_⟩
  rintro m σ H' ⟨j, xs, rfl, hj, rfl, b, pj, el, tx⟩
  obtain ⟨dx2, R2, hL2⟩ := pj.at
  have lx : xs.length = j := by
    rw [tx.length, List.length_map, List.length_take]
    omega
  refine ⟨_, rfl, L, dx2, _, rfl, hL2, rfl, sz (by decide : 2 ≤ 1000), fun t2 ht2 => ?_⟩
  have s4 := same_new ht2 (.tup [.str "who", .str "worth"])
  have el1 := s4 _ _ el
  refine ⟨_, rfl, L, t2, l, 1, page, ["who", "worth"], n + 1 + j, xs, 0, 3, rfl, pj.same s4, .inr rfl, SqT.of upd_same, SqL.of el1, fun H5 s5 => ⟨_, rfl, ?_⟩⟩
  have s45 := s4.trans s5
  have el2 := s5 _ _ el1
  by_cases hlt : j < cs.length
  · have ej : cs[j]? = some cs[j] := List.getElem?_eq_getElem hlt
    have row := rest j cs[j].row (by rw [List.getElem?_map, ej] <;> rfl)
    have yes' : (decide ((xs.length : Int) < 0) || (decide ((xs.length : Int) < 3) && nextP page (n + 1 + j) 1 ["who", "worth"])) = true := by
      rw [field_next row, lx, decide_eq_true (by omega : (j : Int) < 3)]
      simp
    rw [yes']
    refine iteT ⟨fun σ' H3 => ∃ (xs : List V), σ' = [some (.ref L), some (.ref a), some (.str x), some (.ref l), none] ∧ Bar L H2 H3 ∧ PageAt C H3 L page (n + 1 + (j + 1)) ∧ H3 l = some (.lst xs) ∧ TpAll K H3 xs ((cs.take (j + 1)).map FieldD.d), ?_, ?_⟩
    · rintro σ' H3 ⟨ys, rfl, b3, p3, e3, t3⟩
      exact ⟨cs.length - (j + 1), by omega, j + 1, ys, rfl, hlt, rfl, b3, p3, e3, t3⟩
    · refine ⟨_, rfl, .inl ⟨rfl, _, SqL.of el2⟩, _, rfl, ?_⟩
      refine lc_heads (s := 3) (i := 4) rfl (by show 4 < 5; decide) (SqL.of el2) (tx.same s45) (fields_headed _) (by rw [List.length_map, List.length_take]; omega) fun D H6 s6 hD eD => ?_
      rw [fields_hd] at eD
      have p6 := (pj.same s45).same s6
      refine ⟨L, D, page, n + 1 + j, cs[j], _, rfl, p6, row, ok _ (List.getElem_mem hlt), SqL.of eD, not_in_take hnd ej, fun v H7 b7 p7 tv => ?_⟩
      have el7 := b7 l _ hlL (s6 _ _ el2)
      refine ⟨l, xs, v, rfl, rfl, el7, small1000 (by omega), ?_⟩
      have bb : Bar L H2 H7 := (b.trans (Bar.of (s45.trans s6))).trans b7
      obtain ⟨dz, Rz, hL6⟩ := p6.at
      have tx7 := ((tx.same (s45.trans s6)).bar hL6 b7)
      refine ⟨xs ++ [v], rfl, bar_grow hl bb, ?_, upd_same, ?_⟩
      · exact page_lst el7 (ne_rows tx7 (fun d hd => fields_headed cs d (by rw [List.map_take] at hd; exact List.mem_of_mem_take hd)) (page_ne row)) p7
      · have e5 : (cs.take (j + 1)).map FieldD.d = (cs.take j).map FieldD.d ++ [cs[j].d] := by
          rw [List.take_add_one, ej, List.map_append]
          rfl
        rw [e5]
        exact TpAll.append (tx7.lst el7) (.cons (tv.lst el7) .nil)
  · have e : j = cs.length := by omega
    subst e
    have no' : (decide ((xs.length : Int) < 0) || (decide ((xs.length : Int) < 3) && nextP page (n + 1 + cs.length) 1 ["who", "worth"])) = false := by
      rw [show n + 1 + cs.length = n + (cs.length + 1) by omega, stop, lx, decide_eq_false (by omega : ¬ (cs.length : Int) < 0)]
      simp
    rw [no']
    refine iteF ?_
    refine ⟨_, rfl, _, rfl, l, xs, rfl, .inl ⟨SqL.of el2, fun p hp => ?_⟩⟩
    have s6 := same_new hp (.tup xs)
    rw [List.take_length] at tx
    refine ⟨sz (by decide : 2 ≤ 1000), fun p2 hp2 => ?_⟩
    have s7 := same_new hp2 (.tup [.str x, .ref p])
    have pe_ := ((pj.same s45).same s6).same s7
    rw [show n + 1 + cs.length = n + (cs.length + 1) by omega] at pe_
    refine k _ _ ((b02.trans b).trans (Bar.of (s45.trans (s6.trans s7)))) pe_ (.tup (SqT.of upd_same) (.cons (.str _) (.cons (.tup (same_sqt s7 (SqT.of upd_same)) (tx.same (s45.trans (s6.trans s7)))) .nil)))
end
end Hx
set_option maxRecDepth 100000
set_option maxHeartbeats 4000000
namespace Hx
open PySem PySem.Spec PyProof.Rows L2
def kRows (ks : List KindD) : List Rw := ks.flatMap KindD.rows
theorem kRows_take {ks : List KindD} {j : Nat} {c : KindD} (e : ks[j]? = some c) : kRows (ks.take (j + 1)) = kRows (ks.take j) ++ c.rows := by
  unfold kRows
  rw [List.take_add_one, e, List.flatMap_append]
  simp
theorem kRows_split {ks : List KindD} {j : Nat} {c : KindD} (e : ks[j]? = some c) : ∃ B, kRows ks = kRows (ks.take j) ++ (c.rows ++ B) := by
  have hlt := (List.getElem?_eq_some_iff.mp e).1
  refine ⟨kRows (ks.drop (j + 1)), ?_⟩
  rw [← List.append_assoc, ← kRows_take e]
  unfold kRows
  rw [← List.flatMap_append, List.take_append_drop]
/-- a line that does not stand deeper is none of a deeper block's -/
theorem next_flat {page : List Rw} {m : Nat} {ws xs : List Str} (e : page[m]? = some ⟨false, ws⟩) : nextP page m 1 xs = false := by
  unfold nextP aheadP
  rw [e]
  rfl
section
variable {P : Program} {w : World} {K : PySem.W.Frag} {mg : Str → Option Value} {base : Heap} {C : Addr}
/-! ### take_kinds -/
def spKinds (C : Addr) (K : PySem.W.Frag) : Sp := fun vs H Q _ => ∃ (L : Addr) (page : List Rw) (n : Nat) (cs : List KindD), vs = [.ref L] ∧ PageAt C H L page n ∧ At page n (kRows cs) ∧ cs.length ≤ 3 ∧ (∀ c ∈ cs, c.ok) ∧ (cs.map (·.x)).Nodup ∧
  (∃ ws, page[n + (kRows cs).length]? = some ⟨false, ws⟩ ∧ nextB ws ["kind"] = false) ∧ ∀ v H', Bar L H H' → PageAt C H' L page (n + (kRows cs).length) → Tp K H' v (.tuple (cs.map KindD.d)) → Q v H'
theorem scKinds : FnScope ["lines", "kinds", "kind"] ["lines"] (defScope sTakeKinds) := ⟨rfl, rfl, rfl, by decide +kernel, rfl, by decide +kernel, by decide +kernel⟩
theorem ok_kinds {f : Addr} {fd : FuncData} (F : Fun K "take_kinds" "take_kinds" sTakeKinds f fd) (T : Ln P w K mg base C) (TC : DefOk P w K mg base "take_kind" 5 ["lines", "names"] (spKind C K)) : FnOk P w K mg base CX0 6 f fd ["lines"] (spKinds C K) := by
  refine F.ok scKinds (fun vs H Q E h => ?_) (fun cdv A outer s H vs Q E hr h => ?_)
  · obtain ⟨L, page, n, cs, rfl, _⟩ := h
    rfl
  obtain ⟨L, page, n, cs, rfl, pa, at_, c3, ok, hnd, ⟨ws, end1, end2⟩, k⟩ := h
  have nd := scKinds.nd
  have hr3 : Room 3 (A.deeper (envOfC "take_kinds" (defScope sTakeKinds) s.heap.objs.size f cdv)) := hr.mono (by decide)
  refine ⟨_, pss_cons (ps_set (i := 1) nd rfl (.inl rfl) (pe_lst pa_nil))
    (pss_cons (ps_while PassesOwn.never (pt_val (pe_M (pv 0) T.T.cl T.more hr3 (pa_cons pe_int (pa_cons (pe_tup (pa_cons pe_str pa_nil)) (pa_cons (pv 1) (pa_cons pe_int (pa_cons pe_int pa_nil)))))))
      (pss_one (ps_expr (pe_bm PySem.F.plainAttrs_list PySem.F.slot_list_append PySem.F.type_list_append mt_append (pv 1) (pa_cons (pe_D TC hr rfl (pa_cons (pv 0) (pa_cons
        (pe_lc (own := [("kind", 2)]) (g := gName 2) (tt := tYes) rfl nd (pi_list (pv 1)) (blkOk_by (N := ["lines", "kinds", "kind"]) (sc := defScope sTakeKinds) (by decide +kernel)) (fun _ _ _ _ _ => pg_name (i := 2) nd rfl (Or.inl rfl)) (fun _ _ _ _ _ => pts_nil) (fun _ _ _ _ _ => pe_ix (ix_tupK K) (pv 2) pe_int (fun _ _ => rfl))) pa_nil))) pa_nil)))))
    (pss_one (ps_ret (pe_callTy call_tuple_of rfl T.tuple PyProof.Rows.Boot.«tuple» (pa_cons (pv 1) pa_nil))))), ?_⟩
  refine ⟨sz (by decide : 0 ≤ 1000), fun l hl => ?_⟩
  have hlL : l ≠ L := fun z => by
    obtain ⟨dx, R, e⟩ := pa.at
    rw [z, e] at hl
    cases hl
  have s0 := same_new hl (.lst [])
  refine ⟨fun m σ H' => ∃ (j : Nat) (xs : List V), m = cs.length - j ∧ j ≤ cs.length ∧ σ = [some (.ref L), some (.ref l), none] ∧ Bar L H H' ∧ PageAt C H' L page (n + (kRows (cs.take j)).length) ∧ H' l = some (.lst xs) ∧ TpAll K H' xs ((cs.take j).map KindD.d), ⟨_, 0, [], rfl, Nat.zero_le _, rfl, Bar.of s0, pa.same s0, upd_same, .nil⟩, ?_⟩
  rintro m σ H' ⟨j, xs, rfl, hj, rfl, b, pj, el, tx⟩
  obtain ⟨dx, R, hL⟩ := pj.at
  have lx : xs.length = j := by
    rw [tx.length, List.length_map, List.length_take]
    omega
  refine ⟨_, rfl, L, dx, _, rfl, hL, rfl, sz (by decide : 1 ≤ 1000), fun t ht => ?_⟩
  have s1 := same_new ht (.tup [.str "kind"])
  have el1 := s1 _ _ el
  refine ⟨_, rfl, L, t, l, 0, page, ["kind"], n + (kRows (cs.take j)).length, xs, 0, 3, rfl, pj.same s1, .inl rfl, SqT.of upd_same, SqL.of el1, fun H2 s2 => ⟨_, rfl, ?_⟩⟩
  have s12 := s1.trans s2
  have el2 := s2 _ _ el1
  by_cases hlt : j < cs.length
  · have ej : cs[j]? = some cs[j] := List.getElem?_eq_getElem hlt
    obtain ⟨B, eB⟩ := kRows_split ej
    have rows : At page (n + (kRows (cs.take j)).length) (cs[j].rows ++ B) := by
      rw [eB] at at_
      exact at_.right
    have row := rows.left.head
    have yes' : (decide ((xs.length : Int) < 0) || (decide ((xs.length : Int) < 3) && nextP page (n + (kRows (cs.take j)).length) 0 ["kind"])) = true := by
      have a : nextP page (n + (kRows (cs.take j)).length) 0 ["kind"] = true := by
        unfold nextP aheadP
        rw [row]
        rfl
      rw [a, lx, decide_eq_true (by omega : (j : Int) < 3)]
      simp
    rw [yes']
    have e1 : n + (kRows (cs.take j)).length + cs[j].rows.length = n + (kRows (cs.take (j + 1))).length := by
      rw [kRows_take ej, List.length_append, Nat.add_assoc]
    have behind : nextP page (n + (kRows (cs.take j)).length + cs[j].rows.length) 1 ["who", "worth"] = false := by
      rw [e1]
      by_cases h2 : j + 1 < cs.length
      · have ej2 : cs[j + 1]? = some cs[j + 1] := List.getElem?_eq_getElem h2
        obtain ⟨B2, eB2⟩ := kRows_split ej2
        rw [eB2] at at_
        exact next_flat at_.right.left.head
      · have : cs.take (j + 1) = cs := List.take_of_length_le (by omega)
        rw [this]
        exact next_flat end1
    refine iteT ⟨fun σ' H3 => ∃ (xs : List V), σ' = [some (.ref L), some (.ref l), none] ∧ Bar L H H3 ∧ PageAt C H3 L page (n + (kRows (cs.take (j + 1))).length) ∧ H3 l = some (.lst xs) ∧ TpAll K H3 xs ((cs.take (j + 1)).map KindD.d), ?_, ?_⟩
    · rintro σ' H3 ⟨ys, rfl, b3, p3, e3, t3⟩
      exact ⟨cs.length - (j + 1), by omega, j + 1, ys, rfl, hlt, rfl, b3, p3, e3, t3⟩
    · refine ⟨_, rfl, .inl ⟨rfl, _, SqL.of el2⟩, _, rfl, ?_⟩
      refine lc_heads (s := 1) (i := 2) rfl (by show 2 < 3; decide) (SqL.of el2) (tx.same s12) (kinds_headed _) (by rw [List.length_map, List.length_take]; omega) fun D H3 s3 hD eD => ?_
      rw [kinds_hd] at eD
      have p3 := (pj.same s12).same s3
      refine ⟨L, D, page, _, cs[j], _, rfl, p3, rows.left, ok _ (List.getElem_mem hlt), SqL.of eD, not_in_take hnd ej, behind, fun v H4 b4 p4 tv => ?_⟩
      have el4 := b4 l _ hlL (s3 _ _ el2)
      refine ⟨l, xs, v, rfl, rfl, el4, small1000 (by omega), ?_⟩
      have bb : Bar L H H4 := (b.trans (Bar.of (s12.trans s3))).trans b4
      obtain ⟨dz, Rz, hL3⟩ := p3.at
      have tx4 := (tx.same (s12.trans s3)).bar hL3 b4
      rw [e1] at p4
      refine ⟨xs ++ [v], rfl, bar_grow hl bb, ?_, upd_same, ?_⟩
      · exact page_lst el4 (ne_rows tx4 (fun d hd => kinds_headed cs d (by rw [List.map_take] at hd; exact List.mem_of_mem_take hd)) (page_ne row)) p4
      · have e5 : (cs.take (j + 1)).map KindD.d = (cs.take j).map KindD.d ++ [cs[j].d] := by
          rw [List.take_add_one, ej, List.map_append]
          rfl
        rw [e5]
        exact TpAll.append (tx4.lst el4) (.cons (tv.lst el4) .nil)
  · have e : j = cs.length := by omega
    subst e
    rw [List.take_length] at tx pj
    have no' : (decide ((xs.length : Int) < 0) || (decide ((xs.length : Int) < 3) && nextP page (n + (kRows (cs.take cs.length)).length) 0 ["kind"])) = false := by
      have a : nextP page (n + (kRows (cs.take cs.length)).length) 0 ["kind"] = false := by
        rw [List.take_length]
        unfold nextP aheadP
        rw [end1]
        exact end2
      rw [a, decide_eq_false (by omega : ¬ (xs.length : Int) < 0)]
      simp
    rw [no']
    refine iteF ?_
    refine ⟨_, rfl, l, xs, rfl, .inl ⟨SqL.of el2, fun p hp => ?_⟩⟩
    have s3 := same_new hp (.tup xs)
    exact k _ _ (b.trans (Bar.of (s12.trans s3))) ((pj.same s12).same s3) (.tup (SqT.of upd_same) (tx.same (s12.trans s3)))
end
end Hx
set_option maxRecDepth 100000
set_option maxHeartbeats 4000000
namespace Hx
open PySem PySem.Spec PyProof.Rows L2
theorem seq_asg {te : TE} {g : TG} {rest : TS} {D : Ends} {σ : L2.St} {H : Hp} (h : te σ H fun x H1 => g x σ H1 (rest D)) : tSeq (tAsg te g) rest D σ H := h
/-! ### sources -/
inductive Src where
  | it | cell (j : Nat) | who | num (v : Int) | person (x : Str)
def Src.d : Src → PyData
  | .it => .tuple [.str "it", .int 0]
  | .cell j => .tuple [.str "cell", .int j]
  | .who => .tuple [.str "who", .int 0]
  | .num v => .tuple [.str "plain", .int v]
  | .person x => .tuple [.str "plain", .str x]
def Src.w (cs : List CellD) : Src → Str
  | .it => "it"
  | .cell j => (cs[j]?.map (·.x)).getD Str.empty
  | .who => "who"
  | .num v => numS v
  | .person x => x
/-- it fits where worths are below size -/
def Src.fits (cs : List CellD) (size pick : Int) : Src → Prop
  | .it => pick ≤ size
  | .cell j => ∃ c, cs[j]? = some c ∧ c.z ≤ size
  | .num v => 0 ≤ v ∧ v < size ∧ size < 10
  | _ => False
def Src.person? (people : List Str) : Src → Prop
  | .who => True
  | .person x => x ∈ people ∧ x ≠ "who"
  | _ => False
abbrev sSrcWorth : Stmt := top 12
abbrev sSrcPerson : Stmt := top 13
abbrev sTakeBy : Stmt := top 14
abbrev sTakeTest : Stmt := top 15
abbrev sTakePick : Stmt := top 16
abbrev sTakeChange : Stmt := top 17
structure TestD where
  j : Nat
  same : Bool
  v : Int
def sign (b : Bool) : Str := if b = true then "=" else "!="
def TestD.d (t : TestD) : PyData := .tuple [.int t.j, .bool t.same, .int t.v]
def TestD.row (cs : List CellD) (t : TestD) : Rw := ⟨true, ["if", (cs[t.j]?.map (·.x)).getD Str.empty, sign t.same, numS t.v]⟩
def TestD.ok (cs : List CellD) (t : TestD) : Prop := ∃ c, cs[t.j]? = some c ∧ 0 ≤ t.v ∧ t.v < c.z
structure ChangeD where
  add : Bool
  j : Nat
  s : Src
def verb (b : Bool) : Str := if b = true then "add" else "set"
def ChangeD.d (t : ChangeD) : PyData := .tuple [.str (verb t.add), .int t.j, t.s.d]
def ChangeD.row (cs : List CellD) (t : ChangeD) : Rw := ⟨true, [verb t.add, (cs[t.j]?.map (·.x)).getD Str.empty, t.s.w cs]⟩
def ChangeD.ok (cs : List CellD) (pick : Int) (t : ChangeD) : Prop := ∃ c, cs[t.j]? = some c ∧ t.s.fits cs c.z pick
/-- the cells of a house -/
def CellsOk (cs : List CellD) : Prop := cs.length ≤ 3 ∧ (∀ c ∈ cs, c.ok) ∧ (cs.map (·.x)).Nodup
theorem num_no {v : Int} (h0 : 0 ≤ v) (h : v < 10) : nameB (numS v) = false ∧ numS v ≠ "it" := by
  have e : v = 0 ∨ v = 1 ∨ v = 2 ∨ v = 3 ∨ v = 4 ∨ v = 5 ∨ v = 6 ∨ v = 7 ∨ v = 8 ∨ v = 9 := by omega
  rcases e with rfl | rfl | rfl | rfl | rfl | rfl | rfl | rfl | rfl | rfl <;> decide +kernel
theorem cell_at {K : PySem.W.Frag} {H : Hp} {a : Addr} {cs : List CellD} {j : Nat} {c : CellD} (hc : Tp K H (.ref a) (.tuple (cs.map CellD.d))) (e : cs[j]? = some c) : ∃ xs p ys, SqT K H a xs ∧ atI xs (j : Nat) = some (.ref p) ∧ SqT K H p ys ∧ atI ys 1 = some (.int c.z) := by
  obtain ⟨a', xs, ea, hs, ht⟩ := tp_tup hc
  cases ea
  obtain ⟨x, ex, tx⟩ := ht.at (i := j) (d := c.d) (by rw [List.getElem?_map, e] <;> rfl)
  obtain ⟨p, ys, rfl, hp, hy⟩ := tp_tup tx
  cases hy with
  | cons h0 h1 =>
    cases h1 with
    | cons h1 h2 =>
      have e1 := tp_int h1
      subst e1
      exact ⟨xs, p, _, hs, atI_nat ex, hp, atI_nat (j := 1) rfl⟩
section
variable {P : Program} {w : World} {K : PySem.W.Frag} {mg : Str → Option Value} {base : Heap} {C : Addr}
def spSrcW (C : Addr) (K : PySem.W.Frag) : Sp := fun vs H Q _ => ∃ (L a : Addr) (page : List Rw) (n : Nat) (cs : List CellD) (s : Src) (size pick : Int), vs = [.ref L, .str (s.w cs), .int size, .ref a, .int pick] ∧ PageAt C H L page n ∧ CellsOk cs ∧ Tp K H (.ref a) (.tuple (cs.map CellD.d)) ∧ s.fits cs size pick ∧
  ∀ v H', Same H H' → Tp K H' v s.d → Q v H'
theorem scSrcW : FnScope ["lines", "word", "size", "cells", "pick", "names", "place", "number", "cell"] ["lines", "word", "size", "cells", "pick"] (defScope sSrcWorth) := ⟨rfl, rfl, rfl, by decide +kernel, rfl, by decide +kernel, by decide +kernel⟩
theorem ok_srcW {f : Addr} {fd : FuncData} (F : Fun K "source_of_worth" "source_of_worth" sSrcWorth f fd) (T : Ln P w K mg base C) : FnOk P w K mg base CX0 2 f fd ["lines", "word", "size", "cells", "pick"] (spSrcW C K) := by
  refine F.ok scSrcW (fun vs H Q E h => ?_) (fun cdv A outer s H vs Q E hr h => ?_)
  · obtain ⟨L, a, page, n, cs, s, size, pick, rfl, _⟩ := h
    rfl
  obtain ⟨L, a, page, n, cs, s, size, pick, rfl, pa, ⟨c3, cok, cnd⟩, hc, fit, k⟩ := h
  have nd := scSrcW.nd
  refine ⟨_, pss_cons (ps_setLc (i := 5) (own := [("cell", 8)]) (g := gName 8) (tt := tYes) rfl nd rfl rfl (sw_true rfl rfl rfl (by decide +kernel)) (pi_tup (pv 3)) (blkOk_by (N := ["lines", "word", "size", "cells", "pick", "names", "place", "number", "cell"]) (sc := defScope sSrcWorth) (by decide +kernel)) (fun _ _ _ _ _ => pg_name (i := 8) nd rfl (Or.inl rfl)) (fun _ _ _ _ _ => pts_nil) (fun _ _ _ _ _ => pe_ix (ix_tupK K) (pv 8) pe_int (fun _ _ => rfl)))
    (pss_cons (ps_if (pt_cmpR op_eq (pv 1) pe_str (nomark _)) (pss_cons (ps_expr (pe_M (pv 0) T.T.cl T.need hr (pa_cons (pe_cmpR op_le (pv 4) (pv 2) (nomark _)) pa_nil))) (pss_one (ps_ret (pe_tup (pa_cons pe_str (pa_cons pe_int pa_nil)))))) pss_nil)
    (pss_cons (ps_if (pt_cmpR op_in_seq (pv 1) (pv 5) (by rfl)) (pss_cons (ps_set (i := 6) nd rfl (.inl rfl) (pe_bm PySem.F.plainAttrs_list PySem.F.slot_list_index PySem.F.type_list_index mt_index (pv 5) (pa_cons (pv 1) pa_nil)))
        (pss_cons (ps_expr (pe_M (pv 0) T.T.cl T.need hr (pa_cons (pe_cmpR op_le (pe_ix ix_tup (pe_ix ix_tup (pv 3) (pv 6) (fun _ _ => rfl)) pe_int (fun _ _ => rfl)) (pv 2) (nomark _)) pa_nil))) (pss_one (ps_ret (pe_tup (pa_cons pe_str (pa_cons (pv 6) pa_nil))))))) pss_nil)
    (pss_cons (ps_set (i := 7) nd rfl (.inl rfl) (pe_D T.numOf hr rfl (pa_cons (pv 1) pa_nil)))
    (pss_cons (ps_expr (pe_M (pv 0) T.T.cl T.need hr (pa_cons (pe_chain op_le op_lt pe_int (pv 7) (pv 2)) pa_nil)))
    (pss_one (ps_ret (pe_tup (pa_cons pe_str (pa_cons (pv 7) pa_nil)))))))))
    , ?_⟩
  obtain ⟨a', xs, ea, hs, ht⟩ := tp_tup hc
  cases ea
  refine seq_asg ?_
  refine lc_headsT (s := 3) (i := 8) rfl (by show 8 < 9; decide) hs ht (cells_headed _) (by rw [List.length_map]; omega) fun D H1 s1 hD eD => ?_
  rw [cells_hd] at eD
  have pa1 := pa.same s1
  have hc1 := hc.same s1
  obtain ⟨dx, R, hL1⟩ := pa1.at
  refine ⟨_, rfl, rfl, _, rfl, ?_⟩
  cases s with
  | who => exact fit.elim
  | person x => exact fit.elim
  | it =>
    have fit' : pick ≤ size := fit
    have e : decide (V.str (Src.w cs .it) = V.str "it") = true := decide_eq_true rfl
    rw [e]
    refine iteT ?_
    refine ⟨_, rfl, L, dx, _, rfl, hL1, rfl, _, rfl, _, rfl, _, _, rfl, rfl, ?_⟩
    refine ⟨L, ne_ (decide_eq_true fit'), sz (by decide : 2 ≤ 1000), fun p hp => ?_⟩
    have s2 := same_new hp (.tup [.str "it", .int 0])
    exact k _ _ (s1.trans s2) (.tup (SqT.of upd_same) (.cons (.str _) (.cons (.int _) .nil)))
  | cell j =>
    obtain ⟨c, ec, fz⟩ := fit
    have ew : Src.w cs (.cell j) = c.x := by
      show (cs[j]?.map (·.x)).getD Str.empty = c.x
      rw [ec]
      rfl
    have cin := List.mem_of_getElem? ec
    obtain ⟨k1, k2, k3, k4, k5, k6⟩ := cok c cin
    rw [ew]
    have e : decide (V.str c.x = V.str "it") = false := decide_eq_false fun z => k2 (V.str.inj z)
    rw [e]
    refine iteF ?_
    have xin : c.x ∈ cs.map (·.x) := List.mem_map.mpr ⟨c, cin, rfl⟩
    refine ⟨_, rfl, _, rfl, D, _, rfl, .inl (SqL.of eD), rfl, flat_words _, _, rfl, ?_⟩
    rw [if_neg (by decide), in_words, decide_eq_true xin]
    refine iteT ?_
    have ej : (cs.map (·.x))[j]? = some c.x := by
      rw [List.getElem?_map, ec]
      rfl
    refine ⟨_, rfl, .inl ⟨rfl, _, SqL.of eD⟩, _, rfl, D, _, .str c.x, j, .str c.x, rfl, rfl, SqL.of eD, rfl, flat_words _, by rw [List.getElem?_map, ej] <;> rfl, by rw [eqV_str]; exact decide_eq_true rfl, first_of cnd ej, ?_⟩
    obtain ⟨xs1, p1, ys, hx1, e1, hp1, e2⟩ := cell_at hc1 ec
    refine ⟨_, rfl, L, dx, _, rfl, hL1, rfl, _, rfl, _, rfl, a, _, _, _, rfl, rfl, hx1, e1, p1, _, _, _, rfl, rfl, hp1, e2, _, rfl, _, _, rfl, rfl, ?_⟩
    refine ⟨L, ne_ (decide_eq_true fz), _, rfl, sz (by decide : 2 ≤ 1000), fun p hp => ?_⟩
    have s2 := same_new hp (.tup [.str "cell", .int (j : Nat)])
    exact k _ _ (s1.trans s2) (.tup (SqT.of upd_same) (.cons (.str _) (.cons (.int _) .nil)))
  | num v =>
    obtain ⟨v0, v1, v2⟩ := fit
    have ew : Src.w cs (.num v) = numS v := rfl
    rw [ew]
    obtain ⟨n1, n2⟩ := num_no v0 (by omega)
    obtain ⟨g1, g2, _⟩ := num_ok (v := v) v0 (by omega)
    have e : decide (V.str (numS v) = V.str "it") = false := decide_eq_false fun z => n2 (V.str.inj z)
    rw [e]
    refine iteF ?_
    have nin : numS v ∉ cs.map (·.x) := fun z => by
      obtain ⟨c, hc, ex⟩ := List.mem_map.mp z
      have := (cok c hc).1
      rw [ex, n1] at this
      cases this
    refine ⟨_, rfl, _, rfl, D, _, rfl, .inl (SqL.of eD), rfl, flat_words _, _, rfl, ?_⟩
    rw [if_neg (by decide), in_words, decide_eq_false nin]
    refine iteF ?_
    refine ⟨_, rfl, numS v, v, rfl, g1, g2, fun H2 s2 => ?_⟩
    have hL2 := s2 _ _ hL1
    refine ⟨_, rfl, L, dx, _, rfl, hL2, rfl, _, rfl, _, _, rfl, rfl, _, rfl, ?_⟩
    rw [decide_eq_true v0]
    refine iteT ⟨_, rfl, _, _, rfl, rfl, ?_⟩
    refine ⟨L, ne_ (decide_eq_true v1), _, rfl, sz (by decide : 2 ≤ 1000), fun p hp => ?_⟩
    have s3 := same_new hp (.tup [.str "plain", .int v])
    exact k _ _ (s1.trans (s2.trans s3)) (.tup (SqT.of upd_same) (.cons (.str _) (.cons (.int _) .nil)))
/-! ### source_of_person -/
def spSrcP (C : Addr) (K : PySem.W.Frag) : Sp := fun vs H Q _ => ∃ (L a : Addr) (page : List Rw) (n : Nat) (people : List Str) (s : Src), vs = [.ref L, .str (s.w []), .ref a] ∧ PageAt C H L page n ∧ SqT K H a (people.map V.str) ∧ s.person? people ∧ ∀ v H', Same H H' → Tp K H' v s.d → Q v H'
theorem scSrcP : FnScope ["lines", "word", "people"] ["lines", "word", "people"] (defScope sSrcPerson) := ⟨rfl, rfl, rfl, by decide +kernel, rfl, by decide +kernel, by decide +kernel⟩
theorem ok_srcP {f : Addr} {fd : FuncData} (F : Fun K "source_of_person" "source_of_person" sSrcPerson f fd) (T : Ln P w K mg base C) : FnOk P w K mg base CX0 2 f fd ["lines", "word", "people"] (spSrcP C K) := by
  refine F.ok scSrcP (fun vs H Q E h => ?_) (fun cdv A outer s H vs Q E hr h => ?_)
  · obtain ⟨L, a, page, n, people, s, rfl, _⟩ := h
    rfl
  obtain ⟨L, a, page, n, people, s, rfl, pa, hp, fit, k⟩ := h
  obtain ⟨dx, R, hL⟩ := pa.at
  refine ⟨_, pss_cons (ps_if (pt_cmpR op_eq (pv 1) pe_str (nomark _)) (pss_one (ps_ret (pe_tup (pa_cons pe_str (pa_cons pe_int pa_nil))))) pss_nil)
    (pss_cons (ps_expr (pe_M (pv 0) T.T.cl T.need hr (pa_cons (pe_cmpR op_in_seq (pv 1) (pv 2) (by rfl)) pa_nil)))
    (pss_one (ps_ret (pe_tup (pa_cons pe_str (pa_cons (pv 1) pa_nil)))))), ?_⟩
  refine ⟨_, rfl, rfl, _, rfl, ?_⟩
  cases s with
  | it => exact fit.elim
  | cell j => exact fit.elim
  | num v => exact fit.elim
  | who =>
    have e : decide (V.str (Src.w [] .who) = V.str "who") = true := decide_eq_true rfl
    rw [e]
    refine iteT ⟨sz (by decide : 2 ≤ 1000), fun p hp => ?_⟩
    exact k _ _ (same_new hp (.tup [.str "who", .int 0])) (.tup (SqT.of upd_same) (.cons (.str _) (.cons (.int _) .nil)))
  | person x =>
    obtain ⟨f1, f2⟩ := fit
    have e : decide (V.str (Src.w [] (.person x)) = V.str "who") = false := decide_eq_false fun z => f2 (V.str.inj z)
    rw [e]
    refine iteF ?_
    have e2 : inV (.str x) (people.map V.str) = true := by rw [in_words, decide_eq_true f1]
    refine ⟨_, rfl, L, dx, _, rfl, hL, rfl, _, rfl, _, rfl, a, _, rfl, .inr hp, rfl, flat_words _, ?_⟩
    refine ⟨L, ne_ e2, _, rfl, sz (by decide : 2 ≤ 1000), fun p hp => ?_⟩
    exact k _ _ (same_new hp (.tup [.str "plain", .str x])) (.tup (SqT.of upd_same) (.cons (.str _) (.cons (.str _) .nil)))
end
end Hx
set_option maxRecDepth 100000
set_option maxHeartbeats 4000000
namespace Hx
open PySem PySem.Spec PyProof.Rows L2
theorem sqt_refs {K : PySem.W.Frag} {H : Hp} {a : Addr} {ds : List PyData} (h : Tp K H (.ref a) (.tuple ds)) : ∃ xs, SqT K H a xs ∧ TpAll K H xs ds := by
  obtain ⟨a', xs, ea, hs, ht⟩ := tp_tup h
  cases ea
  exact ⟨xs, hs, ht⟩
section
variable {P : Program} {w : World} {K : PySem.W.Frag} {mg : Str → Option Value} {base : Heap} {C : Addr}
/-! ### take_test -/
def spTest (C : Addr) (K : PySem.W.Frag) : Sp := fun vs H Q _ => ∃ (L a : Addr) (page : List Rw) (n : Nat) (cs : List CellD) (t : TestD), vs = [.ref L, .ref a] ∧ PageAt C H L page n ∧ CellsOk cs ∧ Tp K H (.ref a) (.tuple (cs.map CellD.d)) ∧ t.ok cs ∧ page[n]? = some (t.row cs) ∧
  ∀ v H', Bar L H H' → PageAt C H' L page (n + 1) → Tp K H' v t.d → Q v H'
theorem scTest : FnScope ["lines", "cells", "_", "cell", "sign", "worth", "place", "known"] ["lines", "cells"] (defScope sTakeTest) := ⟨rfl, rfl, rfl, by decide +kernel, rfl, by decide +kernel, by decide +kernel⟩
theorem ok_test {f : Addr} {fd : FuncData} (F : Fun K "take_test" "take_test" sTakeTest f fd) (T : Ln P w K mg base C) : FnOk P w K mg base CX0 4 f fd ["lines", "cells"] (spTest C K) := by
  refine F.ok scTest (fun vs H Q E h => ?_) (fun cdv A outer s H vs Q E hr h => ?_)
  · obtain ⟨L, a, page, n, cs, t, rfl, _⟩ := h
    rfl
  obtain ⟨L, a, page, n, cs, t, rfl, pa, ⟨c3, cok, cnd⟩, hc, ⟨c, ec, t0, t1⟩, row, k⟩ := h
  have nd := scTest.nd
  have hr2 : Room 2 (A.deeper (envOfC "take_test" (defScope sTakeTest) s.heap.objs.size f cdv)) := hr.mono (by decide)
  have hr1 : Room 1 (A.deeper (envOfC "take_test" (defScope sTakeTest) s.heap.objs.size f cdv)) := hr.mono (by decide)
  refine ⟨_, pss_cons (ps_asg (pe_M (pv 0) T.T.cl T.exactly_ hr (pa_cons pe_int (pa_cons (pe_tup (pa_cons pe_str pa_nil)) (pa_cons pe_int pa_nil)))) (pg_unl rfl (pgs_cons (pg_name (i := 2) nd rfl (.inl rfl)) (pgs_cons (pg_name (i := 3) nd rfl (.inl rfl)) (pgs_cons (pg_name (i := 4) nd rfl (.inl rfl)) (pgs_cons (pg_name (i := 5) nd rfl (.inl rfl)) pgs_nil))))))
    (pss_cons (ps_set (i := 6) nd rfl (.inl rfl) (pe_M (pv 0) T.T.cl T.place hr2 (pa_cons (pv 3) (pa_cons
      (pe_lc (own := [("known", 7)]) (g := gName 7) (tt := tYes) rfl nd (pi_tup (pv 1)) (blkOk_by (N := ["lines", "cells", "_", "cell", "sign", "worth", "place", "known"]) (sc := defScope sTakeTest) (by decide +kernel)) (fun _ _ _ _ _ => pg_name (i := 7) nd rfl (Or.inl rfl)) (fun _ _ _ _ _ => pts_nil) (fun _ _ _ _ _ => pe_ix (ix_tupK K) (pv 7) pe_int (fun _ _ => rfl))) pa_nil))))
    (pss_cons (ps_expr (pe_M (pv 0) T.T.cl T.need hr1 (pa_cons (pe_cmpR op_in_seq (pv 4) (pe_tup (pa_cons pe_str (pa_cons pe_str pa_nil))) (by rfl)) pa_nil)))
    (pss_one (ps_ret (pe_tup (pa_cons (pv 6) (pa_cons (pe_cmpR op_eq (pv 4) pe_str (nomark _)) (pa_cons (pe_M (pv 0) T.T.cl T.numFrom hr2 (pa_cons (pv 5) (pa_cons pe_int (pa_cons (pe_ix ix_tup (pe_ix ix_tup (pv 1) (pv 6) (fun _ _ => rfl)) pe_int (fun _ _ => rfl)) pa_nil)))) pa_nil)))))))), ?_⟩
  obtain ⟨dx, R, hL⟩ := pa.at
  refine ⟨_, rfl, L, dx, _, rfl, hL, rfl, sz (by decide : 1 ≤ 1000), fun u hu => ?_⟩
  have s0 := same_new hu (.tup [.str "if"])
  refine ⟨L, u, 1, 4, page, ["if"], _, n, rfl, pa.same s0, .inr rfl, SqT.of upd_same, row, by simp [nextB], rfl, fun q H1 b1 nq nqL e1 pa1 => ?_⟩
  have b01 := (Bar.of s0).trans b1
  have hc1 := hc.bar hL b01
  refine ⟨q, _, rfl, SqL.of e1, rfl, ?_⟩
  refine ⟨_, _, rfl, _, _, rfl, _, _, rfl, _, _, rfl, rfl, ?_⟩
  obtain ⟨dy, R2, hL1⟩ := pa1.at
  obtain ⟨xs, hs, ht⟩ := sqt_refs hc1
  refine ⟨_, rfl, L, dy, _, rfl, hL1, rfl, _, rfl, ?_⟩
  refine lc_headsT (s := 1) (i := 7) rfl (by show 7 < 8; decide) hs ht (cells_headed _) (by rw [List.length_map]; omega) fun D H2 s2 hD eD => ?_
  rw [cells_hd] at eD
  have pa2 := pa1.same s2
  have hL2 := s2 _ _ hL1
  have hc2 := hc1.same s2
  have ew : (cs[t.j]?.map (·.x)).getD Str.empty = c.x := by
    rw [ec]
    rfl
  have ej : (cs.map (·.x))[t.j]? = some ((cs[t.j]?.map (·.x)).getD Str.empty) := by
    rw [List.getElem?_map, ec]
    rfl
  refine ⟨L, D, _, _, page.map Rw.text, n + 1, t.j, rfl, pa2.la, SqL.of eD, ej, cnd, ?_⟩
  refine ⟨_, rfl, L, dy, _, rfl, hL2, rfl, _, rfl, sz (by decide : 2 ≤ 1000), fun u2 hu2 => ?_⟩
  have s3 := same_new hu2 (.tup [.str "=", .str "!="])
  have pa3 := pa2.same s3
  have hL3 := s3 _ _ hL2
  have hc3 := hc2.same s3
  refine ⟨u2, _, rfl, .inr (SqT.of upd_same), rfl, rfl, ?_⟩
  have es : inV (.str (sign t.same)) [.str "=", .str "!="] = true := by
    cases t.same <;> decide +kernel
  refine ⟨L, ne_ es, ?_⟩
  obtain ⟨xs1, p1, ys, hx1, g1, hp1, g2⟩ := cell_at hc3 ec
  obtain ⟨n1, n2, _⟩ := num_ok (v := t.v) t0 (by have := (cok c (List.mem_of_getElem? ec)).2.2.2.1; omega)
  refine ⟨_, rfl, _, rfl, rfl, _, rfl, L, dy, _, rfl, hL3, rfl, _, rfl, _, rfl, _, rfl, a, _, _, _, rfl, rfl, hx1, g1, p1, _, _, _, rfl, rfl, hp1, g2, ?_⟩
  refine ⟨L, numS t.v, t.v, 0, c.z, page.map Rw.text, n + 1, rfl, pa3.la, n1, n2, t0, t1, fun H4 s4 => ?_⟩
  refine ⟨sz (by decide : 3 ≤ 1000), fun p hp => ?_⟩
  have e5 : decide (V.str (sign t.same) = V.str "=") = t.same := by
    cases t.same <;> decide +kernel
  have s5 := same_new hp (.tup [.int (t.j : Nat), .bl (decide (V.str (sign t.same) = V.str "=")), .int t.v])
  refine k _ _ (b01.trans (Bar.of (s2.trans (s3.trans (s4.trans s5))))) ((pa3.same s4).same s5) (.tup (SqT.of upd_same) ?_)
  rw [e5]
  exact .cons (.int _) (.cons (.bl _) (.cons (.int _) .nil))
/-! ### take_pick -/
def pickRows (pick : Int) : List Rw := if pick = 1 then [] else [⟨true, ["pick", numS pick]⟩]
def spPick (C : Addr) : Sp := fun vs H Q _ => ∃ (L : Addr) (page : List Rw) (n : Nat) (pick : Int), vs = [.ref L] ∧ PageAt C H L page n ∧ 1 ≤ pick ∧ pick < 5 ∧ At page n (pickRows pick) ∧ (pick = 1 → nextP page n 1 ["pick"] = false) ∧
  ∀ H', Bar L H H' → PageAt C H' L page (n + (pickRows pick).length) → Q (.int pick) H'
theorem scPick : FnScope ["lines"] ["lines"] (defScope sTakePick) := ⟨rfl, rfl, rfl, by decide +kernel, rfl, by decide +kernel, by decide +kernel⟩
theorem ok_pick {f : Addr} {fd : FuncData} (F : Fun K "take_pick" "take_pick" sTakePick f fd) (T : Ln P w K mg base C) : FnOk P w K mg base CX0 4 f fd ["lines"] (spPick C) := by
  refine F.ok scPick (fun vs H Q E h => ?_) (fun cdv A outer s H vs Q E hr h => ?_)
  · obtain ⟨L, page, n, pick, rfl, _⟩ := h
    rfl
  obtain ⟨L, page, n, pick, rfl, pa, p1, p5, at_, stop, k⟩ := h
  have hr2 : Room 2 (A.deeper (envOfC "take_pick" (defScope sTakePick) s.heap.objs.size f cdv)) := hr.mono (by decide)
  refine ⟨_, pss_cons (ps_if (pt_not (pt_val (pe_M (pv 0) T.T.cl T.next hr2 (pa_cons pe_int (pa_cons (pe_tup (pa_cons pe_str pa_nil)) pa_nil))))) (pss_one (ps_ret pe_int)) pss_nil)
    (pss_one (ps_ret (pe_M (pv 0) T.T.cl T.numFrom hr2 (pa_cons (pe_ix ix_list (pe_M (pv 0) T.T.cl T.exactly_ hr (pa_cons pe_int (pa_cons (pe_tup (pa_cons pe_str pa_nil)) (pa_cons pe_int pa_nil)))) pe_int (fun _ _ => rfl)) (pa_cons pe_int (pa_cons pe_int pa_nil)))))), ?_⟩
  obtain ⟨dx, R, hL⟩ := pa.at
  refine ⟨_, rfl, L, dx, _, rfl, hL, rfl, sz (by decide : 1 ≤ 1000), fun t ht => ?_⟩
  have s0 := same_new ht (.tup [.str "pick"])
  refine ⟨L, t, 1, page, ["pick"], n, rfl, pa.same s0, .inr rfl, SqT.of upd_same, fun H1 s1 => ⟨_, rfl, ?_⟩⟩
  have s01 := s0.trans s1
  have pa1 := pa.same s01
  have hL1 := s01 _ _ hL
  by_cases e : pick = 1
  · subst e
    rw [stop rfl]
    refine iteT ?_
    exact k H1 (Bar.of s01) pa1
  · have er : pickRows pick = [⟨true, ["pick", numS pick]⟩] := if_neg e
    rw [er] at at_ k
    have row := at_.head
    have a : nextP page n 1 ["pick"] = true := by
      unfold nextP aheadP
      rw [row]
      rfl
    rw [a]
    refine iteF ?_
    refine ⟨_, rfl, L, dx, _, rfl, hL1, rfl, _, rfl, L, dx, _, rfl, hL1, rfl, sz (by decide : 1 ≤ 1000), fun t2 ht2 => ?_⟩
    have s2 := same_new ht2 (.tup [.str "pick"])
    refine ⟨L, t2, 1, 2, page, ["pick"], _, n, rfl, pa1.same s2, .inr rfl, SqT.of upd_same, row, by simp [nextB], rfl, fun q H3 b3 nq nqL e3 pa3 => ?_⟩
    have b03 := (Bar.of (s01.trans s2)).trans b3
    obtain ⟨g1, g2, _⟩ := num_ok (v := pick) (by omega) (by omega)
    refine ⟨q, _, 1, .str (numS pick), rfl, rfl, SqL.of e3, atI_nat (j := 1) rfl, ?_⟩
    refine ⟨L, numS pick, pick, 2, 5, page.map Rw.text, n + 1, rfl, pa3.la, g1, g2, by omega, p5, fun H4 s4 => ?_⟩
    exact k H4 (b03.trans (Bar.of s4)) (pa3.same s4)
/-! ### take_change -/
def spChange (C : Addr) (K : PySem.W.Frag) : Sp := fun vs H Q _ => ∃ (L a : Addr) (page : List Rw) (n : Nat) (cs : List CellD) (t : ChangeD) (pick : Int), vs = [.ref L, .ref a, .int pick] ∧ PageAt C H L page n ∧ CellsOk cs ∧ Tp K H (.ref a) (.tuple (cs.map CellD.d)) ∧ t.ok cs pick ∧ page[n]? = some (t.row cs) ∧
  ∀ v H', Bar L H H' → PageAt C H' L page (n + 1) → Tp K H' v t.d → Q v H'
theorem scChange : FnScope ["lines", "cells", "pick", "word", "cell", "worth", "place", "known"] ["lines", "cells", "pick"] (defScope sTakeChange) := ⟨rfl, rfl, rfl, by decide +kernel, rfl, by decide +kernel, by decide +kernel⟩
theorem ok_change {f : Addr} {fd : FuncData} (F : Fun K "take_change" "take_change" sTakeChange f fd) (T : Ln P w K mg base C) (TS : DefOk P w K mg base "source_of_worth" 2 ["lines", "word", "size", "cells", "pick"] (spSrcW C K)) : FnOk P w K mg base CX0 4 f fd ["lines", "cells", "pick"] (spChange C K) := by
  refine F.ok scChange (fun vs H Q E h => ?_) (fun cdv A outer s H vs Q E hr h => ?_)
  · obtain ⟨L, a, page, n, cs, t, pick, rfl, _⟩ := h
    rfl
  obtain ⟨L, a, page, n, cs, t, pick, rfl, pa, ⟨c3, cok, cnd⟩, hc, ⟨c, ec, fit⟩, row, k⟩ := h
  have nd := scChange.nd
  have hr2 : Room 2 (A.deeper (envOfC "take_change" (defScope sTakeChange) s.heap.objs.size f cdv)) := hr.mono (by decide)
  refine ⟨_, pss_cons (ps_asg (pe_M (pv 0) T.T.cl T.exactly_ hr (pa_cons pe_int (pa_cons (pe_tup (pa_cons pe_str (pa_cons pe_str pa_nil))) (pa_cons pe_int pa_nil)))) (pg_unl rfl (pgs_cons (pg_name (i := 3) nd rfl (.inl rfl)) (pgs_cons (pg_name (i := 4) nd rfl (.inl rfl)) (pgs_cons (pg_name (i := 5) nd rfl (.inl rfl)) pgs_nil)))))
    (pss_cons (ps_set (i := 6) nd rfl (.inl rfl) (pe_M (pv 0) T.T.cl T.place hr2 (pa_cons (pv 4) (pa_cons
      (pe_lc (own := [("known", 7)]) (g := gName 7) (tt := tYes) rfl nd (pi_tup (pv 1)) (blkOk_by (N := ["lines", "cells", "pick", "word", "cell", "worth", "place", "known"]) (sc := defScope sTakeChange) (by decide +kernel)) (fun _ _ _ _ _ => pg_name (i := 7) nd rfl (Or.inl rfl)) (fun _ _ _ _ _ => pts_nil) (fun _ _ _ _ _ => pe_ix (ix_tupK K) (pv 7) pe_int (fun _ _ => rfl))) pa_nil))))
    (pss_one (ps_ret (pe_tup (pa_cons (pv 3) (pa_cons (pv 6) (pa_cons (pe_D TS hr2 rfl (pa_cons (pv 0) (pa_cons (pv 5) (pa_cons (pe_ix ix_tup (pe_ix ix_tup (pv 1) (pv 6) (fun _ _ => rfl)) pe_int (fun _ _ => rfl)) (pa_cons (pv 1) (pa_cons (pv 2) pa_nil)))))) pa_nil))))))), ?_⟩
  obtain ⟨dx, R, hL⟩ := pa.at
  refine ⟨_, rfl, L, dx, _, rfl, hL, rfl, sz (by decide : 2 ≤ 1000), fun u hu => ?_⟩
  have s0 := same_new hu (.tup [.str "set", .str "add"])
  have hv : nextB [verb t.add, (cs[t.j]?.map (·.x)).getD Str.empty, t.s.w cs] ["set", "add"] = true := by
    show decide (verb t.add ∈ (["set", "add"] : List Str)) = true
    cases t.add <;> decide +kernel
  refine ⟨L, u, 1, 3, page, ["set", "add"], _, n, rfl, pa.same s0, .inr rfl, SqT.of upd_same, row, hv, rfl, fun q H1 b1 nq nqL e1 pa1 => ?_⟩
  have b01 := (Bar.of s0).trans b1
  have hc1 := hc.bar hL b01
  refine ⟨q, _, rfl, SqL.of e1, rfl, ?_⟩
  refine ⟨_, _, rfl, _, _, rfl, _, _, rfl, rfl, ?_⟩
  obtain ⟨dy, R2, hL1⟩ := pa1.at
  obtain ⟨xs, hs, ht⟩ := sqt_refs hc1
  refine ⟨_, rfl, L, dy, _, rfl, hL1, rfl, _, rfl, ?_⟩
  refine lc_headsT (s := 1) (i := 7) rfl (by show 7 < 8; decide) hs ht (cells_headed _) (by rw [List.length_map]; omega) fun D H2 s2 hD eD => ?_
  rw [cells_hd] at eD
  have pa2 := pa1.same s2
  have hc2 := hc1.same s2
  have ej : (cs.map (·.x))[t.j]? = some ((cs[t.j]?.map (·.x)).getD Str.empty) := by
    rw [List.getElem?_map, ec]
    rfl
  refine ⟨L, D, _, _, page.map Rw.text, n + 1, t.j, rfl, pa2.la, SqL.of eD, ej, cnd, ?_⟩
  obtain ⟨xs1, p1, ys, hx1, g1, hp1, g2⟩ := cell_at hc2 ec
  refine ⟨_, rfl, _, rfl, _, rfl, _, rfl, _, rfl, _, rfl, a, _, _, _, rfl, rfl, hx1, g1, p1, _, _, _, rfl, rfl, hp1, g2, _, rfl, _, rfl, ?_⟩
  refine ⟨L, a, page, n + 1, cs, t.s, c.z, pick, rfl, pa2, ⟨c3, cok, cnd⟩, hc2, fit, fun v H3 s3 tv => ?_⟩
  refine ⟨sz (by decide : 3 ≤ 1000), fun p hp => ?_⟩
  have s4 := same_new hp (.tup [.str (verb t.add), .int (t.j : Nat), v])
  exact k _ _ (b01.trans (Bar.of (s2.trans (s3.trans s4)))) ((pa2.same s3).same s4) (.tup (SqT.of upd_same) (.cons (.str _) (.cons (.int _) (.cons (tv.same s4) .nil))))
end
end Hx
set_option maxRecDepth 100000
set_option maxHeartbeats 4000000
namespace Hx
open PySem PySem.Spec PyProof.Rows L2
def byRows : Option (List Str) → List Rw
  | none => []
  | some ns => [⟨true, "by" :: ns⟩]
def byOf (people : List Str) : Option (List Str) → List Str
  | none => people
  | some ns => people.filter fun x => decide (x ∈ ns)
def ByOk (people : List Str) : Option (List Str) → Prop
  | none => True
  | some ns => 1 ≤ ns.length ∧ ns.length ≤ 3 ∧ ns.Nodup ∧ ∀ x ∈ ns, x ∈ people
theorem str_at {xs : List Str} {i : Nat} {x : V} (h : (xs.map V.str)[i]? = some x) : ∃ y, xs[i]? = some y ∧ x = .str y := by
  rw [List.getElem?_map] at h
  cases e : xs[i]? with
  | none =>
    rw [e] at h
    cases h
  | some y =>
    rw [e] at h
    exact ⟨y, rfl, (Option.some.inj h).symm⟩
section
variable {P : Program} {w : World} {K : PySem.W.Frag} {mg : Str → Option Value} {base : Heap} {C : Addr}
def spBy (C : Addr) (K : PySem.W.Frag) : Sp := fun vs H Q _ => ∃ (L a : Addr) (page : List Rw) (n : Nat) (people : List Str) (by_ : Option (List Str)), vs = [.ref L, .ref a] ∧ PageAt C H L page n ∧ SqT K H a (people.map V.str) ∧ people.length ≤ 3 ∧ ByOk people by_ ∧ At page n (byRows by_) ∧
  (by_ = none → nextP page n 1 ["by"] = false) ∧ ∀ v H', Bar L H H' → PageAt C H' L page (n + (byRows by_).length) → Tp K H' v (.tuple ((byOf people by_).map PyData.str)) → Q v H'
theorem scBy : FnScope ["lines", "people", "names", "name"] ["lines", "people"] (defScope sTakeBy) := ⟨rfl, rfl, rfl, by decide +kernel, rfl, by decide +kernel, by decide +kernel⟩
theorem ok_by {f : Addr} {fd : FuncData} (F : Fun K "take_by" "take_by" sTakeBy f fd) (T : Ln P w K mg base C) : FnOk P w K mg base CX0 3 f fd ["lines", "people"] (spBy C K) := by
  refine F.ok scBy (fun vs H Q E h => ?_) (fun cdv A outer s H vs Q E hr h => ?_)
  · obtain ⟨L, a, page, n, people, by_, rfl, _⟩ := h
    rfl
  obtain ⟨L, a, page, n, people, by_, rfl, pa, hp, p3, bok, at_, stop, k⟩ := h
  have nd := scBy.nd
  have hr1 : Room 1 (A.deeper (envOfC "take_by" (defScope sTakeBy) s.heap.objs.size f cdv)) := hr.mono (by decide)
  refine ⟨_, pss_cons (ps_if (pt_not (pt_val (pe_M (pv 0) T.T.cl T.next hr (pa_cons pe_int (pa_cons (pe_tup (pa_cons pe_str pa_nil)) pa_nil))))) (pss_one (ps_ret (pv 1))) pss_nil)
    (pss_cons (ps_set (i := 2) nd rfl (.inr rfl) (pe_slice sl_list (pe_M (pv 0) T.T.cl T.take hr (pa_cons pe_int (pa_cons (pe_tup (pa_cons pe_str pa_nil)) pa_nil))) (po_some pe_int) po_none))
    (pss_cons (ps_expr (pe_M (pv 0) T.T.cl T.need hr1 (pa_cons (pe_and (pe_cmpR op_gt (pe_callB call_len_seq rfl T.T.len PySem.boot_len (pa_cons (pv 2) pa_nil)) pe_int (nomark _))
        (pe_one (pe_cmpR op_eq (pe_lenSetS rfl T.T.len rfl T.set (pv 2)) (pe_callB call_len_seq rfl T.T.len PySem.boot_len (pa_cons (pv 2) pa_nil)) (nomark _)))) pa_nil)))
    (pss_cons (ps_expr (pe_M (pv 0) T.T.cl T.need hr1 (pa_cons (pe_callB (cr_all rfl) rfl T.T.all PyProof.Rows.boot_all (pa_cons
      (pe_lc (own := [("name", 3)]) (g := gName 3) (tt := tYes) rfl nd (pi_list (pv 2)) (blkOk_by (N := ["lines", "people", "names", "name"]) (sc := defScope sTakeBy) (by decide +kernel)) (fun _ _ _ _ _ => pg_name (i := 3) nd rfl (Or.inl rfl)) (fun _ _ _ _ _ => pts_nil)
        (fun _ _ _ _ _ => pe_cmpR (op_in_seqK K) (pv 3) (pv 1) (by rfl))) pa_nil)) pa_nil)))
    (pss_one (ps_ret (pe_callTy call_tuple_of rfl T.tuple PyProof.Rows.Boot.«tuple» (pa_cons
      (pe_lc (own := [("name", 3)]) (g := gName 3) (tt := tTest (tOp (rIn K false) (tVar 3) (tVar 2))) rfl nd (pi_tup (pv 1)) (blkOk_by (N := ["lines", "people", "names", "name"]) (sc := defScope sTakeBy) (by decide +kernel)) (fun _ _ _ _ _ => pg_name (i := 3) nd rfl (Or.inl rfl)) (fun _ _ _ _ _ => pts_one (pt_cmpR (op_in_seqK K) (pv 3) (pv 2) (by rfl)))
        (fun _ _ _ _ _ => pv 3)) pa_nil))))))), ?_⟩
  obtain ⟨dx, R, hL⟩ := pa.at
  refine ⟨_, rfl, L, dx, _, rfl, hL, rfl, sz (by decide : 1 ≤ 1000), fun t ht => ?_⟩
  have s0 := same_new ht (.tup [.str "by"])
  refine ⟨L, t, 1, page, ["by"], n, rfl, pa.same s0, .inr rfl, SqT.of upd_same, fun H1 s1 => ⟨_, rfl, ?_⟩⟩
  have s01 := s0.trans s1
  have pa1 := pa.same s01
  have hL1 := s01 _ _ hL
  cases by_ with
  | none =>
    rw [stop rfl]
    refine iteT ⟨_, rfl, ?_⟩
    exact k _ H1 (Bar.of s01) pa1 (.tup (same_sqt s01 hp) (tpa_of_strs _))
  | some ns =>
    obtain ⟨n1, n3, hnd, sub⟩ := bok
    have row : page[n]? = some ⟨true, "by" :: ns⟩ := at_.head
    have a1 : nextP page n 1 ["by"] = true := by
      unfold nextP aheadP
      rw [row]
      rfl
    rw [a1]
    refine iteF ?_
    refine ⟨_, rfl, L, dx, _, rfl, hL1, rfl, sz (by decide : 1 ≤ 1000), fun t2 ht2 => ?_⟩
    have s2 := same_new ht2 (.tup [.str "by"])
    refine ⟨L, t2, 1, page, ["by"], "by" :: ns, n, rfl, pa1.same s2, .inr rfl, SqT.of upd_same, row, by simp [nextB], fun q H3 b3 nq nqL e3 pa3 => ?_⟩
    refine ⟨_, rfl, q, _, rfl, SqL.of e3, fun l hl => ?_⟩
    rw [cut_tailS]
    have b4 := ((Bar.of (s01.trans s2)).trans b3).trans (Bar.of (same_new hl (.lst (ns.map V.str))))
    have pa4 := pa3.same (same_new hl (.lst (ns.map V.str)))
    have el : upd H3 l (.lst (ns.map V.str)) l = some (.lst (ns.map V.str)) := upd_same
    generalize upd H3 l (.lst (ns.map V.str)) = H4 at *
    have hp4 := sqt_bar hL b4 hp
    obtain ⟨dy, R2, hL4⟩ := pa4.at
    refine ⟨_, rfl, L, dy, _, rfl, hL4, rfl, _, rfl, l, _, rfl, .inl (SqL.of el), _, _, rfl, rfl, _, rfl, ?_⟩
    rw [List.length_map, decide_eq_true (by omega)]
    refine iteT ⟨_, rfl, l, ns, rfl, SqL.of el, hnd, by omega, _, rfl, l, _, rfl, .inl (SqL.of el), rfl, ?_⟩
    have e5 : decide (V.int (ns.length : Nat) = V.int ((ns.map V.str).length : Nat)) = true := by rw [List.length_map]; exact decide_eq_true rfl
    refine ⟨L, ne_ e5, _, rfl, L, dy, _, rfl, hL4, rfl, ?_⟩
    refine ⟨_, rfl, l, rfl, ⟨_, SqL.of el⟩, fun D hD => lc_list (xs := ns.map V.str) (fun i H' => Same H4 H' ∧ H' D = some (.lst ((List.replicate i true).map V.bl))) ⟨same_new hD _, upd_same⟩ (fun i H' _ z => SqL.of (z.1 _ _ el)) ?_ ?_⟩
    · rintro i x H' hi ⟨sm, eD⟩
      obtain ⟨y, ey, rfl⟩ := str_at hi
      have hil := (List.getElem?_eq_some_iff.mp ey).1
      refine ⟨set2, yes ⟨_, get_same (by show 3 < 4; decide), _, rfl, a, _, rfl, .inr (same_sqt sm hp4), rfl, flat_words _, _, eD, ?_, same_grow hD sm, ?_⟩⟩
      · rw [List.length_map, List.length_replicate]
        exact small1000 (by omega)
      · rw [upd_same, if_neg (by decide), in_words, decide_eq_true (sub y (List.mem_of_getElem? ey)), List.replicate_succ', List.map_append]
        rfl
    · rintro H' ⟨sm, eD⟩
      refine ⟨D, _, rfl, SqL.of eD, ?_⟩
      refine ⟨L, ne_ (replicate_all _), ?_⟩
      have pa5 := pa4.same sm
      have hp5 := same_sqt sm hp4
      have el5 := sm _ _ el
      refine ⟨_, rfl, a, rfl, ⟨_, hp5⟩, fun G hG => lc_tup (xs := people.map V.str) (fun i H6 => Same H' H6 ∧ H6 G = some (.lst (((people.take i).filter fun x => decide (x ∈ ns)).map V.str))) ⟨same_new hG _, by rw [upd_same]; rfl⟩ (fun i H6 _ z => same_sqt z.1 hp5) ?_ ?_⟩
      · rintro i x H6 hi ⟨sm6, eG⟩
        obtain ⟨y, ey, rfl⟩ := str_at hi
        have hil := (List.getElem?_eq_some_iff.mp ey).1
        refine ⟨set2, ?_⟩
        refine ⟨_, get_same (by show 3 < 4; decide), _, rfl, l, _, rfl, .inl (SqL.of (sm6 _ _ el5)), rfl, flat_words _, _, rfl, ?_⟩
        rw [if_neg (by decide), in_words]
        have step : (people.take (i + 1)).filter (fun x => decide (x ∈ ns)) = (people.take i).filter (fun x => decide (x ∈ ns)) ++ if decide (y ∈ ns) = true then [y] else [] := by
          rw [List.take_add_one, ey, List.filter_append]
          by_cases h : y ∈ ns <;> simp [h]
        refine L2.ite2 (fun c => ?_) (fun c => ?_)
        · refine ⟨_, get_same (by show 3 < 4; decide), _, eG, ?_, same_grow hG sm6, ?_⟩
          · rw [List.length_map]
            have := List.length_filter_le (fun x => decide (x ∈ ns)) (people.take i)
            rw [List.length_take] at this
            exact small1000 (by omega)
          · rw [upd_same, step, if_pos c, List.map_append]
            rfl
        · refine ⟨sm6, ?_⟩
          rw [step, if_neg c, List.append_nil]
          exact eG
      · rintro H6 ⟨sm6, eG⟩
        rw [List.length_map, List.take_length] at eG
        refine ⟨G, _, rfl, .inl ⟨SqL.of eG, fun r hr' => ?_⟩⟩
        have s7 := same_new hr' (.tup ((people.filter fun x => decide (x ∈ ns)).map V.str))
        exact k _ _ (b4.trans (Bar.of (sm.trans (sm6.trans s7)))) ((pa5.same sm6).same s7) (.tup (SqT.of upd_same) (tpa_of_strs _))
end
end Hx
set_option maxRecDepth 100000
set_option maxHeartbeats 4000000
namespace Hx
open PySem PySem.Spec PyProof.Rows L2
abbrev sTakeRow : Stmt := top 18
structure RowD where
  j : Nat
  ss : List Src
def RowD.d (ks : List KindD) (r : RowD) : PyData := .tuple [.str ((ks[r.j]?.map (·.x)).getD Str.empty), .tuple (r.ss.map Src.d)]
def RowD.row (cs : List CellD) (ks : List KindD) (r : RowD) : Rw := ⟨true, "row" :: (ks[r.j]?.map (·.x)).getD Str.empty :: r.ss.map (Src.w cs)⟩
def srcOk (people : List Str) (cs : List CellD) (pick : Int) (f : FieldD) (s : Src) : Prop := match f.z with
  | none => s.person? people
  | some z => s.fits cs z pick
def RowD.ok (people : List Str) (cs : List CellD) (ks : List KindD) (pick : Int) (r : RowD) : Prop := ∃ k, ks[r.j]? = some k ∧ r.ss.length = k.fs.length ∧ k.fs.length ≤ 3 ∧ ∀ (i : Nat) (f : FieldD) (s : Src), k.fs[i]? = some f → r.ss[i]? = some s → srcOk people cs pick f s
theorem srcs_headed (ss : List Src) : ∀ d ∈ ss.map Src.d, headed d := by
  intro d hd
  obtain ⟨c, _, rfl⟩ := List.mem_map.mp hd
  cases c <;> trivial
theorem person_w {people : List Str} {cs : List CellD} {s : Src} (h : s.person? people) : s.w cs = s.w [] := by
  cases s with
  | cell j => exact h.elim
  | _ => rfl
theorem cut_twoS (x y : Str) (r : List Str) : cutV (List.map V.str (x :: y :: r)) (some 2) none = List.map V.str r := by
  unfold cutV
  have e : HT.sIx (List.map V.str (x :: y :: r)).length 0 (some (2 : Int)) = 2 := by
    have := HT.sIx_nat (List.map V.str (x :: y :: r)).length 0 2
    rw [Nat.min_eq_left (by simp)] at this
    exact this
  rw [e, HT.sIx_none]
  show (List.map V.str r).take ((List.map V.str (x :: y :: r)).length - 2) = List.map V.str r
  rw [show (List.map V.str (x :: y :: r)).length - 2 = (List.map V.str r).length by simp, List.take_length]
section
variable {P : Program} {w : World} {K : PySem.W.Frag} {mg : Str → Option Value} {base : Heap} {C : Addr}
def spRow (C : Addr) (K : PySem.W.Frag) : Sp := fun vs H Q _ => ∃ (L ap ac ak : Addr) (page : List Rw) (n : Nat) (people : List Str) (cs : List CellD) (ks : List KindD) (r : RowD) (pick : Int), vs = [.ref L, .ref ap, .ref ac, .ref ak, .int pick] ∧ PageAt C H L page n ∧ CellsOk cs ∧
  SqT K H ap (people.map V.str) ∧ Tp K H (.ref ac) (.tuple (cs.map CellD.d)) ∧ Tp K H (.ref ak) (.tuple (ks.map KindD.d)) ∧ ks.length ≤ 3 ∧ (ks.map (·.x)).Nodup ∧ r.ok people cs ks pick ∧ page[n]? = some (r.row cs ks) ∧
  ∀ v H', Bar L H H' → PageAt C H' L page (n + 1) → Tp K H' v (r.d ks) → Q v H'
theorem scRow : FnScope ["lines", "people", "cells", "kinds", "pick", "words", "kind", "fields", "sources", "word", "_", "size", "known"] ["lines", "people", "cells", "kinds", "pick"] (defScope sTakeRow) := ⟨rfl, rfl, rfl, by decide +kernel, rfl, by decide +kernel, by decide +kernel⟩
theorem ok_row {f : Addr} {fd : FuncData} (F : Fun K "take_row" "take_row" sTakeRow f fd) (T : Ln P w K mg base C) (mz : mg "zip" = none) (TW : DefOk P w K mg base "source_of_worth" 2 ["lines", "word", "size", "cells", "pick"] (spSrcW C K)) (TP : DefOk P w K mg base "source_of_person" 2 ["lines", "word", "people"] (spSrcP C K)) :
    FnOk P w K mg base CX0 3 f fd ["lines", "people", "cells", "kinds", "pick"] (spRow C K) := by
  refine F.ok scRow (fun vs H Q E h => ?_) (fun cdv A outer s H vs Q E hr h => ?_)
  · obtain ⟨L, ap, ac, ak, page, n, people, cs, ks, r, pick, rfl, _⟩ := h
    rfl
  obtain ⟨L, ap, ac, ak, page, n, people, cs, ks, r, pick, rfl, pa, cok, hp, hc, hk, k3, knd, ⟨kd, ek, el, e3, each⟩, row, k⟩ := h
  have nd := scRow.nd
  have hr1 : Room 1 (A.deeper (envOfC "take_row" (defScope sTakeRow) s.heap.objs.size f cdv)) := hr.mono (by decide)
  have hu := hr.units
  refine ⟨_, pss_cons (ps_set (i := 5) nd rfl (.inl rfl) (pe_M (pv 0) T.T.cl T.take hr (pa_cons pe_int (pa_cons (pe_tup (pa_cons pe_str pa_nil)) pa_nil))))
    (pss_cons (ps_expr (pe_M (pv 0) T.T.cl T.need hr1 (pa_cons (pe_cmpR op_gt (pe_callB call_len_seq rfl T.T.len PySem.boot_len (pa_cons (pv 5) pa_nil)) pe_int (nomark _)) pa_nil)))
    (pss_cons (ps_asg (pe_ix ix_tup (pv 3) (pe_M (pv 0) T.T.cl T.place hr (pa_cons (pe_ix ix_list (pv 5) pe_int (fun _ _ => rfl)) (pa_cons
        (pe_lc (own := [("known", 12)]) (g := gName 12) (tt := tYes) rfl nd (pi_tup (pv 3)) (blkOk_by (N := ["lines", "people", "cells", "kinds", "pick", "words", "kind", "fields", "sources", "word", "_", "size", "known"]) (sc := defScope sTakeRow) (by decide +kernel)) (fun _ _ _ _ _ => pg_name (i := 12) nd rfl (Or.inl rfl)) (fun _ _ _ _ _ => pts_nil) (fun _ _ _ _ _ => pe_ix (ix_tupK K) (pv 12) pe_int (fun _ _ => rfl))) pa_nil))) (fun _ _ => rfl))
        (pg_tup rfl (pgs_cons (pg_name (i := 6) nd rfl (.inl rfl)) (pgs_cons (pg_name (i := 7) nd rfl (.inl rfl)) pgs_nil))))
    (pss_cons (ps_expr (pe_M (pv 0) T.T.cl T.need hr1 (pa_cons (pe_cmpR op_eq (pe_callB call_len_seq rfl T.T.len PySem.boot_len (pa_cons (pv 5) pa_nil)) (pe_op op_add pe_int (pe_callB call_len_seq rfl T.T.len PySem.boot_len (pa_cons (pv 7) pa_nil))) (nomark _)) pa_nil)))
    (pss_cons (ps_set (i := 8) nd rfl (.inl rfl) (pe_lst pa_nil))
    (pss_cons (ps_for PassesOwn.never rfl (pi_zipM rfl mz (pa_cons (pe_slice sl_list (pv 5) (po_some pe_int) po_none) (pa_cons (pv 7) pa_nil)))
        (pg_tup rfl (pgs_cons (pg_name (i := 9) nd rfl (.inl rfl)) (pgs_cons (pg_tup rfl (pgs_cons (pg_name (i := 10) nd rfl (.inl rfl)) (pgs_cons (pg_name (i := 11) nd rfl (.inl rfl)) pgs_nil))) pgs_nil)))
      (pss_one (ps_if (pt_cmpR op_isN (pv 11) pe_non (nomark _))
        (pss_one (ps_expr (pe_bm PySem.F.plainAttrs_list PySem.F.slot_list_append PySem.F.type_list_append mt_append (pv 8) (pa_cons (pe_D TP hr rfl (pa_cons (pv 0) (pa_cons (pv 9) (pa_cons (pv 1) pa_nil)))) pa_nil))))
        (pss_one (ps_expr (pe_bm PySem.F.plainAttrs_list PySem.F.slot_list_append PySem.F.type_list_append mt_append (pv 8) (pa_cons (pe_D TW hr rfl (pa_cons (pv 0) (pa_cons (pv 9) (pa_cons (pv 11) (pa_cons (pv 2) (pa_cons (pv 4) pa_nil)))))) pa_nil)))))))
    (pss_one (ps_ret (pe_tup (pa_cons (pv 6) (pa_cons (pe_callTy call_tuple_of rfl T.tuple PyProof.Rows.Boot.«tuple» (pa_cons (pv 8) pa_nil)) pa_nil)))))))))), ?_⟩
  obtain ⟨dx, R, hL⟩ := pa.at
  have kin := List.mem_of_getElem? ek
  have ex : (ks[r.j]?.map (·.x)).getD Str.empty = kd.x := by
    rw [ek]
    rfl
  have row' : page[n]? = some ⟨true, "row" :: kd.x :: r.ss.map (Src.w cs)⟩ := by
    rw [row]
    unfold RowD.row
    rw [ex]
  refine ⟨_, rfl, L, dx, _, rfl, hL, rfl, sz (by decide : 1 ≤ 1000), fun t ht => ?_⟩
  have s0 := same_new ht (.tup [.str "row"])
  refine ⟨L, t, 1, page, ["row"], _, n, rfl, pa.same s0, .inr rfl, SqT.of upd_same, row', by simp [nextB], fun q H1 b1 nq nqL e1 pa1 => ?_⟩
  have b01 := (Bar.of s0).trans b1
  have hp1 := sqt_bar hL b01 hp
  have hc1 := hc.bar hL b01
  have hk1 := hk.bar hL b01
  obtain ⟨dy, R1, hL1⟩ := pa1.at
  have len1 : (decide ((1 : Int) < ((List.map V.str ("row" :: kd.x :: r.ss.map (Src.w cs))).length : Nat))) = true := by
    rw [List.length_map]
    exact decide_eq_true (by show (1 : Int) < ((r.ss.map (Src.w cs)).length + 1 + 1 : Nat); omega)
  refine ⟨_, rfl, L, dy, _, rfl, hL1, rfl, _, rfl, q, _, rfl, .inl (SqL.of e1), _, _, rfl, rfl, L, ne_ len1, ?_⟩
  obtain ⟨xs, hs, ht1⟩ := sqt_refs hk1
  refine ⟨_, rfl, _, rfl, L, dy, _, rfl, hL1, rfl, _, rfl, q, _, 1, .str kd.x, rfl, rfl, SqL.of e1, atI_nat (j := 1) rfl, ?_⟩
  refine lc_headsT (s := 3) (i := 12) rfl (by show 12 < 13; decide) hs ht1 (kinds_headed _) (by rw [List.length_map]; omega) fun D H2 s2 hD eD => ?_
  rw [kinds_hd] at eD
  have pa2 := pa1.same s2
  have hL2 := s2 _ _ hL1
  have hk2 := hk1.same s2
  have e2 := s2 _ _ e1
  refine ⟨L, D, kd.x, _, page.map Rw.text, n + 1, r.j, rfl, pa2.la, SqL.of eD, by rw [List.getElem?_map, ek]; rfl, knd, ?_⟩
  obtain ⟨xs2, hs2, ht2⟩ := sqt_refs hk2
  obtain ⟨kv, ekv, tkv⟩ := ht2.at (i := r.j) (d := kd.d) (by rw [List.getElem?_map, ek] <;> rfl)
  obtain ⟨kp, ys, rfl, hkp, hys⟩ := tp_tup tkv
  cases hys with
  | cons h0 h1 =>
  cases h1 with
  | cons h1 h2 =>
  cases h2
  have e0 := tp_str h0
  subst e0
  obtain ⟨fa, fxs, rfl, hfa, hfs⟩ := tp_tup h1
  have flen : fxs.length = kd.fs.length := by rw [hfs.length, List.length_map]
  refine ⟨ak, xs2, _, _, rfl, rfl, hs2, atI_nat ekv, kp, _, rfl, hkp, rfl, _, _, rfl, _, _, rfl, rfl, ?_⟩
  have len2 : decide (V.int ((List.map V.str ("row" :: kd.x :: r.ss.map (Src.w cs))).length : Nat) = V.int (2 + (fxs.length : Nat))) = true := by
    rw [List.length_map, flen, ← el]
    exact decide_eq_true (by show V.int (((r.ss.map (Src.w cs)).length + 1 + 1 : Nat)) = _; rw [List.length_map]; congr 1; omega)
  refine ⟨_, rfl, L, dy, _, rfl, hL2, rfl, _, rfl, q, _, rfl, .inl (SqL.of e2), _, rfl, fa, fxs, rfl, .inr hfa, _, _, rfl, rfl, rfl, L, ne_ len2, ?_⟩
  refine ⟨sz (by decide : 0 ≤ 1000), fun l hl => ?_⟩
  have s3 := same_new hl (.lst [])
  have hlL : l ≠ L := fun z => by
    rw [z, hL2] at hl
    cases hl
  refine ⟨_, rfl, _, rfl, q, _, rfl, SqL.of (s3 _ _ e2), fun z hz => ?_⟩
  rw [cut_twoS]
  have s4 := same_new hz (.lst ((r.ss.map (Src.w cs)).map V.str))
  have s34 := s3.trans s4
  have nzl : l ≠ z := ne_of_none upd_same hz
  have ez : upd (upd H2 l (.lst [])) z (.lst ((r.ss.map (Src.w cs)).map V.str)) z = some (.lst ((r.ss.map (Src.w cs)).map V.str)) := upd_same
  have el0 : upd (upd H2 l (.lst [])) z (.lst ((r.ss.map (Src.w cs)).map V.str)) l = some (.lst []) := by rw [upd_ne nzl]; exact upd_same
  have pa4 := pa2.same s34
  have hp4 := same_sqt (s2.trans s34) hp1
  have hc4 := (hc1.same s2).same s34
  have hfa4 := same_sqt s34 hfa
  have hfs4 := hfs.same s34
  have b4 : Bar L H (upd (upd H2 l (.lst [])) z (.lst ((r.ss.map (Src.w cs)).map V.str))) := b01.trans (Bar.of (s2.trans s34))
  have nl : H l = none := by
    cases e : H l with
    | none => rfl
    | some o => exact absurd (s2 _ _ (b01 l o hlL e)) (by rw [hl]; exact fun z => nomatch z)
  generalize upd (upd H2 l (.lst [])) z (.lst ((r.ss.map (Src.w cs)).map V.str)) = H4 at *
  have many : (r.ss.map (Src.w cs)).length = kd.fs.length := by rw [List.length_map, el]
  refine ⟨_, rfl, z, fa, _, _, rfl, SqL.of ez, hfa4, for_it (walk_zipM (xs := (r.ss.map (Src.w cs)).map V.str) (ys := fxs) (n := kd.fs.length) (by rw [List.length_map, many]) flen)
    (fun i σ H' => ∃ (t1 t2 t3 : Option V) (xs : List V), σ = [some (.ref L), some (.ref ap), some (.ref ac), some (.ref ak), some (.int pick), some (.ref q), some (.str kd.x), some (.ref fa), some (.ref l), t1, t2, t3, none] ∧ Bar L H H' ∧ PageAt C H' L page (n + 1) ∧ SqT K H' ap (people.map V.str) ∧ Tp K H' (.ref ac) (.tuple (cs.map CellD.d)) ∧
      H' z = some (.lst ((r.ss.map (Src.w cs)).map V.str)) ∧ SqT K H' fa fxs ∧ TpAll K H' fxs (kd.fs.map FieldD.d) ∧ H' l = some (.lst xs) ∧ TpAll K H' xs ((r.ss.take i).map Src.d))
    ⟨none, none, none, [], rfl, b4, pa4, hp4, hc4, ez, hfa4, hfs4, el0, .nil⟩ ?_ ?_ ?_⟩
  · rintro i σ H' _ ⟨_, _, _, xs, _, _, _, _, _, g1, g2, _⟩
    exact ⟨SqL.of g1, g2⟩
  · rintro i x σ H' H'' hi ⟨t1, t2, t3, xs, rfl, b5, p5, hp5, hc5, ez5, hfa5, hfs5, el5, tx⟩ ⟨T', u, v, rfl, hT, rfl, eu, ev⟩
    obtain ⟨y, ey, rfl⟩ := str_at eu
    rw [List.getElem?_map] at ey
    obtain ⟨sr, esr, rfl⟩ : ∃ sr, r.ss[i]? = some sr ∧ y = sr.w cs := by
      cases e : r.ss[i]? with
      | none =>
        rw [e] at ey
        cases ey
      | some sr =>
        rw [e] at ey
        exact ⟨sr, rfl, (Option.some.inj ey).symm⟩
    obtain ⟨fdd, efd, tfd⟩ := hfs5.get ev
    rw [List.getElem?_map] at efd
    obtain ⟨fl, efl, rfl⟩ : ∃ fl, kd.fs[i]? = some fl ∧ fdd = fl.d := by
      cases e : kd.fs[i]? with
      | none =>
        rw [e] at efd
        cases efd
      | some fl =>
        rw [e] at efd
        exact ⟨fl, rfl, (Option.some.inj efd).symm⟩
    have good := each i fl sr efl esr
    obtain ⟨ta, tys, rfl, hta, htys⟩ := tp_tup tfd
    cases htys with
    | cons g0 g1 =>
    cases g1 with
    | cons g1 g2 =>
    cases g2
    have s6 := same_new hT (.tup [.str (sr.w cs), .ref ta])
    have p6 := p5.same s6
    have el6 := s6 _ _ el5
    have lx : xs.length ≤ 3 := by
      rw [tx.length, List.length_map, List.length_take]
      omega
    have fin : ∀ (t1 t2 t3 : V) (v : V) (H7 : Hp), Same (upd H' T' (.tup [.str (sr.w cs), .ref ta])) H7 → Tp K H7 v sr.d → ∃ (t1' t2' t3' : Option V) (xs' : List V), ([some (.ref L), some (.ref ap), some (.ref ac), some (.ref ak), some (.int pick), some (.ref q), some (.str kd.x), some (.ref fa), some (.ref l), some t1, some t2, some t3, none] : L2.St) = [some (.ref L), some (.ref ap), some (.ref ac), some (.ref ak), some (.int pick), some (.ref q), some (.str kd.x), some (.ref fa), some (.ref l), t1', t2', t3', none] ∧ Bar L H (upd H7 l (.lst (xs ++ [v]))) ∧
        PageAt C (upd H7 l (.lst (xs ++ [v]))) L page (n + 1) ∧ SqT K (upd H7 l (.lst (xs ++ [v]))) ap (people.map V.str) ∧ Tp K (upd H7 l (.lst (xs ++ [v]))) (.ref ac) (.tuple (cs.map CellD.d)) ∧ upd H7 l (.lst (xs ++ [v])) z = some (.lst ((r.ss.map (Src.w cs)).map V.str)) ∧ SqT K (upd H7 l (.lst (xs ++ [v]))) fa fxs ∧ TpAll K (upd H7 l (.lst (xs ++ [v]))) fxs (kd.fs.map FieldD.d) ∧
        upd H7 l (.lst (xs ++ [v])) l = some (.lst xs') ∧ TpAll K (upd H7 l (.lst (xs ++ [v]))) xs' ((r.ss.take (i + 1)).map Src.d) := by
      intro t1 t2 t3 v H7 s7 tv
      have s67 := s6.trans s7
      have el7 := s7 _ _ el6
      have tx7 := tx.same s67
      refine ⟨some t1, some t2, some t3, xs ++ [v], rfl, bar_grow nl (b5.trans (Bar.of s67)), ?_, sqt_lst el7 (same_sqt s67 hp5), (hc5.same s67).lst el7, by rw [upd_ne nzl.symm]; exact s67 _ _ ez5, sqt_lst el7 (same_sqt s67 hfa5), (hfs5.same s67).lst el7, upd_same, ?_⟩
      · exact page_lst el7 (ne_rows tx7 (fun d hd => srcs_headed r.ss d (by rw [List.map_take] at hd; exact List.mem_of_mem_take hd)) (page_ne row)) (p5.same s67)
      · have e8 : (r.ss.take (i + 1)).map Src.d = (r.ss.take i).map Src.d ++ [sr.d] := by
          rw [List.take_add_one, esr, List.map_append]
          rfl
        rw [e8]
        exact TpAll.append (tx7.lst el7) (.cons (tv.lst el7) .nil)
    obtain ⟨fx, fz⟩ := fl
    have e0 := tp_str g0
    subst e0
    cases fz with
    | none =>
      have e1' := tp_non g1
      subst e1'
      have gp : sr.person? people := good
      refine ⟨_, _, rfl, SqT.of upd_same, rfl, _, _, rfl, _, _, rfl, ⟨ta, _, rfl, same_sqt s6 hta, rfl, _, _, rfl, _, _, rfl, rfl, rfl, ?_⟩⟩
      refine ⟨_, rfl, rfl, _, rfl, iteT ?_⟩
      refine ⟨_, rfl, .inl ⟨rfl, _, SqL.of el6⟩, _, rfl, _, rfl, _, rfl, ?_⟩
      refine ⟨L, ap, page, n + 1, people, sr, congrArg (fun y => [V.ref L, V.str y, V.ref ap]) (person_w gp), p6, same_sqt s6 hp5, gp, fun v H7 s7 tv => ?_⟩
      exact ⟨l, xs, v, rfl, rfl, s7 _ _ el6, small1000 (by omega), fin _ _ _ v H7 s7 tv⟩
    | some fz =>
      have e1' := tp_int g1
      subst e1'
      have gp : sr.fits cs fz pick := good
      refine ⟨_, _, rfl, SqT.of upd_same, rfl, _, _, rfl, _, _, rfl, ⟨ta, _, rfl, same_sqt s6 hta, rfl, _, _, rfl, _, _, rfl, rfl, rfl, ?_⟩⟩
      refine ⟨_, rfl, rfl, _, rfl, iteF ?_⟩
      refine ⟨_, rfl, .inl ⟨rfl, _, SqL.of el6⟩, _, rfl, _, rfl, _, rfl, _, rfl, _, rfl, ?_⟩
      refine ⟨L, ac, page, n + 1, cs, sr, fz, pick, rfl, p6, cok, hc5.same s6, gp, fun v H7 s7 tv => ?_⟩
      exact ⟨l, xs, v, rfl, rfl, s7 _ _ el6, small1000 (by omega), fin _ _ _ v H7 s7 tv⟩
  · rintro σ H' ⟨t1, t2, t3, xs, rfl, b5, p5, hp5, hc5, ez5, hfa5, hfs5, el5, tx⟩
    rw [← el, List.take_length] at tx
    refine ⟨_, rfl, _, rfl, l, xs, rfl, .inl ⟨SqL.of el5, fun p hp' => ?_⟩⟩
    have s6 := same_new hp' (.tup xs)
    refine ⟨sz (by decide : 2 ≤ 1000), fun p2 hp2 => ?_⟩
    have s7 := same_new hp2 (.tup [.str kd.x, .ref p])
    refine k _ _ (b5.trans (Bar.of (s6.trans s7))) ((p5.same s6).same s7) ?_
    unfold RowD.d
    rw [ex]
    exact .tup (SqT.of upd_same) (.cons (.str _) (.cons (.tup (same_sqt s7 (SqT.of upd_same)) (tx.same (s6.trans s7))) .nil))
end
end Hx
set_option maxRecDepth 100000
set_option maxHeartbeats 4000000
namespace Hx
open PySem PySem.Spec PyProof.Rows L2
abbrev sDeedInit : Stmt := inClass (top 10) 0
abbrev sTakeDeed : Stmt := top 19
abbrev sTakeDeeds : Stmt := top 43
structure DeedD where
  x : Str
  by_ : Option (List Str)
  ts : List TestD
  pick : Int
  chs : List ChangeD
  rs : List RowD
def deedF (x : Str) (ab at_ : Addr) (pick : Int) (ac ar : Addr) : List (Str × V) := [("name", .str x), ("by", .ref ab), ("tests", .ref at_), ("pick", .int pick), ("changes", .ref ac), ("rows", .ref ar)]
structure DTxt (K : PySem.W.Frag) (mg : Str → Option Value) (D fI : Addr) : Prop where
  cl : L2.Cls K D
  nN : NoAttr K D "name"
  nB : NoAttr K D "by"
  nT : NoAttr K D "tests"
  nP : NoAttr K D "pick"
  nC : NoAttr K D "changes"
  nR : NoAttr K D "rows"
  mgD : mg "Deed" = some (.ref D)
  maker : Mk K D fI
section
variable {P : Program} {w : World} {K : PySem.W.Frag} {mg : Str → Option Value} {base : Heap} {C D fI : Addr}
def spDeedI (D : Addr) : Sp := fun vs H Q _ => ∃ (p dx ab : Addr) (x : Str), vs = [.ref p, .str x, .ref ab] ∧ H p = some (.ins D dx []) ∧ ∀ (at_ ac ar : Addr) (H' : Hp), H at_ = none → H ac = none → H ar = none → at_ ≠ ac → at_ ≠ ar → ac ≠ ar →
  H' p = some (.ins D dx (deedF x ab at_ 1 ac ar)) → H' at_ = some (.lst []) → H' ac = some (.lst []) → H' ar = some (.lst []) → Bar p H H' → Q .non H'
theorem scDeedI : FnScope ["self", "name", "by"] ["self", "name", "by"] (defScope sDeedInit) := ⟨rfl, rfl, rfl, by decide +kernel, rfl, by decide +kernel, by decide +kernel⟩
theorem ok_deedI {f : Addr} {fd : FuncData} (F : Fun K "__init__" "Deed.__init__" sDeedInit f fd) (T : DTxt K mg D fI) : FnOk P w K mg base CX0 1 f fd ["self", "name", "by"] (spDeedI D) := by
  refine F.ok scDeedI (fun vs H Q E h => ?_) (fun cdv A outer s H vs Q E hr h => ?_)
  · obtain ⟨p, dx, ab, x, rfl, _⟩ := h
    rfl
  obtain ⟨p, dx, ab, x, rfl, hp, k⟩ := h
  refine ⟨_, pss_cons (ps_fld (pv 0) (pv 1) rfl) (pss_cons (ps_fld (pv 0) (pv 2) rfl) (pss_cons (ps_fld (pv 0) (pe_lst pa_nil) rfl) (pss_cons (ps_fld (pv 0) pe_int rfl) (pss_cons (ps_fld (pv 0) (pe_lst pa_nil) rfl) (pss_one (ps_fld (pv 0) (pe_lst pa_nil) rfl)))))), ?_⟩
  refine ⟨_, rfl, _, rfl, p, D, dx, _, rfl, hp, T.cl, T.nN, (by show 0 < 1000; decide), ?_⟩
  refine ⟨_, rfl, _, rfl, p, D, dx, _, rfl, upd_same, T.cl, T.nB, (by show 1 < 1000; decide), ?_⟩
  refine ⟨sz (by decide : 0 ≤ 1000), fun a1 h1 => ?_⟩
  have n1 : p ≠ a1 := ne_of_none upd_same h1
  refine ⟨_, rfl, p, D, dx, _, rfl, (by rw [upd_ne n1]; exact upd_same), T.cl, T.nT, (by show 2 < 1000; decide), ?_⟩
  refine ⟨_, rfl, p, D, dx, _, rfl, upd_same, T.cl, T.nP, (by show 3 < 1000; decide), ?_⟩
  refine ⟨sz (by decide : 0 ≤ 1000), fun a2 h2 => ?_⟩
  have n2 : p ≠ a2 := ne_of_none upd_same h2
  refine ⟨_, rfl, p, D, dx, _, rfl, (by rw [upd_ne n2]; exact upd_same), T.cl, T.nC, (by show 4 < 1000; decide), ?_⟩
  refine ⟨sz (by decide : 0 ≤ 1000), fun a3 h3 => ?_⟩
  have n3 : p ≠ a3 := ne_of_none upd_same h3
  refine ⟨_, rfl, p, D, dx, _, rfl, (by rw [upd_ne n3]; exact upd_same), T.cl, T.nR, (by show 5 < 1000; decide), ?_⟩
  -- what is new
  have z1 : H a1 = none := by
    rw [upd_ne n1.symm, upd_ne n1.symm] at h1
    exact h1
  have z2 : a1 ≠ a2 ∧ H a2 = none := by
    have e : a1 ≠ a2 := fun z => by
      rw [← z, upd_ne n1.symm, upd_ne n1.symm, upd_same] at h2
      cases h2
    refine ⟨e, ?_⟩
    rw [upd_ne n2.symm, upd_ne n2.symm, upd_ne e.symm, upd_ne n2.symm, upd_ne n2.symm] at h2
    exact h2
  have z3 : a1 ≠ a3 ∧ a2 ≠ a3 ∧ H a3 = none := by
    have e2 : a2 ≠ a3 := fun z => by
      rw [← z, upd_ne n2.symm, upd_same] at h3
      cases h3
    have e1 : a1 ≠ a3 := fun z => by
      rw [← z, upd_ne n1.symm, upd_ne z2.1, upd_ne n1.symm, upd_ne n1.symm, upd_same] at h3
      cases h3
    refine ⟨e1, e2, ?_⟩
    rw [upd_ne n3.symm, upd_ne e2.symm, upd_ne n3.symm, upd_ne n3.symm, upd_ne e1.symm, upd_ne n3.symm, upd_ne n3.symm] at h3
    exact h3
  refine k a1 a2 a3 _ z1 z2.2 z3.2.2 z2.1 z3.1 z3.2.1 upd_same ?_ ?_ ?_ ?_
  · rw [upd_ne n1.symm, upd_ne z3.1, upd_ne n1.symm, upd_ne z2.1, upd_ne n1.symm, upd_ne n1.symm]
    exact upd_same
  · rw [upd_ne n2.symm, upd_ne z3.2.1, upd_ne n2.symm]
    exact upd_same
  · rw [upd_ne n3.symm]
    exact upd_same
  · intro b o nb e
    rw [upd_ne nb, upd_ne (ne_of_none e z3.2.2), upd_ne nb, upd_ne (ne_of_none e z2.2), upd_ne nb, upd_ne nb, upd_ne (ne_of_none e z1), upd_ne nb, upd_ne nb]
    exact e
end
theorem page_ins {C E dx L x : Addr} {H : Hp} {fs : List (Str × V)} {o : HO} {page : List Rw} {n : Nat} (e : H x = some (.ins E dx fs)) (nx : x ≠ L) (h : PageAt C H L page n) : PageAt C (upd H x o) L page n := by
  obtain ⟨⟨⟨dy, R, e1, e2⟩, f, g⟩, ok, le⟩ := h
  have n2 : R ≠ x := fun z => by
    rw [z, e] at e2
    cases e2
  exact ⟨⟨⟨dy, R, by rw [upd_ne nx.symm]; exact e1, by rw [upd_ne n2]; exact e2⟩, f, g⟩, ok, le⟩
/-! ### a deed while its lines are taken -/
structure DS (K : PySem.W.Frag) (C D : Addr) (H H' : Hp) (L x ap ac ak : Addr) (page : List Rw) (n : Nat) (people : List Str) (cs : List CellD) (ks : List KindD) (nm : Str) (by_ : List Str) (ts : List TestD) (pick : Int) (chs : List ChangeD) (rs : List RowD) (dx ab at_ ach ar : Addr) : Prop where
  bar : Bar L H H'
  pg : PageAt C H' L page n
  hp : SqT K H' ap (people.map V.str)
  hc : Tp K H' (.ref ac) (.tuple (cs.map CellD.d))
  hk : Tp K H' (.ref ak) (.tuple (ks.map KindD.d))
  ob : H' x = some (.ins D dx (deedF nm ab at_ pick ach ar))
  hb : Tp K H' (.ref ab) (.tuple (by_.map PyData.str))
  tests : ∃ xs, H' at_ = some (.lst xs) ∧ TpAll K H' xs (ts.map TestD.d)
  changes : ∃ xs, H' ach = some (.lst xs) ∧ TpAll K H' xs (chs.map ChangeD.d)
  rows : ∃ xs, H' ar = some (.lst xs) ∧ TpAll K H' xs (rs.map (RowD.d ks))
structure DN (H : Hp) (L x at_ ach ar : Addr) : Prop where
  n1 : H at_ = none
  n2 : H ach = none
  n3 : H ar = none
  nx : H x = none
  d1 : at_ ≠ ach
  d2 : at_ ≠ ar
  d3 : ach ≠ ar
  lx : x ≠ L
section
variable {K : PySem.W.Frag} {C D : Addr} {H H' H'' : Hp} {L x ap ac ak : Addr} {page : List Rw} {n m : Nat} {people : List Str} {cs : List CellD} {ks : List KindD} {nm : Str} {by_ : List Str} {ts : List TestD} {pick : Int} {chs : List ChangeD} {rs : List RowD} {dx ab at_ ach ar : Addr}
theorem DS.step (N : DN H L x at_ ach ar) (b : Bar L H' H'') (pg : PageAt C H'' L page m) (S : DS K C D H H' L x ap ac ak page n people cs ks nm by_ ts pick chs rs dx ab at_ ach ar) : DS K C D H H'' L x ap ac ak page m people cs ks nm by_ ts pick chs rs dx ab at_ ach ar := by
  obtain ⟨dy, R, hL⟩ := S.pg.at
  have keep : ∀ {a : Addr} {xs : List V}, H' a = some (.lst xs) → H'' a = some (.lst xs) := fun {a xs} e => b a _ (fun z => by rw [z, hL] at e; cases e) e
  obtain ⟨x1, e1, t1⟩ := S.tests
  obtain ⟨x2, e2, t2⟩ := S.changes
  obtain ⟨x3, e3, t3⟩ := S.rows
  exact ⟨S.bar.trans b, pg, sqt_bar hL b S.hp, S.hc.bar hL b, S.hk.bar hL b, b x _ N.lx S.ob, S.hb.bar hL b, ⟨x1, keep e1, t1.bar hL b⟩, ⟨x2, keep e2, t2.bar hL b⟩, ⟨x3, keep e3, t3.bar hL b⟩⟩
theorem tests_headed (ts : List TestD) : ∀ d ∈ ts.map TestD.d, ¬ ∃ s, d = .str s := by
  intro d hd
  obtain ⟨c, _, rfl⟩ := List.mem_map.mp hd
  rintro ⟨s, e⟩
  cases e
/-- data that are no texts stand in no list of lines -/
theorem ne_rows2 {H : Hp} {xs : List V} {ds : List PyData} {page : List Rw} (hx : TpAll K H xs ds) (hd : ∀ d ∈ ds, ∃ es, d = .tuple es) (hp : page ≠ []) : xs ≠ (page.map Rw.text).map V.str := by
  intro z
  obtain ⟨r, rs, rfl⟩ := List.exists_cons_of_ne_nil hp
  cases hx with
  | nil => cases z
  | cons h t =>
    have e := (List.cons.inj z).1
    subst e
    obtain ⟨es, rfl⟩ := hd _ (List.mem_cons_self ..)
    cases h
theorem DS.tst (N : DN H L x at_ ach ar) (hp : page ≠ []) (S : DS K C D H H' L x ap ac ak page n people cs ks nm by_ ts pick chs rs dx ab at_ ach ar) {xs : List V} (e : H' at_ = some (.lst xs)) {v : V} {t : TestD} (tv : Tp K H' v t.d) :
    DS K C D H (upd H' at_ (.lst (xs ++ [v]))) L x ap ac ak page n people cs ks nm by_ (ts ++ [t]) pick chs rs dx ab at_ ach ar := by
  obtain ⟨x1, e1, t1⟩ := S.tests
  rw [e] at e1
  cases e1
  obtain ⟨x2, e2, t2⟩ := S.changes
  obtain ⟨x3, e3, t3⟩ := S.rows
  have nx : x ≠ at_ := fun z => by
    have := S.ob
    rw [z, e] at this
    cases this
  refine ⟨bar_grow N.n1 S.bar, page_lst e (ne_rows2 t1 (fun d hd => by obtain ⟨c, _, rfl⟩ := List.mem_map.mp hd; exact ⟨_, rfl⟩) hp) S.pg, sqt_lst e S.hp, S.hc.lst e, S.hk.lst e, by rw [upd_ne nx]; exact S.ob, S.hb.lst e,
    ⟨_, upd_same, ?_⟩, ⟨x2, by rw [upd_ne N.d1.symm]; exact e2, t2.lst e⟩, ⟨x3, by rw [upd_ne N.d2.symm]; exact e3, t3.lst e⟩⟩
  rw [List.map_append]
  exact TpAll.append (t1.lst e) (.cons (tv.lst e) .nil)
theorem DS.chg (N : DN H L x at_ ach ar) (hp : page ≠ []) (S : DS K C D H H' L x ap ac ak page n people cs ks nm by_ ts pick chs rs dx ab at_ ach ar) {xs : List V} (e : H' ach = some (.lst xs)) {v : V} {t : ChangeD} (tv : Tp K H' v t.d) :
    DS K C D H (upd H' ach (.lst (xs ++ [v]))) L x ap ac ak page n people cs ks nm by_ ts pick (chs ++ [t]) rs dx ab at_ ach ar := by
  obtain ⟨x1, e1, t1⟩ := S.tests
  obtain ⟨x2, e2, t2⟩ := S.changes
  rw [e] at e2
  cases e2
  obtain ⟨x3, e3, t3⟩ := S.rows
  have nx : x ≠ ach := fun z => by
    have := S.ob
    rw [z, e] at this
    cases this
  refine ⟨bar_grow N.n2 S.bar, page_lst e (ne_rows2 t2 (fun d hd => by obtain ⟨c, _, rfl⟩ := List.mem_map.mp hd; exact ⟨_, rfl⟩) hp) S.pg, sqt_lst e S.hp, S.hc.lst e, S.hk.lst e, by rw [upd_ne nx]; exact S.ob, S.hb.lst e,
    ⟨x1, by rw [upd_ne N.d1]; exact e1, t1.lst e⟩, ⟨_, upd_same, ?_⟩, ⟨x3, by rw [upd_ne N.d3.symm]; exact e3, t3.lst e⟩⟩
  rw [List.map_append]
  exact TpAll.append (t2.lst e) (.cons (tv.lst e) .nil)
theorem DS.rw (N : DN H L x at_ ach ar) (hp : page ≠ []) (S : DS K C D H H' L x ap ac ak page n people cs ks nm by_ ts pick chs rs dx ab at_ ach ar) {xs : List V} (e : H' ar = some (.lst xs)) {v : V} {t : RowD} (tv : Tp K H' v (t.d ks)) :
    DS K C D H (upd H' ar (.lst (xs ++ [v]))) L x ap ac ak page n people cs ks nm by_ ts pick chs (rs ++ [t]) dx ab at_ ach ar := by
  obtain ⟨x1, e1, t1⟩ := S.tests
  obtain ⟨x2, e2, t2⟩ := S.changes
  obtain ⟨x3, e3, t3⟩ := S.rows
  rw [e] at e3
  cases e3
  have nx : x ≠ ar := fun z => by
    have := S.ob
    rw [z, e] at this
    cases this
  refine ⟨bar_grow N.n3 S.bar, page_lst e (ne_rows2 t3 (fun d hd => by obtain ⟨c, _, rfl⟩ := List.mem_map.mp hd; exact ⟨_, rfl⟩) hp) S.pg, sqt_lst e S.hp, S.hc.lst e, S.hk.lst e, by rw [upd_ne nx]; exact S.ob, S.hb.lst e,
    ⟨x1, by rw [upd_ne N.d2]; exact e1, t1.lst e⟩, ⟨x2, by rw [upd_ne N.d3]; exact e2, t2.lst e⟩, ⟨_, upd_same, ?_⟩⟩
  rw [List.map_append]
  exact TpAll.append (t3.lst e) (.cons (tv.lst e) .nil)
end
end Hx
set_option maxRecDepth 100000
set_option maxHeartbeats 8000000
namespace Hx
open PySem PySem.Spec PyProof.Rows L2
def DeedD.ok (people : List Str) (cs : List CellD) (ks : List KindD) (d : DeedD) : Prop := nameB d.x = true ∧ ByOk people d.by_ ∧ d.ts.length ≤ 2 ∧ (∀ t ∈ d.ts, t.ok cs) ∧ 1 ≤ d.pick ∧ d.pick < 5 ∧ d.chs.length ≤ 3 ∧ (∀ t ∈ d.chs, t.ok cs d.pick) ∧ d.rs.length ≤ 2 ∧ ∀ t ∈ d.rs, t.ok people cs ks d.pick
def DeedD.rows (cs : List CellD) (ks : List KindD) (d : DeedD) : List Rw := ⟨false, ["deed", d.x]⟩ :: (byRows d.by_ ++ (d.ts.map (TestD.row cs) ++ (pickRows d.pick ++ (d.chs.map (ChangeD.row cs) ++ d.rs.map (RowD.row cs ks)))))
/-- a deed stands at p -/
structure DeedAt (K : PySem.W.Frag) (D : Addr) (H : Hp) (p : Addr) (people : List Str) (ks : List KindD) (d : DeedD) (N : Addr → Prop) : Prop where
  ex : ∃ dx ab at_ ach ar, (N at_ ∧ N ach ∧ N ar) ∧ H p = some (.ins D dx (deedF d.x ab at_ d.pick ach ar)) ∧ Tp K H (.ref ab) (.tuple ((byOf people d.by_).map PyData.str)) ∧ (∃ xs, H at_ = some (.lst xs) ∧ TpAll K H xs (d.ts.map TestD.d)) ∧ (∃ xs, H ach = some (.lst xs) ∧ TpAll K H xs (d.chs.map ChangeD.d)) ∧
    ∃ xs, H ar = some (.lst xs) ∧ TpAll K H xs (d.rs.map (RowD.d ks))
theorem next_no {page : List Rw} {m : Nat} {R : List Rw} {ws xs : List Str} (h : At page m (R ++ [⟨false, ws⟩])) (hR : ∀ r ∈ R, nextB r.ws xs = false) : nextP page m 1 xs = false := by
  cases R with
  | nil => exact next_flat h.head
  | cons r rs =>
    have e := h.head
    unfold nextP aheadP
    rw [e]
    have := hR r (List.mem_cons_self ..)
    obtain ⟨rd, rws⟩ := r
    cases rd with
    | false => rfl
    | true => exact this
theorem test_next {cs : List CellD} {t : TestD} : nextB (t.row cs).ws ["if"] = true ∧ ∀ xs : List Str, ("if" : Str) ∉ xs → nextB (t.row cs).ws xs = false := ⟨by simp [TestD.row, nextB], fun xs h => decide_eq_false h⟩
theorem pick_next {pick : Int} : ∀ r ∈ pickRows pick, ∀ xs : List Str, ("pick" : Str) ∉ xs → nextB r.ws xs = false := by
  intro r hr xs h
  unfold pickRows at hr
  split at hr
  · cases hr
  · rw [List.mem_singleton.mp hr]
    exact decide_eq_false h
theorem change_next {cs : List CellD} {t : ChangeD} : nextB (t.row cs).ws ["set", "add"] = true ∧ ∀ xs : List Str, ("set" : Str) ∉ xs → ("add" : Str) ∉ xs → nextB (t.row cs).ws xs = false := by
  obtain ⟨a, j, s⟩ := t
  refine ⟨?_, fun xs h1 h2 => ?_⟩
  · show decide (verb a ∈ (["set", "add"] : List Str)) = true
    cases a <;> decide +kernel
  · show decide (verb a ∈ xs) = false
    cases a
    · exact decide_eq_false h1
    · exact decide_eq_false h2
theorem row_next {cs : List CellD} {ks : List KindD} {t : RowD} : nextB (t.row cs ks).ws ["row"] = true ∧ ∀ xs : List Str, ("row" : Str) ∉ xs → nextB (t.row cs ks).ws xs = false := ⟨by simp [RowD.row, nextB], fun xs h => decide_eq_false h⟩
theorem At.cast {page : List Rw} {n m : Nat} {rs : List Rw} (h : At page n rs) (e : n = m) : At page m rs := e ▸ h
section
variable {P : Program} {w : World} {K : PySem.W.Frag} {mg : Str → Option Value} {base : Heap} {C D fI : Addr}
def spDeed (C D : Addr) (K : PySem.W.Frag) : Sp := fun vs H Q _ => ∃ (L ap ac ak aN : Addr) (page : List Rw) (n : Nat) (people : List Str) (cs : List CellD) (ks : List KindD) (names : List Str) (d : DeedD) (ws : List Str), vs = [.ref L, .ref ap, .ref ac, .ref ak, .ref aN] ∧ PageAt C H L page n ∧ CellsOk cs ∧
  SqT K H ap (people.map V.str) ∧ people.length ≤ 3 ∧ Tp K H (.ref ac) (.tuple (cs.map CellD.d)) ∧ Tp K H (.ref ak) (.tuple (ks.map KindD.d)) ∧ ks.length ≤ 3 ∧ (ks.map (·.x)).Nodup ∧ d.ok people cs ks ∧ SqL K H aN (names.map V.str) ∧ d.x ∉ names ∧ At page n (d.rows cs ks ++ [⟨false, ws⟩]) ∧
  ∀ p H', Bar L H H' → PageAt C H' L page (n + (d.rows cs ks).length) → DeedAt K D H' p people ks d (fun a => H a = none) → H p = none → Q (.ref p) H'
theorem scDeed : FnScope ["lines", "people", "cells", "kinds", "names", "name", "deed"] ["lines", "people", "cells", "kinds", "names"] (defScope sTakeDeed) := ⟨rfl, rfl, rfl, by decide +kernel, rfl, by decide +kernel, by decide +kernel⟩
theorem ok_deed {f : Addr} {fd fdI : FuncData} (F : Fun K "take_deed" "take_deed" sTakeDeed f fd) (T : Ln P w K mg base C) (DT : DTxt K mg D fI) (GI : FnOk P w K mg base CX0 1 fI fdI ["self", "name", "by"] (spDeedI D)) (bI : Binds K fdI ["self", "name", "by"] [])
    (TB : DefOk P w K mg base "take_by" 3 ["lines", "people"] (spBy C K)) (TT : DefOk P w K mg base "take_test" 4 ["lines", "cells"] (spTest C K)) (TPk : DefOk P w K mg base "take_pick" 4 ["lines"] (spPick C)) (TCh : DefOk P w K mg base "take_change" 4 ["lines", "cells", "pick"] (spChange C K))
    (TR : DefOk P w K mg base "take_row" 3 ["lines", "people", "cells", "kinds", "pick"] (spRow C K)) : FnOk P w K mg base CX0 5 f fd ["lines", "people", "cells", "kinds", "names"] (spDeed C D K) := by
  refine F.ok scDeed (fun vs H Q E h => ?_) (fun cdv A outer s H vs Q E hr h => ?_)
  · obtain ⟨L, ap, ac, ak, aN, page, n, people, cs, ks, names, d, ws, rfl, _⟩ := h
    rfl
  obtain ⟨L, ap, ac, ak, aN, page, n, people, cs, ks, names, ⟨nm, by_, ts, pick, chs, rs⟩, ws, rfl, pa, cok, hp, p3, hc, hk, k3, knd, ⟨o1, o2, o3, o4, o5, o6, o7, o8, o9, o10⟩, hN, hin, at_, k⟩ := h
  have nd := scDeed.nd
  have hr3 : Room 3 (A.deeper (envOfC "take_deed" (defScope sTakeDeed) s.heap.objs.size f cdv)) := hr.mono (by decide)
  have hr2 : Room 2 (A.deeper (envOfC "take_deed" (defScope sTakeDeed) s.heap.objs.size f cdv)) := hr.mono (by decide)
  refine ⟨_, pss_cons (ps_set (i := 5) nd rfl (.inl rfl) (pe_M (pv 0) T.T.cl T.newName hr2 (pa_cons (pe_ix ix_list (pe_M (pv 0) T.T.cl T.exactly_ hr3 (pa_cons pe_int (pa_cons (pe_tup (pa_cons pe_str pa_nil)) (pa_cons pe_int pa_nil)))) pe_int (fun _ _ => rfl)) (pa_cons (pv 4) pa_nil))))
    (pss_cons (ps_set (i := 6) nd rfl (.inl rfl) (pe_make DT.maker GI hr2 rfl DT.mgD bI .nil pass0 (pa_cons (pv 5) (pa_cons (pe_D TB hr3 rfl (pa_cons (pv 0) (pa_cons (pv 1) pa_nil))) pa_nil))))
    (pss_cons (ps_while PassesOwn.never (pt_val (pe_M (pv 0) T.T.cl T.more hr3 (pa_cons pe_int (pa_cons (pe_tup (pa_cons pe_str pa_nil)) (pa_cons (pe_fld (pv 6) rfl) (pa_cons pe_int (pa_cons pe_int pa_nil)))))))
      (pss_one (ps_expr (pe_bm PySem.F.plainAttrs_list PySem.F.slot_list_append PySem.F.type_list_append mt_append (pe_fld (pv 6) rfl) (pa_cons (pe_D TT hr rfl (pa_cons (pv 0) (pa_cons (pv 2) pa_nil))) pa_nil)))))
    (pss_cons (ps_fld (pv 6) (pe_D TPk hr rfl (pa_cons (pv 0) pa_nil)) rfl)
    (pss_cons (ps_while PassesOwn.never (pt_val (pe_M (pv 0) T.T.cl T.more hr3 (pa_cons pe_int (pa_cons (pe_tup (pa_cons pe_str (pa_cons pe_str pa_nil))) (pa_cons (pe_fld (pv 6) rfl) (pa_cons pe_int (pa_cons pe_int pa_nil)))))))
      (pss_one (ps_expr (pe_bm PySem.F.plainAttrs_list PySem.F.slot_list_append PySem.F.type_list_append mt_append (pe_fld (pv 6) rfl) (pa_cons (pe_D TCh hr rfl (pa_cons (pv 0) (pa_cons (pv 2) (pa_cons (pe_fld (pv 6) rfl) pa_nil)))) pa_nil)))))
    (pss_cons (ps_while PassesOwn.never (pt_val (pe_M (pv 0) T.T.cl T.more hr3 (pa_cons pe_int (pa_cons (pe_tup (pa_cons pe_str pa_nil)) (pa_cons (pe_fld (pv 6) rfl) (pa_cons pe_int (pa_cons pe_int pa_nil)))))))
      (pss_one (ps_expr (pe_bm PySem.F.plainAttrs_list PySem.F.slot_list_append PySem.F.type_list_append mt_append (pe_fld (pv 6) rfl) (pa_cons (pe_D TR hr3 rfl (pa_cons (pv 0) (pa_cons (pv 1) (pa_cons (pv 2) (pa_cons (pv 3) (pa_cons (pe_fld (pv 6) rfl) pa_nil)))))) pa_nil)))))
    (pss_one (ps_ret (pv 6)))))))), ?_⟩
  -- what stands where
  have pne : page ≠ [] := page_ne at_.head
  have at1 : At page (n + 1) (byRows by_ ++ (ts.map (TestD.row cs) ++ (pickRows pick ++ (chs.map (ChangeD.row cs) ++ (rs.map (RowD.row cs ks) ++ [⟨false, ws⟩]))))) := by
    have z := at_.tail
    have e : byRows by_ ++ (ts.map (TestD.row cs) ++ (pickRows pick ++ (chs.map (ChangeD.row cs) ++ rs.map (RowD.row cs ks)))) ++ [(⟨false, ws⟩ : Rw)] = byRows by_ ++ (ts.map (TestD.row cs) ++ (pickRows pick ++ (chs.map (ChangeD.row cs) ++ (rs.map (RowD.row cs ks) ++ [⟨false, ws⟩])))) := by simp only [List.append_assoc]
    rw [← e]
    exact z
  have at2 := at1.right
  have at3 := at2.right
  have at4 := at3.right
  have at5 := at4.right
  rw [List.length_map] at at3 at4 at5
  rw [List.length_map] at at5
  have n_by : by_ = none → nextP page (n + 1) 1 ["by"] = false := fun z => by
    subst z
    have q : At page (n + 1) ((ts.map (TestD.row cs) ++ (pickRows pick ++ (chs.map (ChangeD.row cs) ++ rs.map (RowD.row cs ks)))) ++ [⟨false, ws⟩]) := by
      have z : At page (n + 1) (ts.map (TestD.row cs) ++ (pickRows pick ++ (chs.map (ChangeD.row cs) ++ (rs.map (RowD.row cs ks) ++ [⟨false, ws⟩])))) := at2
      simpa only [List.append_assoc] using z
    refine next_no q fun r hr => ?_
    rcases List.mem_append.mp hr with h | h
    · obtain ⟨t, _, rfl⟩ := List.mem_map.mp h
      exact test_next.2 _ (by decide +kernel)
    · rcases List.mem_append.mp h with h | h
      · exact pick_next r h _ (by decide +kernel)
      · rcases List.mem_append.mp h with h | h
        · obtain ⟨t, _, rfl⟩ := List.mem_map.mp h
          exact change_next.2 _ (by decide +kernel) (by decide +kernel)
        · obtain ⟨t, _, rfl⟩ := List.mem_map.mp h
          exact row_next.2 _ (by decide +kernel)
  have n_if : nextP page (n + 1 + (byRows by_).length + ts.length) 1 ["if"] = false := by
    have q : At page (n + 1 + (byRows by_).length + ts.length) ((pickRows pick ++ (chs.map (ChangeD.row cs) ++ rs.map (RowD.row cs ks))) ++ [⟨false, ws⟩]) := by
      simpa only [List.append_assoc] using at3
    refine next_no q fun r hr => ?_
    rcases List.mem_append.mp hr with h | h
    · exact pick_next r h _ (by decide +kernel)
    · rcases List.mem_append.mp h with h | h
      · obtain ⟨t, _, rfl⟩ := List.mem_map.mp h
        exact change_next.2 _ (by decide +kernel) (by decide +kernel)
      · obtain ⟨t, _, rfl⟩ := List.mem_map.mp h
        exact row_next.2 _ (by decide +kernel)
  have n_pick : pick = 1 → nextP page (n + 1 + (byRows by_).length + ts.length) 1 ["pick"] = false := fun z => by
    subst z
    have q : At page (n + 1 + (byRows by_).length + ts.length) ((chs.map (ChangeD.row cs) ++ rs.map (RowD.row cs ks)) ++ [⟨false, ws⟩]) := by
      have z : At page (n + 1 + (byRows by_).length + ts.length) (chs.map (ChangeD.row cs) ++ (rs.map (RowD.row cs ks) ++ [⟨false, ws⟩])) := at3
      simpa only [List.append_assoc] using z
    refine next_no q fun r hr => ?_
    rcases List.mem_append.mp hr with h | h
    · obtain ⟨t, _, rfl⟩ := List.mem_map.mp h
      exact change_next.2 _ (by decide +kernel) (by decide +kernel)
    · obtain ⟨t, _, rfl⟩ := List.mem_map.mp h
      exact row_next.2 _ (by decide +kernel)
  have n_set : nextP page (n + 1 + (byRows by_).length + ts.length + (pickRows pick).length + chs.length) 1 ["set", "add"] = false := by
    refine next_no at5 fun r h => ?_
    obtain ⟨t, _, rfl⟩ := List.mem_map.mp h
    exact row_next.2 _ (by decide +kernel)
  have n_row : nextP page (n + 1 + (byRows by_).length + ts.length + (pickRows pick).length + chs.length + rs.length) 1 ["row"] = false := by
    have q := at5.right
    rw [List.length_map] at q
    exact next_flat q.head
  have total : n + (DeedD.rows cs ks ⟨nm, by_, ts, pick, chs, rs⟩).length = n + 1 + (byRows by_).length + ts.length + (pickRows pick).length + chs.length + rs.length := by
    show n + ((byRows by_ ++ (ts.map (TestD.row cs) ++ (pickRows pick ++ (chs.map (ChangeD.row cs) ++ rs.map (RowD.row cs ks))))).length + 1) = _
    simp only [List.length_append, List.length_map]
    omega
  rw [total] at k
  clear total
  -- the name
  obtain ⟨dx0, R, hL⟩ := pa.at
  refine ⟨_, rfl, L, dx0, _, rfl, hL, rfl, _, rfl, L, dx0, _, rfl, hL, rfl, sz (by decide : 1 ≤ 1000), fun t ht => ?_⟩
  have s0 := same_new ht (.tup [.str "deed"])
  refine ⟨L, t, 0, 2, page, ["deed"], _, n, rfl, pa.same s0, .inl rfl, SqT.of upd_same, at_.head, by simp [nextB], rfl, fun q H1 b1 nq nqL e1 pa1 => ?_⟩
  have b01 := (Bar.of s0).trans b1
  refine ⟨q, _, 1, .str nm, rfl, rfl, SqL.of e1, atI_nat (j := 1) rfl, _, rfl, ?_⟩
  refine ⟨L, aN, nm, names, page.map Rw.text, n + 1, rfl, pa1.la, o1, sql_bar hL b01 hN, hin, fun H2 s2 => ?_⟩
  have pa2 := pa1.same s2
  have b02 := b01.trans (Bar.of s2)
  -- by
  refine ⟨_, rfl, _, rfl, _, rfl, ?_⟩
  refine ⟨L, ap, page, n + 1, people, by_, rfl, pa2, sqt_bar hL b02 hp, p3, o2, at1.left, n_by, fun v H3 b3 pa3 tv => ?_⟩
  obtain ⟨ab, bxs, rfl, _, _⟩ := tp_tup tv
  have b03 := b02.trans b3
  -- the deed
  obtain ⟨dy, R3, hL3⟩ := pa3.at
  intro x dx hx hdx ndx
  have nxL : x ≠ L := fun z => by
    rw [z, hL3] at hx
    cases hx
  have s3 : Same H3 (upd (upd H3 dx (.own x)) x (.ins D dx [])) := fun b o e => by
    rw [upd_ne (ne_of_none e hx), upd_ne (ne_of_none e hdx)]
    exact e
  refine ⟨x, dx, ab, nm, rfl, upd_same, fun a1 a2 a3 H4 z1 z2 z3 d1 d2 d3 ob e1 e2 e3 b4 => ⟨rfl, ?_⟩⟩
  have old : ∀ {b : Addr}, b ≠ L → (upd (upd H3 dx (.own x)) x (.ins D dx [])) b = none → H b = none := fun {b} nb e => by
    cases q : H b with
    | none => rfl
    | some o =>
      have := s3 _ _ (b03 b o nb q)
      rw [e] at this
      cases this
  have x0 : H x = none := by
    cases q : H x with
    | none => rfl
    | some o =>
      have := b03 x o nxL q
      rw [hx] at this
      cases this
  have neL : ∀ {a : Addr}, (upd (upd H3 dx (.own x)) x (.ins D dx [])) a = none → a ≠ L := fun {a} e z => by
    have := s3 _ _ hL3
    rw [← z, e] at this
    cases this
  have N : DN H L x a1 a2 a3 := ⟨old (neL z1) z1, old (neL z2) z2, old (neL z3) z3, x0, d1, d2, d3, nxL⟩
  have b34 : Same H3 H4 := fun b o e => b4 b o (ne_of_none e hx) (s3 _ _ e)
  have S0 : DS K C D H H4 L x ap ac ak page (n + 1 + (byRows by_).length) people cs ks nm (byOf people by_) [] 1 [] [] dx ab a1 a2 a3 :=
    ⟨b03.trans (Bar.of b34), pa3.same b34, same_sqt b34 (sqt_bar hL b03 hp), (hc.bar hL b03).same b34, (hk.bar hL b03).same b34, ob, tv.same b34, ⟨[], e1, .nil⟩, ⟨[], e2, .nil⟩, ⟨[], e3, .nil⟩⟩
  -- tests
  refine ⟨fun m σ H' => ∃ (j : Nat), m = ts.length - j ∧ j ≤ ts.length ∧ σ = [some (.ref L), some (.ref ap), some (.ref ac), some (.ref ak), some (.ref aN), some (.str nm), some (.ref x)] ∧ DS K C D H H' L x ap ac ak page (n + 1 + (byRows by_).length + j) people cs ks nm (byOf people by_) (ts.take j) 1 [] [] dx ab a1 a2 a3, ⟨_, 0, rfl, Nat.zero_le _, rfl, S0⟩, ?_⟩
  rintro m σ H5 ⟨j, rfl, hj, rfl, S⟩
  obtain ⟨dy, R5, hL5⟩ := S.pg.at
  obtain ⟨xs, el, tx⟩ := S.tests
  have lx : xs.length = j := by
    rw [tx.length, List.length_map, List.length_take]
    omega
  refine ⟨_, rfl, L, dy, _, rfl, hL5, rfl, sz (by decide : 1 ≤ 1000), fun t5 ht5 => ?_⟩
  have s5 := same_new ht5 (.tup [.str "if"])
  refine ⟨_, rfl, x, D, dx, _, _, rfl, s5 _ _ S.ob, DT.cl, DT.nT, rfl, ?_⟩
  refine ⟨L, t5, a1, 1, page, ["if"], _, xs, 0, 2, rfl, S.pg.same s5, .inr rfl, SqT.of upd_same, SqL.of (s5 _ _ el), fun H6 s6 => ⟨_, rfl, ?_⟩⟩
  have s56 := s5.trans s6
  have S6 := DS.step N (Bar.of s56) (S.pg.same s56) S
  by_cases hlt : j < ts.length
  · have ej : ts[j]? = some ts[j] := List.getElem?_eq_getElem hlt
    have row : page[n + 1 + (byRows by_).length + j]? = some (ts[j].row cs) := at2.left j _ (by rw [List.getElem?_map, ej] <;> rfl)
    have yes' : (decide ((xs.length : Int) < 0) || (decide ((xs.length : Int) < 2) && nextP page (n + 1 + (byRows by_).length + j) 1 ["if"])) = true := by
      have a : nextP page (n + 1 + (byRows by_).length + j) 1 ["if"] = true := by
        unfold nextP aheadP
        rw [row]
        exact test_next.1
      have o3' : ts.length ≤ 2 := o3
      rw [a, lx, decide_eq_true (by omega : (j : Int) < 2)]
      simp
    rw [yes']
    refine iteT ⟨fun σ' H' => σ' = [some (.ref L), some (.ref ap), some (.ref ac), some (.ref ak), some (.ref aN), some (.str nm), some (.ref x)] ∧ DS K C D H H' L x ap ac ak page (n + 1 + (byRows by_).length + (j + 1)) people cs ks nm (byOf people by_) (ts.take (j + 1)) 1 [] [] dx ab a1 a2 a3, ?_, ?_⟩
    · rintro σ' H' ⟨rfl, S'⟩
      exact ⟨ts.length - (j + 1), by omega, j + 1, rfl, hlt, rfl, S'⟩
    · refine ⟨_, rfl, x, D, dx, _, _, rfl, S6.ob, DT.cl, DT.nT, rfl, .inl ⟨rfl, _, SqL.of (s56 _ _ el)⟩, _, rfl, _, rfl, ?_⟩
      refine ⟨L, ac, page, _, cs, ts[j], rfl, S6.pg, cok, S6.hc, o4 _ (List.getElem_mem hlt), row, fun v H7 b7 p7 tv7 => ?_⟩
      have S7 := DS.step N b7 p7 S6
      obtain ⟨xs7, el7, tx7⟩ := S7.tests
      have lx7 : xs7.length ≤ 1000 := by
        rw [tx7.length, List.length_map, List.length_take]
        have o3' : ts.length ≤ 2 := o3
        omega
      refine ⟨a1, xs7, v, rfl, rfl, el7, small1000 lx7, rfl, ?_⟩
      have := DS.tst N pne S7 el7 tv7
      rw [List.take_add_one, ej]
      exact this
  · have e : j = ts.length := by omega
    subst e
    have no' : (decide ((xs.length : Int) < 0) || (decide ((xs.length : Int) < 2) && nextP page (n + 1 + (byRows by_).length + ts.length) 1 ["if"])) = false := by
      rw [n_if, decide_eq_false (by omega : ¬ (xs.length : Int) < 0)]
      simp
    rw [no']
    refine iteF ?_
    rw [List.take_length] at S6
    -- pick
    refine ⟨_, rfl, ?_⟩
    refine ⟨L, page, _, pick, rfl, S6.pg, o5, o6, at3.left, n_pick, fun H7 b7 p7 => ?_⟩
    have S7 := DS.step N b7 p7 S6
    refine ⟨_, rfl, x, D, dx, _, rfl, S7.ob, DT.cl, DT.nP, (by show 6 < 1000; decide), ?_⟩
    have S8 : DS K C D H (upd H7 x (.ins D dx (deedF nm ab a1 pick a2 a3))) L x ap ac ak page (n + 1 + (byRows by_).length + ts.length + (pickRows pick).length) people cs ks nm (byOf people by_) ts pick [] [] dx ab a1 a2 a3 := by
      have nlst : ∀ {a : Addr} {ys : List V}, H7 a = some (.lst ys) → a ≠ x := fun {a ys} e z => by
        have := S7.ob
        rw [← z, e] at this
        cases this
      obtain ⟨y1, f1, u1⟩ := S7.tests
      obtain ⟨y2, f2, u2⟩ := S7.changes
      obtain ⟨y3, f3, u3⟩ := S7.rows
      have t7 : ∀ {a : Addr} {ys : List V}, SqT K H7 a ys → SqT K (upd H7 x (.ins D dx (deedF nm ab a1 pick a2 a3))) a ys := fun h => sqt_upd S7.ob h
      refine ⟨bar_grow N.nx S7.bar, page_ins S7.ob nxL S7.pg, t7 S7.hp, S7.hc.map t7, S7.hk.map t7, upd_same, S7.hb.map t7, ⟨y1, by rw [upd_ne (nlst f1)]; exact f1, u1.map t7⟩, ⟨y2, by rw [upd_ne (nlst f2)]; exact f2, u2.map t7⟩, ⟨y3, by rw [upd_ne (nlst f3)]; exact f3, u3.map t7⟩⟩
    -- changes
    refine ⟨fun m σ H' => ∃ (j : Nat), m = chs.length - j ∧ j ≤ chs.length ∧ σ = [some (.ref L), some (.ref ap), some (.ref ac), some (.ref ak), some (.ref aN), some (.str nm), some (.ref x)] ∧ DS K C D H H' L x ap ac ak page (n + 1 + (byRows by_).length + ts.length + (pickRows pick).length + j) people cs ks nm (byOf people by_) ts pick (chs.take j) [] dx ab a1 a2 a3, ⟨_, 0, rfl, Nat.zero_le _, rfl, S8⟩, ?_⟩
    clear S0 S S6 S7 S8 el tx
    rintro m σ H9 ⟨j, rfl, hj, rfl, S⟩
    obtain ⟨dy, R9, hL9⟩ := S.pg.at
    obtain ⟨xs, el, tx⟩ := S.changes
    have lx : xs.length = j := by
      rw [tx.length, List.length_map, List.length_take]
      omega
    refine ⟨_, rfl, L, dy, _, rfl, hL9, rfl, sz (by decide : 2 ≤ 1000), fun t9 ht9 => ?_⟩
    have s9 := same_new ht9 (.tup [.str "set", .str "add"])
    refine ⟨_, rfl, x, D, dx, _, _, rfl, s9 _ _ S.ob, DT.cl, DT.nC, rfl, ?_⟩
    refine ⟨L, t9, a2, 1, page, ["set", "add"], _, xs, 0, 3, rfl, S.pg.same s9, .inr rfl, SqT.of upd_same, SqL.of (s9 _ _ el), fun H10 s10 => ⟨_, rfl, ?_⟩⟩
    have s910 := s9.trans s10
    have S10 := DS.step N (Bar.of s910) (S.pg.same s910) S
    have o7' : chs.length ≤ 3 := o7
    by_cases hlt : j < chs.length
    · have ej : chs[j]? = some chs[j] := List.getElem?_eq_getElem hlt
      have row : page[n + 1 + (byRows by_).length + ts.length + (pickRows pick).length + j]? = some (chs[j].row cs) := at4.left j _ (by rw [List.getElem?_map, ej] <;> rfl)
      have yes' : (decide ((xs.length : Int) < 0) || (decide ((xs.length : Int) < 3) && nextP page (n + 1 + (byRows by_).length + ts.length + (pickRows pick).length + j) 1 ["set", "add"])) = true := by
        have a : nextP page (n + 1 + (byRows by_).length + ts.length + (pickRows pick).length + j) 1 ["set", "add"] = true := by
          unfold nextP aheadP
          rw [row]
          exact change_next.1
        rw [a, lx, decide_eq_true (by omega : (j : Int) < 3)]
        simp
      rw [yes']
      refine iteT ⟨fun σ' H' => σ' = [some (.ref L), some (.ref ap), some (.ref ac), some (.ref ak), some (.ref aN), some (.str nm), some (.ref x)] ∧ DS K C D H H' L x ap ac ak page (n + 1 + (byRows by_).length + ts.length + (pickRows pick).length + (j + 1)) people cs ks nm (byOf people by_) ts pick (chs.take (j + 1)) [] dx ab a1 a2 a3, ?_, ?_⟩
      · rintro σ' H' ⟨rfl, S'⟩
        exact ⟨chs.length - (j + 1), by omega, j + 1, rfl, hlt, rfl, S'⟩
      · refine ⟨_, rfl, x, D, dx, _, _, rfl, S10.ob, DT.cl, DT.nC, rfl, .inl ⟨rfl, _, SqL.of (s910 _ _ el)⟩, _, rfl, _, rfl, _, rfl, x, D, dx, _, _, rfl, S10.ob, DT.cl, DT.nP, rfl, ?_⟩
        refine ⟨L, ac, page, _, cs, chs[j], pick, rfl, S10.pg, cok, S10.hc, o8 _ (List.getElem_mem hlt), row, fun v H11 b11 p11 tv11 => ?_⟩
        have S11 := DS.step N b11 p11 S10
        obtain ⟨xs7, el7, tx7⟩ := S11.changes
        have lx7 : xs7.length ≤ 1000 := by
          rw [tx7.length, List.length_map, List.length_take]
          omega
        refine ⟨a2, xs7, v, rfl, rfl, el7, small1000 lx7, rfl, ?_⟩
        have := DS.chg N pne S11 el7 tv11
        rw [List.take_add_one, ej]
        exact this
    · have e : j = chs.length := by omega
      subst e
      have no' : (decide ((xs.length : Int) < 0) || (decide ((xs.length : Int) < 3) && nextP page (n + 1 + (byRows by_).length + ts.length + (pickRows pick).length + chs.length) 1 ["set", "add"])) = false := by
        rw [n_set, decide_eq_false (by omega : ¬ (xs.length : Int) < 0)]
        simp
      rw [no']
      refine iteF ?_
      rw [List.take_length] at S10
      -- rows
      refine ⟨fun m σ H' => ∃ (j : Nat), m = rs.length - j ∧ j ≤ rs.length ∧ σ = [some (.ref L), some (.ref ap), some (.ref ac), some (.ref ak), some (.ref aN), some (.str nm), some (.ref x)] ∧ DS K C D H H' L x ap ac ak page (n + 1 + (byRows by_).length + ts.length + (pickRows pick).length + chs.length + j) people cs ks nm (byOf people by_) ts pick chs (rs.take j) dx ab a1 a2 a3, ⟨_, 0, rfl, Nat.zero_le _, rfl, S10⟩, ?_⟩
      clear S S10 el tx
      rintro m σ H12 ⟨j, rfl, hj, rfl, S⟩
      obtain ⟨dy, R12, hL12⟩ := S.pg.at
      obtain ⟨xs, el, tx⟩ := S.rows
      have lx : xs.length = j := by
        rw [tx.length, List.length_map, List.length_take]
        omega
      refine ⟨_, rfl, L, dy, _, rfl, hL12, rfl, sz (by decide : 1 ≤ 1000), fun tC htC => ?_⟩
      have s12 := same_new htC (.tup [.str "row"])
      refine ⟨_, rfl, x, D, dx, _, _, rfl, s12 _ _ S.ob, DT.cl, DT.nR, rfl, ?_⟩
      refine ⟨L, tC, a3, 1, page, ["row"], _, xs, 0, 2, rfl, S.pg.same s12, .inr rfl, SqT.of upd_same, SqL.of (s12 _ _ el), fun H13 s13 => ⟨_, rfl, ?_⟩⟩
      have s1213 := s12.trans s13
      have S13 := DS.step N (Bar.of s1213) (S.pg.same s1213) S
      have o9' : rs.length ≤ 2 := o9
      by_cases hlt : j < rs.length
      · have ej : rs[j]? = some rs[j] := List.getElem?_eq_getElem hlt
        have row : page[n + 1 + (byRows by_).length + ts.length + (pickRows pick).length + chs.length + j]? = some (rs[j].row cs ks) := at5.left j _ (by rw [List.getElem?_map, ej] <;> rfl)
        have yes' : (decide ((xs.length : Int) < 0) || (decide ((xs.length : Int) < 2) && nextP page (n + 1 + (byRows by_).length + ts.length + (pickRows pick).length + chs.length + j) 1 ["row"])) = true := by
          have a : nextP page (n + 1 + (byRows by_).length + ts.length + (pickRows pick).length + chs.length + j) 1 ["row"] = true := by
            unfold nextP aheadP
            rw [row]
            exact row_next.1
          rw [a, lx, decide_eq_true (by omega : (j : Int) < 2)]
          simp
        rw [yes']
        refine iteT ⟨fun σ' H' => σ' = [some (.ref L), some (.ref ap), some (.ref ac), some (.ref ak), some (.ref aN), some (.str nm), some (.ref x)] ∧ DS K C D H H' L x ap ac ak page (n + 1 + (byRows by_).length + ts.length + (pickRows pick).length + chs.length + (j + 1)) people cs ks nm (byOf people by_) ts pick chs (rs.take (j + 1)) dx ab a1 a2 a3, ?_, ?_⟩
        · rintro σ' H' ⟨rfl, S'⟩
          exact ⟨rs.length - (j + 1), by omega, j + 1, rfl, hlt, rfl, S'⟩
        · refine ⟨_, rfl, x, D, dx, _, _, rfl, S13.ob, DT.cl, DT.nR, rfl, .inl ⟨rfl, _, SqL.of (s1213 _ _ el)⟩, _, rfl, _, rfl, _, rfl, _, rfl, _, rfl, x, D, dx, _, _, rfl, S13.ob, DT.cl, DT.nP, rfl, ?_⟩
          refine ⟨L, ap, ac, ak, page, _, people, cs, ks, rs[j], pick, rfl, S13.pg, cok, S13.hp, S13.hc, S13.hk, k3, knd, o10 _ (List.getElem_mem hlt), row, fun v H14 b14 p14 tv14 => ?_⟩
          have S14 := DS.step N b14 p14 S13
          obtain ⟨xs7, el7, tx7⟩ := S14.rows
          have lx7 : xs7.length ≤ 1000 := by
            rw [tx7.length, List.length_map, List.length_take]
            omega
          refine ⟨a3, xs7, v, rfl, rfl, el7, small1000 lx7, rfl, ?_⟩
          have := DS.rw N pne S14 el7 tv14
          rw [List.take_add_one, ej]
          exact this
      · have e : j = rs.length := by omega
        subst e
        have no' : (decide ((xs.length : Int) < 0) || (decide ((xs.length : Int) < 2) && nextP page (n + 1 + (byRows by_).length + ts.length + (pickRows pick).length + chs.length + rs.length) 1 ["row"])) = false := by
          rw [n_row, decide_eq_false (by omega : ¬ (xs.length : Int) < 0)]
          simp
        rw [no']
        refine iteF ?_
        rw [List.take_length] at S13
        refine ⟨_, rfl, k x H13 S13.bar S13.pg ⟨dx, ab, a1, a2, a3, ⟨N.n1, N.n2, N.n3⟩, S13.ob, S13.hb, S13.tests, S13.changes, S13.rows⟩ x0⟩
end
end Hx
set_option maxRecDepth 100000
set_option maxHeartbeats 8000000
namespace Hx
open PySem PySem.Spec PyProof.Rows L2
theorem pe_fldK {X : Cx} (K : PySem.W.Frag) {e : Expr} {ta : TE} {f : Str} {pos : Pos} (he : PE X e ta) (hK : X.K = K := by rfl) (hb : attributeBase e f X.env (eval e X.env) = eval e X.env := by rfl) : PE X (.Attribute e f pos) (tFld K ta f) := by
  subst hK
  exact pe_fld he hb
section
variable {K : PySem.W.Frag} {D : Addr} {H H' : Hp} {p L : Addr} {people : List Str} {ks : List KindD} {d : DeedD} {N N' : Addr → Prop}
theorem DeedAt.imp (h : DeedAt K D H p people ks d N) (hn : ∀ a, N a → N' a) : DeedAt K D H p people ks d N' := by
  obtain ⟨dx, ab, a1, a2, a3, ⟨n1, n2, n3⟩, r⟩ := h.ex
  exact ⟨dx, ab, a1, a2, a3, ⟨hn _ n1, hn _ n2, hn _ n3⟩, r⟩
theorem DeedAt.same (s : Same H H') (h : DeedAt K D H p people ks d N) : DeedAt K D H' p people ks d N := by
  obtain ⟨dx, ab, a1, a2, a3, n, e, t, ⟨x1, e1, t1⟩, ⟨x2, e2, t2⟩, ⟨x3, e3, t3⟩⟩ := h.ex
  exact ⟨dx, ab, a1, a2, a3, n, s _ _ e, t.same s, ⟨x1, s _ _ e1, t1.same s⟩, ⟨x2, s _ _ e2, t2.same s⟩, ⟨x3, s _ _ e3, t3.same s⟩⟩
theorem DeedAt.bar {C dy : Addr} {fs : List (Str × V)} (eL : H L = some (.ins C dy fs)) (np : p ≠ L) (b : Bar L H H') (h : DeedAt K D H p people ks d N) : DeedAt K D H' p people ks d N := by
  obtain ⟨dx, ab, a1, a2, a3, n, e, t, ⟨x1, e1, t1⟩, ⟨x2, e2, t2⟩, ⟨x3, e3, t3⟩⟩ := h.ex
  have keep : ∀ {a : Addr} {xs : List V}, H a = some (.lst xs) → H' a = some (.lst xs) := fun {a xs} e => b a _ (fun z => by rw [z, eL] at e; cases e) e
  exact ⟨dx, ab, a1, a2, a3, n, b _ _ np e, t.bar eL b, ⟨x1, keep e1, t1.bar eL b⟩, ⟨x2, keep e2, t2.bar eL b⟩, ⟨x3, keep e3, t3.bar eL b⟩⟩
theorem DeedAt.lst {l : Addr} {ys : List V} {o : HO} (el : H l = some (.lst ys)) (h : DeedAt K D H p people ks d (· ≠ l)) : DeedAt K D (upd H l o) p people ks d (· ≠ l) := by
  obtain ⟨dx, ab, a1, a2, a3, ⟨n1, n2, n3⟩, e, t, ⟨x1, e1, t1⟩, ⟨x2, e2, t2⟩, ⟨x3, e3, t3⟩⟩ := h.ex
  have np : p ≠ l := fun z => by
    rw [z, el] at e
    cases e
  exact ⟨dx, ab, a1, a2, a3, ⟨n1, n2, n3⟩, by rw [upd_ne np]; exact e, t.lst el, ⟨x1, by rw [upd_ne n1]; exact e1, t1.lst el⟩, ⟨x2, by rw [upd_ne n2]; exact e2, t2.lst el⟩, ⟨x3, by rw [upd_ne n3]; exact e3, t3.lst el⟩⟩
end
/-- these deeds stand at these addresses -/
def Deeds (K : PySem.W.Frag) (D : Addr) (H : Hp) (L : Addr) (people : List Str) (ks : List KindD) (N : Addr → Prop) : List Addr → List DeedD → Prop
  | [], [] => True
  | p :: ps, d :: ds => DeedAt K D H p people ks d N ∧ p ≠ L ∧ Deeds K D H L people ks N ps ds
  | _, _ => False
section
variable {K : PySem.W.Frag} {D : Addr} {H H' : Hp} {L : Addr} {people : List Str} {ks : List KindD} {N : Addr → Prop}
theorem Deeds.map {N' : Addr → Prop} (f : ∀ p d, p ≠ L → DeedAt K D H p people ks d N → DeedAt K D H' p people ks d N') : ∀ {ps : List Addr} {ds : List DeedD}, Deeds K D H L people ks N ps ds → Deeds K D H' L people ks N' ps ds
  | [], [], _ => trivial
  | p :: ps, d :: ds, h => ⟨f p d h.2.1 h.1, h.2.1, Deeds.map f h.2.2⟩
theorem Deeds.len : ∀ {ps : List Addr} {ds : List DeedD}, Deeds K D H L people ks N ps ds → ps.length = ds.length
  | [], [], _ => rfl
  | _ :: _, _ :: _, h => congrArg (· + 1) (Deeds.len h.2.2)
theorem Deeds.app : ∀ {ps : List Addr} {ds : List DeedD} {p : Addr} {d : DeedD}, Deeds K D H L people ks N ps ds → DeedAt K D H p people ks d N → p ≠ L → Deeds K D H L people ks N (ps ++ [p]) (ds ++ [d])
  | [], [], _, _, _, h, n => ⟨h, n, trivial⟩
  | _ :: _, _ :: _, _, _, h, h', n => ⟨h.1, h.2.1, Deeds.app h.2.2 h' n⟩
theorem Deeds.at : ∀ {ps : List Addr} {ds : List DeedD} {i : Nat} {p : Addr}, Deeds K D H L people ks N ps ds → ps[i]? = some p → ∃ d, ds[i]? = some d ∧ DeedAt K D H p people ks d N ∧ p ≠ L
  | _ :: _, d :: _, 0, _, h, e => ⟨d, rfl, by cases e; exact h.1, by cases e; exact h.2.1⟩
  | _ :: _, _ :: _, i + 1, _, h, e => Deeds.at (i := i) h.2.2 (by simpa using e)
end
def dRows (cs : List CellD) (ks : List KindD) (ds : List DeedD) : List Rw := ds.flatMap (DeedD.rows cs ks)
theorem dRows_take {cs : List CellD} {ks : List KindD} {ds : List DeedD} {j : Nat} {d : DeedD} (e : ds[j]? = some d) : dRows cs ks (ds.take (j + 1)) = dRows cs ks (ds.take j) ++ d.rows cs ks := by
  unfold dRows
  rw [List.take_add_one, e, List.flatMap_append]
  simp
theorem dRows_split {cs : List CellD} {ks : List KindD} {ds : List DeedD} {j : Nat} {d : DeedD} (e : ds[j]? = some d) : dRows cs ks ds = dRows cs ks (ds.take j) ++ (d.rows cs ks ++ dRows cs ks (ds.drop (j + 1))) := by
  rw [← List.append_assoc, ← dRows_take e]
  unfold dRows
  rw [← List.flatMap_append, List.take_append_drop]
theorem ref_at {ps : List Addr} {i : Nat} {x : V} (h : (ps.map V.ref)[i]? = some x) : ∃ p, ps[i]? = some p ∧ x = .ref p := by
  rw [List.getElem?_map] at h
  cases e : ps[i]? with
  | none =>
    rw [e] at h
    cases h
  | some y =>
    rw [e] at h
    exact ⟨y, rfl, (Option.some.inj h).symm⟩
theorem ne_refs {ps : List Addr} {page : List Rw} (hp : page ≠ []) : ps.map V.ref ≠ (page.map Rw.text).map V.str := by
  intro z
  obtain ⟨r, rs, rfl⟩ := List.exists_cons_of_ne_nil hp
  cases ps with
  | nil => cases z
  | cons p ps =>
    have := (List.cons.inj z).1
    cases this
section
variable {P : Program} {w : World} {K : PySem.W.Frag} {mg : Str → Option Value} {base : Heap} {C D fI : Addr}
def spDeeds (C D : Addr) (K : PySem.W.Frag) : Sp := fun vs H Q _ => ∃ (L ap ac ak : Addr) (page : List Rw) (n : Nat) (people : List Str) (cs : List CellD) (ks : List KindD) (ds : List DeedD) (ws : List Str), vs = [.ref L, .ref ap, .ref ac, .ref ak] ∧ PageAt C H L page n ∧ CellsOk cs ∧
  SqT K H ap (people.map V.str) ∧ people.length ≤ 3 ∧ Tp K H (.ref ac) (.tuple (cs.map CellD.d)) ∧ Tp K H (.ref ak) (.tuple (ks.map KindD.d)) ∧ ks.length ≤ 3 ∧ (ks.map (·.x)).Nodup ∧ 1 ≤ ds.length ∧ ds.length ≤ 4 ∧ (∀ d ∈ ds, d.ok people cs ks) ∧ (ds.map (·.x)).Nodup ∧ At page n (dRows cs ks ds ++ [⟨false, ws⟩]) ∧ nextB ws ["deed"] = false ∧
  ∀ l ps H', Bar L H H' → PageAt C H' L page (n + (dRows cs ks ds).length) → H' l = some (.lst (ps.map V.ref)) → Deeds K D H' L people ks (fun _ => True) ps ds → Q (.ref l) H'
theorem scDeeds : FnScope ["lines", "people", "cells", "kinds", "deeds", "deed"] ["lines", "people", "cells", "kinds"] (defScope sTakeDeeds) := ⟨rfl, rfl, rfl, by decide +kernel, rfl, by decide +kernel, by decide +kernel⟩
theorem ok_deeds {f : Addr} {fd : FuncData} (F : Fun K "take_deeds" "take_deeds" sTakeDeeds f fd) (T : Ln P w K mg base C) (DT : DTxt K mg D fI) (TD : DefOk P w K mg base "take_deed" 5 ["lines", "people", "cells", "kinds", "names"] (spDeed C D K)) : FnOk P w K mg base CX0 6 f fd ["lines", "people", "cells", "kinds"] (spDeeds C D K) := by
  refine F.ok scDeeds (fun vs H Q E h => ?_) (fun cdv A outer s H vs Q E hr h => ?_)
  · obtain ⟨L, ap, ac, ak, page, n, people, cs, ks, ds, ws, rfl, _⟩ := h
    rfl
  obtain ⟨L, ap, ac, ak, page, n, people, cs, ks, ds, ws, rfl, pa, cok, hp, p3, hc, hk, k3, knd, d1, d4, dok, dnd, at_, endw, k⟩ := h
  have nd := scDeeds.nd
  have hr3 : Room 3 (A.deeper (envOfC "take_deeds" (defScope sTakeDeeds) s.heap.objs.size f cdv)) := hr.mono (by decide)
  refine ⟨_, pss_cons (ps_set (i := 4) nd rfl (.inl rfl) (pe_lst pa_nil))
    (pss_cons (ps_while PassesOwn.never (pt_val (pe_M (pv 0) T.T.cl T.more hr3 (pa_cons pe_int (pa_cons (pe_tup (pa_cons pe_str pa_nil)) (pa_cons (pv 4) (pa_cons pe_int (pa_cons pe_int pa_nil)))))))
      (pss_one (ps_expr (pe_bm PySem.F.plainAttrs_list PySem.F.slot_list_append PySem.F.type_list_append mt_append (pv 4) (pa_cons (pe_D TD hr rfl (pa_cons (pv 0) (pa_cons (pv 1) (pa_cons (pv 2) (pa_cons (pv 3) (pa_cons
        (pe_lc (own := [("deed", 5)]) (g := gName 5) (tt := tYes) rfl nd (pi_list (pv 4)) (blkOk_by (N := ["lines", "people", "cells", "kinds", "deeds", "deed"]) (sc := defScope sTakeDeeds) (by decide +kernel)) (fun _ _ _ _ _ => pg_name (i := 5) nd rfl (Or.inl rfl)) (fun _ _ _ _ _ => pts_nil) (fun _ _ _ _ _ => pe_fldK K (pv 5))) pa_nil)))))) pa_nil)))))
    (pss_one (ps_ret (pv 4)))), ?_⟩
  refine ⟨sz (by decide : 0 ≤ 1000), fun l hl => ?_⟩
  have hlL : l ≠ L := fun z => by
    obtain ⟨dx, R, e⟩ := pa.at
    rw [z, e] at hl
    cases hl
  have s0 := same_new hl (.lst [])
  have pne : page ≠ [] := by
    cases dss : ds with
    | nil =>
      rw [dss] at d1
      cases d1
    | cons d r =>
      rw [dss] at at_
      exact page_ne (show page[n]? = some ⟨false, ["deed", d.x]⟩ from at_.head)
  refine ⟨fun m σ H' => ∃ (j : Nat) (ps : List Addr), m = ds.length - j ∧ j ≤ ds.length ∧ σ = [some (.ref L), some (.ref ap), some (.ref ac), some (.ref ak), some (.ref l), none] ∧ Bar L H H' ∧ PageAt C H' L page (n + (dRows cs ks (ds.take j)).length) ∧ SqT K H' ap (people.map V.str) ∧ Tp K H' (.ref ac) (.tuple (cs.map CellD.d)) ∧ Tp K H' (.ref ak) (.tuple (ks.map KindD.d)) ∧
    H' l = some (.lst (ps.map V.ref)) ∧ Deeds K D H' L people ks (· ≠ l) ps (ds.take j), ⟨_, 0, [], rfl, Nat.zero_le _, rfl, Bar.of s0, pa.same s0, same_sqt s0 hp, hc.same s0, hk.same s0, upd_same, trivial⟩, ?_⟩
  rintro m σ H' ⟨j, ps, rfl, hj, rfl, b, pj, hp', hc', hk', el, tx⟩
  obtain ⟨dx, R, hL⟩ := pj.at
  have lx : (ps.map V.ref).length = j := by
    rw [List.length_map, tx.len, List.length_take]
    omega
  refine ⟨_, rfl, L, dx, _, rfl, hL, rfl, sz (by decide : 1 ≤ 1000), fun t ht => ?_⟩
  have s1 := same_new ht (.tup [.str "deed"])
  have el1 := s1 _ _ el
  refine ⟨_, rfl, L, t, l, 0, page, ["deed"], _, _, 1, 4, rfl, pj.same s1, .inl rfl, SqT.of upd_same, SqL.of el1, fun H2 s2 => ⟨_, rfl, ?_⟩⟩
  have s12 := s1.trans s2
  have el2 := s2 _ _ el1
  by_cases hlt : j < ds.length
  · have ej : ds[j]? = some ds[j] := List.getElem?_eq_getElem hlt
    have eB := dRows_split (cs := cs) (ks := ks) ej
    have rows : At page (n + (dRows cs ks (ds.take j)).length) (ds[j].rows cs ks ++ (dRows cs ks (ds.drop (j + 1)) ++ [⟨false, ws⟩])) := by
      rw [eB, List.append_assoc, List.append_assoc] at at_
      exact at_.right
    have row : page[n + (dRows cs ks (ds.take j)).length]? = some ⟨false, ["deed", ds[j].x]⟩ := rows.left.head
    have yes' : (decide (((ps.map V.ref).length : Int) < 1) || (decide (((ps.map V.ref).length : Int) < 4) && nextP page (n + (dRows cs ks (ds.take j)).length) 0 ["deed"])) = true := by
      have a : nextP page (n + (dRows cs ks (ds.take j)).length) 0 ["deed"] = true := by
        unfold nextP aheadP
        rw [row]
        rfl
      rw [a, lx, decide_eq_true (by omega : (j : Int) < 4)]
      simp
    rw [yes']
    have e1 : n + (dRows cs ks (ds.take j)).length + (ds[j].rows cs ks).length = n + (dRows cs ks (ds.take (j + 1))).length := by
      rw [dRows_take ej, List.length_append, Nat.add_assoc]
    -- the line behind this deed does not stand deeper
    obtain ⟨ws2, behind⟩ : ∃ ws2, At page (n + (dRows cs ks (ds.take j)).length) (ds[j].rows cs ks ++ [⟨false, ws2⟩]) := by
      have two : ∃ ws2 rest, dRows cs ks (ds.drop (j + 1)) ++ [(⟨false, ws⟩ : Rw)] = [⟨false, ws2⟩] ++ rest := by
        cases q : ds.drop (j + 1) with
        | nil => exact ⟨ws, [], rfl⟩
        | cons d r => exact ⟨["deed", d.x], _, rfl⟩
      obtain ⟨ws2, rest, e⟩ := two
      rw [e, ← List.append_assoc] at rows
      exact ⟨ws2, rows.left⟩
    refine iteT ⟨fun σ' H3 => ∃ (ps : List Addr), σ' = [some (.ref L), some (.ref ap), some (.ref ac), some (.ref ak), some (.ref l), none] ∧ Bar L H H3 ∧ PageAt C H3 L page (n + (dRows cs ks (ds.take (j + 1))).length) ∧ SqT K H3 ap (people.map V.str) ∧ Tp K H3 (.ref ac) (.tuple (cs.map CellD.d)) ∧ Tp K H3 (.ref ak) (.tuple (ks.map KindD.d)) ∧
      H3 l = some (.lst (ps.map V.ref)) ∧ Deeds K D H3 L people ks (· ≠ l) ps (ds.take (j + 1)), ?_, ?_⟩
    · rintro σ' H3 ⟨qs, rfl, b3, p3', h3, c3, k3', e3, t3⟩
      exact ⟨ds.length - (j + 1), by omega, j + 1, qs, rfl, hlt, rfl, b3, p3', h3, c3, k3', e3, t3⟩
    · refine ⟨_, rfl, .inl ⟨rfl, _, SqL.of el2⟩, _, rfl, _, rfl, _, rfl, _, rfl, ?_⟩
      have tx2 : Deeds K D H2 L people ks (· ≠ l) ps (ds.take j) := tx.map fun p d _ h => h.same s12
      refine ⟨_, rfl, l, rfl, ⟨_, SqL.of el2⟩, fun G hG => lc_list (xs := ps.map V.ref) (fun i H3 => Same H2 H3 ∧ H3 G = some (.lst (((ds.take i).map (·.x)).map V.str))) ⟨same_new hG _, by rw [upd_same]; rfl⟩ (fun i H3 _ z => SqL.of (z.1 _ _ el2)) ?_ ?_⟩
      · rintro i x H3 hi ⟨sm, eG⟩
        obtain ⟨p, ep, rfl⟩ := ref_at hi
        obtain ⟨d, ed, da, _⟩ := tx2.at ep
        have da3 := da.same sm
        obtain ⟨dx3, ab, a1, a2, a3, _, ob, _⟩ := da3.ex
        rw [List.getElem?_take] at ed
        have hij : i < j := by
          by_cases z : i < j
          · exact z
          · rw [if_neg z] at ed
            cases ed
        rw [if_pos hij] at ed
        refine ⟨set2, yes ⟨_, get_same (by show 5 < 6; decide), p, D, dx3, _, _, rfl, ob, DT.cl, DT.nN, rfl, _, eG, ?_, same_grow hG sm, ?_⟩⟩
        · rw [List.length_map, List.length_map, List.length_take]
          exact small1000 (by omega)
        · rw [upd_same, List.take_add_one, ed, List.map_append, List.map_append]
          rfl
      · rintro H3 ⟨sm, eG⟩
        rw [lx] at eG
        have p3' := (pj.same s12).same sm
        have nin : ds[j].x ∉ (ds.take j).map (·.x) := not_in_take (f := fun d : DeedD => d.x) dnd ej
        refine ⟨L, ap, ac, ak, G, page, _, people, cs, ks, _, ds[j], ws2, rfl, p3', cok, same_sqt (s12.trans sm) hp', p3, hc'.same (s12.trans sm), hk'.same (s12.trans sm), k3, knd, dok _ (List.getElem_mem hlt), SqL.of eG, nin, behind, fun p H4 b4 p4 da np => ?_⟩
        have el3 := sm _ _ el2
        have el4 := b4 l _ hlL el3
        obtain ⟨dz, Rz, hL3⟩ := p3'.at
        have npL : p ≠ L := fun z => by
          rw [z, hL3] at np
          cases np
        have bb : Bar L H H4 := (b.trans (Bar.of (s12.trans sm))).trans b4
        rw [e1] at p4
        have tx4 : Deeds K D H4 L people ks (· ≠ l) ps (ds.take j) := tx2.map fun p d n h => (h.same sm).bar hL3 n b4
        have da4 : DeedAt K D H4 p people ks ds[j] (· ≠ l) := da.imp fun a z e => by
          rw [e, el3] at z
          cases z
        refine ⟨l, ps.map V.ref, .ref p, rfl, rfl, el4, small1000 (by omega), ?_⟩
        have sq4 : ∀ {a : Addr} {xs : List V}, SqT K H2 a xs → SqT K (upd H4 l (.lst (ps.map V.ref ++ [.ref p]))) a xs := fun h => sqt_lst el4 (sqt_bar hL3 b4 (same_sqt sm h))
        refine ⟨ps ++ [p], rfl, bar_grow hl bb, page_lst el4 (ne_refs pne) p4, sq4 (same_sqt s12 hp'), (hc'.same s12).map sq4, (hk'.same s12).map sq4, ?_, ?_⟩
        · rw [List.map_append]
          exact upd_same
        · rw [List.take_add_one, ej]
          exact (tx4.map fun p d _ h => h.lst el4).app (da4.lst el4) npL
  · have e : j = ds.length := by omega
    subst e
    rw [List.take_length] at tx
    have no' : (decide (((ps.map V.ref).length : Int) < 1) || (decide (((ps.map V.ref).length : Int) < 4) && nextP page (n + (dRows cs ks (ds.take ds.length)).length) 0 ["deed"])) = false := by
      have a : nextP page (n + (dRows cs ks (ds.take ds.length)).length) 0 ["deed"] = false := by
        rw [List.take_length]
        have z := at_.right.head
        unfold nextP aheadP
        rw [z]
        exact endw
      rw [a, lx, decide_eq_false (by omega : ¬ (ds.length : Int) < 1)]
      simp
    rw [no']
    refine iteF ?_
    rw [List.take_length] at pj
    exact ⟨_, rfl, k l ps H2 (b.trans (Bar.of s12)) (pj.same s12) el2 (tx.map fun p d _ h => (h.same s12).imp fun _ _ => trivial)⟩
end
end Hx
set_option maxRecDepth 100000
set_option maxHeartbeats 4000000
/-! sorted, of a list of rows of numbers and texts of any lengths. -/
namespace Hx
open PySem PySem.Spec PyProof.Rows L2
/-- lists one before the other, place by place -/
def lexL {α : Type} (lt : α → α → Bool) : List α → List α → Bool
  | [], [] => false
  | [], _ :: _ => true
  | _ :: _, [] => false
  | x :: xs, y :: ys => lt x y || (!lt y x && lexL lt xs ys)
theorem lexL_asym {α : Type} {lt : α → α → Bool} (O : SrtO.Swo lt) : ∀ xs ys : List α, lexL lt xs ys = true → lexL lt ys xs = false
  | [], [], h => by cases h
  | [], _ :: _, _ => rfl
  | _ :: _, [], h => by cases h
  | x :: xs, y :: ys, h => by
    unfold lexL at h ⊢
    cases e : lt x y with
    | true => rw [O.asym x y e]; rfl
    | false =>
      rw [e] at h
      cases e2 : lt y x with
      | true => rw [e2] at h; cases h
      | false =>
        rw [e2] at h
        have := lexL_asym O xs ys (by simpa using h)
        rw [this]
        rfl
theorem lexL_no {α : Type} {lt : α → α → Bool} {x y : α} {xs ys : List α} : lexL lt (x :: xs) (y :: ys) = false ↔ lt x y = false ∧ (lt y x = true ∨ lexL lt xs ys = false) := by
  show (lt x y || (!lt y x && lexL lt xs ys)) = false ↔ _
  cases lt x y <;> cases lt y x <;> simp
theorem lexL_tr {α : Type} {lt : α → α → Bool} (O : SrtO.Swo lt) : ∀ xs ys zs : List α, lexL lt ys xs = false → lexL lt zs ys = false → lexL lt zs xs = false
  | [], _, [], _, _ => rfl
  | [], _, _ :: _, _, _ => rfl
  | _ :: _, [], _, h, _ => by cases h
  | _ :: _, _ :: _, [], _, h => by cases h
  | a :: x, b :: y, c :: z, h1, h2 => by
    obtain ⟨p1, p2⟩ := lexL_no.mp h1
    obtain ⟨q1, q2⟩ := lexL_no.mp h2
    refine lexL_no.mpr ⟨O.tr a b c p1 q1, ?_⟩
    rcases p2 with p2 | p2
    · exact .inl (O.ltle p2 q1)
    · rcases q2 with q2 | q2
      · exact .inl (O.lelt p1 q2)
      · exact .inr (lexL_tr O x y z p2 q2)
theorem lexL_swo {α : Type} {lt : α → α → Bool} (O : SrtO.Swo lt) : SrtO.Swo (lexL lt) := ⟨lexL_asym O, lexL_tr O⟩
theorem swo_by {α β : Type} {lt : β → β → Bool} (O : SrtO.Swo lt) (f : α → β) : SrtO.Swo fun x y => lt (f x) (f y) := ⟨fun x y => O.asym (f x) (f y), fun x y z => O.tr (f x) (f y) (f z)⟩
def ltI (x y : Int) : Bool := decide (x < y)
theorem ltI_swo : SrtO.Swo ltI := by
  constructor
  · intro x y h
    have := of_decide_eq_true (p := x < y) h
    exact decide_eq_false (p := y < x) (by omega)
  · intro x y z h1 h2
    have a := of_decide_eq_false (p := y < x) h1
    have b := of_decide_eq_false (p := z < y) h2
    exact decide_eq_false (p := z < x) (by omega)
/-- a value's place in an order of all values -/
def codeV : V → List Int
  | .int i => [0, i]
  | .str x => 1 :: x.cps.toList.map Int.ofNat
  | _ => [2]
def ordV (x y : V) : Bool := lexL ltI (codeV x) (codeV y)
theorem ordV_swo : SrtO.Swo ordV := swo_by (lexL_swo ltI_swo) codeV
def ordR : List V → List V → Bool := lexL ordV
theorem ordR_swo : SrtO.Swo ordR := lexL_swo ordV_swo
theorem lex_nat : ∀ xs ys : List Nat, lexL ltI (xs.map Int.ofNat) (ys.map Int.ofNat) = decide (xs < ys)
  | [], [] => (decide_eq_false (List.not_lt_nil _)).symm
  | [], y :: ys => (decide_eq_true (List.nil_lt_cons _ _)).symm
  | x :: xs, [] => (decide_eq_false (List.not_lt_nil _)).symm
  | x :: xs, y :: ys => by
    show (decide ((x : Int) < (y : Int)) || (!decide ((y : Int) < (x : Int)) && lexL ltI (xs.map Int.ofNat) (ys.map Int.ofNat))) = _
    rw [lex_nat xs ys]
    rw [Bool.eq_iff_iff]
    simp only [Bool.or_eq_true, Bool.and_eq_true, Bool.not_eq_true', decide_eq_true_eq, decide_eq_false_iff_not]
    rw [List.cons_lt_cons_iff]
    constructor
    · rintro (h | ⟨h1, h2⟩)
      · exact .inl (by omega)
      · by_cases e : x = y
        · exact .inr ⟨e, h2⟩
        · exact .inl (by omega)
    · rintro (h | ⟨rfl, h2⟩)
      · exact .inl (by omega)
      · exact .inr ⟨by omega, h2⟩
/-- one before the other: numbers before texts, numbers by size, texts by their signs -/
def itLt : V → V → Bool
  | .int i, .int j => decide (i < j)
  | .str x, .str y => decide (x.cps.toList < y.cps.toList)
  | _, _ => false
def rowLt : List V → List V → Bool
  | [], [] => false
  | [], _ :: _ => true
  | _ :: _, [] => false
  | x :: xs, y :: ys => itLt x y || (decide (x = y) && rowLt xs ys)
/-- an item of the kind that its place asks: a text where shape says so, else a number -/
def fitsAt (shape : Nat → Bool) : Nat → List V → Bool
  | _, [] => true
  | k, .int _ :: r => !shape k && fitsAt shape (k + 1) r
  | k, .str _ :: r => shape k && fitsAt shape (k + 1) r
  | _, _ :: _ => false
theorem fits_case {shape : Nat → Bool} {k : Nat} {x : V} {xs : List V} (h : fitsAt shape k (x :: xs) = true) : fitsAt shape (k + 1) xs = true ∧ ((∃ i, x = .int i ∧ shape k = false) ∨ ∃ t, x = .str t ∧ shape k = true) := by
  cases x <;> first | (unfold fitsAt at h; cases h; done) | skip
  · rename_i i
    have h' : (!shape k && fitsAt shape (k + 1) xs) = true := h
    cases e : shape k with
    | true => rw [e] at h'; cases h'
    | false =>
      rw [e] at h'
      exact ⟨h', .inl ⟨i, rfl, rfl⟩⟩
  · rename_i t
    have h' : (shape k && fitsAt shape (k + 1) xs) = true := h
    cases e : shape k with
    | false => rw [e] at h'; cases h'
    | true =>
      rw [e] at h'
      exact ⟨h', .inr ⟨t, rfl, rfl⟩⟩
theorem ord_int (i j : Int) : ordV (.int i) (.int j) = decide (i < j) := by
  show (decide ((0 : Int) < 0) || (!decide ((0 : Int) < 0) && (decide (i < j) || (!decide (j < i) && false)))) = _
  simp
theorem ord_str (x y : Str) : ordV (.str x) (.str y) = decide (x.cps.toList < y.cps.toList) := by
  rw [← lex_nat]
  show (decide ((1 : Int) < 1) || (!decide ((1 : Int) < 1) && lexL ltI (x.cps.toList.map Int.ofNat) (y.cps.toList.map Int.ofNat))) = _
  simp
theorem str_toList {x y : Str} (h : x.cps.toList = y.cps.toList) : x = y := by
  cases x
  cases y
  exact congrArg Str.mk (Array.toList_inj.mp h)
theorem nat_tri : ∀ xs ys : List Nat, ¬ xs < ys → ¬ ys < xs → xs = ys
  | [], [], _, _ => rfl
  | [], y :: ys, h, _ => absurd (List.nil_lt_cons y ys) h
  | x :: xs, [], _, h => absurd (List.nil_lt_cons x xs) h
  | x :: xs, y :: ys, h1, h2 => by
    rw [List.cons_lt_cons_iff] at h1 h2
    have e : x = y := by
      rcases Nat.lt_trichotomy x y with z | z | z
      · exact absurd (.inl z) h1
      · exact z
      · exact absurd (.inl z) h2
    subst e
    rw [nat_tri xs ys (fun z => h1 (.inr ⟨rfl, z⟩)) fun z => h2 (.inr ⟨rfl, z⟩)]
theorem rowLt_ord {shape : Nat → Bool} : ∀ {k : Nat} {xs ys : List V}, fitsAt shape k xs = true → fitsAt shape k ys = true → rowLt xs ys = ordR xs ys
  | _, [], [], _, _ => rfl
  | _, [], _ :: _, _, _ => rfl
  | _, _ :: _, [], _, _ => rfl
  | k, x :: xs, y :: ys, hx, hy => by
    obtain ⟨fx, cx⟩ := fits_case hx
    obtain ⟨fy, cy⟩ := fits_case hy
    have ih := rowLt_ord fx fy
    show (itLt x y || (decide (x = y) && rowLt xs ys)) = (ordV x y || (!ordV y x && ordR xs ys))
    rw [ih]
    rcases cx with ⟨i, rfl, s1⟩ | ⟨t, rfl, s1⟩ <;> rcases cy with ⟨j, rfl, s2⟩ | ⟨u, rfl, s2⟩
    · rw [ord_int, ord_int]
      show (decide (i < j) || _) = _
      by_cases h : i < j
      · rw [decide_eq_true h]; rfl
      · rw [decide_eq_false h]
        by_cases e : i = j
        · subst e
          rw [decide_eq_true rfl, decide_eq_false h]
          rfl
        · rw [decide_eq_false (fun z => e (V.int.inj z)), decide_eq_true (show j < i by omega)]
          rfl
    · rw [s1] at s2; cases s2
    · rw [s1] at s2; cases s2
    · rw [ord_str, ord_str]
      show (decide (t.cps.toList < u.cps.toList) || _) = _
      by_cases h : t.cps.toList < u.cps.toList
      · rw [decide_eq_true h]; rfl
      · rw [decide_eq_false h]
        by_cases e : t = u
        · subst e
          rw [decide_eq_true rfl, decide_eq_false h]
          rfl
        · rw [decide_eq_false (fun z => e (V.str.inj z))]
          have : u.cps.toList < t.cps.toList := by
            rcases Classical.em (u.cps.toList < t.cps.toList) with q | q
            · exact q
            · exact absurd (str_toList (nat_tri _ _ h q)) e
          rw [decide_eq_true this]
          rfl
section
variable {prog : Program} {w : World} {A : Around} {s : Shared}
/-- a comparison of two rows, item by item -/
theorem kat_rows {shape : Nat → Bool} {Q : Bool → Shared → Prop} (b fin : Bool) : ∀ {k i : Nat} {xs ys : List V} {us vs : List Value}, Vals xs us → Vals ys vs → fitsAt shape k xs = true → fitsAt shape k ys = true →
    fin = decide (xs.length < ys.length) → Q (rowLt xs ys) s → PySem.W.KatLex prog w A b fin Q (us.zip vs) i s
  | _, _, [], [], _, _, .nil, .nil, _, _, e, h => PySem.W.kat_nil (by rw [e]; exact h)
  | _, _, [], _ :: _, _, _, .nil, .cons _ _, _, _, e, h => PySem.W.kat_nil (by
      rw [e]
      rw [decide_eq_true (by simp)]
      exact h)
  | _, _, _ :: _, [], _, _, .cons _ _, .nil, _, _, e, h => PySem.W.kat_nil (by
      rw [e]
      rw [decide_eq_false (by simp)]
      exact h)
  | k, i, x :: xs, y :: ys, _, _, .cons (b := u) rx tx, .cons (b := v) ry ty, hx, hy, e, h => by
    obtain ⟨fx, cx⟩ := fits_case hx
    obtain ⟨fy, cy⟩ := fits_case hy
    rw [List.zip_cons_cons]
    have e' : fin = decide (xs.length < ys.length) := by
      rw [e]
      simp
    have more : x = y → rowLt (x :: xs) (y :: ys) = rowLt xs ys := by
      rintro rfl
      show (itLt x x || (decide (x = x) && rowLt xs ys)) = _
      rw [decide_eq_true rfl]
      rcases cx with ⟨n, rfl, _⟩ | ⟨t, rfl, _⟩
      · show (decide (n < n) || _) = _
        simp
      · show (decide (t.cps.toList < t.cps.toList) || _) = _
        rw [decide_eq_false (List.lt_irrefl _)]
        simp
    have less : x ≠ y → rowLt (x :: xs) (y :: ys) = itLt x y := fun q => by
      show (itLt x y || (decide (x = y) && rowLt xs ys)) = _
      rw [decide_eq_false q]
      simp
    rcases cx with ⟨n, rfl, s1⟩ | ⟨t, rfl, s1⟩ <;> rcases cy with ⟨m, rfl, s2⟩ | ⟨z, rfl, s2⟩
    · obtain ⟨t1, rfl⟩ := rx
      obtain ⟨t2, rfl⟩ := ry
      refine PySem.W.kat_cons (PySem.SeqAt.EqAt.int_int n t1 m t2 prog w _ _ (PySem.W.kat_go (fun q => ?_) fun q => ?_))
      · have q' : n = m := by simpa using q
        exact PySem.W.kat_yes (kat_rows b fin tx ty fx fy e' (by rw [← more (by rw [q'])]; exact h))
      · have q' : ¬ n = m := by simpa using q
        rw [less (fun z => q' (V.int.inj z))] at h
        refine PySem.W.kat_no ?_
        cases b && i == 0 with
        | true => exact oneLt_int h
        | false => exact PySem.W.kat_one _ _ (PyProof.Rows.lt_int h)
    · rw [s1] at s2; cases s2
    · rw [s1] at s2; cases s2
    · obtain ⟨t1, rfl⟩ := rx
      obtain ⟨t2, rfl⟩ := ry
      refine PySem.W.kat_cons (wpAny_eqBool_str (PySem.W.kat_go (fun q => ?_) fun q => ?_))
      · have q' : t = z := of_decide_eq_true q
        exact PySem.W.kat_yes (kat_rows b fin tx ty fx fy e' (by rw [← more (by rw [q'])]; exact h))
      · have q' : ¬ t = z := of_decide_eq_false q
        rw [less (fun z => q' (V.str.inj z))] at h
        refine PySem.W.kat_no ?_
        cases b && i == 0 with
        | true => exact oneLt_str h
        | false => exact PySem.W.kat_one _ _ (PyProof.Rows.lt_str h)
/-- a row that stands at a value -/
def RowIs (h : Heap) (shape : Nat → Bool) (v : Value) (xs : List V) : Prop := ∃ (a : Addr) (us : List Value), v = .ref a ∧ IsTup h a us.toArray ∧ Vals xs us ∧ xs ≠ [] ∧ fitsAt shape 0 xs = true
theorem RowIs.keeps {h h' : Heap} {shape : Nat → Bool} {v : Value} {xs : List V} (r : RowIs h shape v xs) (k : ∀ b o, o.cls = .type "tuple" → h.get? b = some o → h'.get? b = some o) : RowIs h' shape v xs := by
  obtain ⟨a, us, rfl, ⟨o, e, c, n, d⟩, q⟩ := r
  exact ⟨a, us, rfl, ⟨o, k a o c e, c, n, d⟩, q⟩
theorem rows_cmp {shape : Nat → Bool} {vs : List Value} {row : Value → List V} (hp : ∀ v ∈ vs, RowIs s.heap shape v (row v)) : SrtO.Cmp prog w A s (tuples' true) (fun p => p.1 ∈ vs) (SrtO.lt2 fun v u => ordR (row v) (row u)) := by
  intro p q hm hm'
  have h1 := hp _ hm
  have h2 := hp _ hm'
  show wpAny (model prog w) A (keyLt' (tuples' true) p.1 q.1) (fun r s' => s' = s ∧ r = ordR (row p.1) (row q.1)) (fun _ _ => False) s
  generalize row p.1 = xs at h1 ⊢
  generalize row q.1 = ys at h2 ⊢
  obtain ⟨a, us, e1, ⟨o, ho, _, n, hd⟩, vx, _, fx⟩ := h1
  obtain ⟨b, vs', e2, ⟨o', ho', _, n', hd'⟩, vy, _, fy⟩ := h2
  rw [e1, e2]
  refine PySem.W.kat_lt ho hd ho' hd' ?_
  refine kat_rows true _ (k := 0) vx vy fx fy ?_ ⟨rfl, rowLt_ord fx fy⟩
  rw [vx.length, vy.length]
  simp
theorem rows_first {h : Heap} {shape : Nat → Bool} {row : Value → List V} : ∀ {vs : List Value}, (∀ v ∈ vs, RowIs h shape v (row v)) → ∃ fs : List Value, PySem.W.KatTups h vs fs ∧ fs.length = vs.length ∧ ∀ f ∈ fs, (∃ x t, f = Value.int x t ∧ shape 0 = false) ∨ ∃ x t, f = Value.str x t ∧ shape 0 = true
  | [], _ => ⟨[], PySem.W.KatTups.nil, rfl, fun _ z => nomatch z⟩
  | v :: vs, hp => by
    obtain ⟨fs, k1, k2, k3⟩ := rows_first (vs := vs) fun u hu => hp u (List.mem_cons_of_mem _ hu)
    obtain ⟨a, us, ev, ⟨o, ho, hc, n, hd⟩, r, ne, fi⟩ := hp v (List.mem_cons_self ..)
    generalize row v = xs at r ne fi
    cases r with
    | nil => exact absurd rfl ne
    | cons r0 rt =>
      rename_i x u xs us
      obtain ⟨_, c⟩ := fits_case fi
      rw [ev]
      refine ⟨u :: fs, PySem.W.KatTups.cons ho hc hd rfl k1, by rw [List.length_cons, List.length_cons, k2], fun f hf => ?_⟩
      rcases List.mem_cons.mp hf with rfl | hf
      · rcases c with ⟨i, rfl, sh⟩ | ⟨t, rfl, sh⟩
        · obtain ⟨t, e⟩ := r0
          exact .inl ⟨i, t, e, sh⟩
        · obtain ⟨t', e⟩ := r0
          exact .inr ⟨t, t', e, sh⟩
      · exact k3 f hf
theorem rows_sortable {a : Addr} {shape : Nat → Bool} {vs : List Value} {row : Value → List V} (h0 : 0 < vs.length) (hp : ∀ v ∈ vs, RowIs s.heap shape v (row v)) (ha : ∀ o, s.heap.get? a = some o → o.cls ≠ .type "tuple") : SrtO.SortableO prog w A s a vs fun v u => ordR (row v) (row u) := by
  intro h' keep
  have hp' : ∀ v ∈ vs, RowIs h' shape v (row v) := fun v hm => (hp v hm).keeps fun b o c e => keep b o (fun z => ha o (z ▸ e) c) e
  obtain ⟨fs, k1, k2, k3⟩ := rows_first hp'
  refine ⟨tuples' true, fun Q E hq => ?_, rows_cmp hp'⟩
  cases e : shape 0 with
  | false =>
    refine PySem.W.kat_kind (T := .type "int") k1 (by omega) (fun f hm => ?_) (by rfl) ?_
    · rcases k3 f hm with ⟨x, t, rfl, _⟩ | ⟨_, _, _, z⟩
      · exact PySem.W.Looks.now
      · rw [e] at z; cases z
    · rw [show (Value.type "int" != Value.type "tuple") = true by decide +kernel]
      exact hq
  | true =>
    refine PySem.W.kat_kind (T := .type "str") k1 (by omega) (fun f hm => ?_) (by rfl) ?_
    · rcases k3 f hm with ⟨_, _, _, z⟩ | ⟨x, t, rfl, _⟩
      · rw [e] at z; cases z
      · exact PySem.W.Looks.now
    · rw [show (Value.type "str" != Value.type "tuple") = true by decide +kernel]
      exact hq
end
/-! ### as a rule -/
def rSortT (K : PySem.W.Frag) : List V → Hp → VK → Prop := fun xs H Q => ∃ (a : Addr) (ps : List (Addr × List V)) (shape : Nat → Bool), xs = [.ref a] ∧ SqL K H a (ps.map fun p => V.ref p.1) ∧ (∀ p ∈ ps, SqT K H p.1 p.2 ∧ p.2 ≠ [] ∧ fitsAt shape 0 p.2 = true) ∧ ps.length ≤ 900 ∧
  ∀ (qs : List (Addr × List V)) (p : Addr), qs.Perm ps → qs.Pairwise (fun x y => rowLt y.2 x.2 = false) → H p = none → Q (.ref p) (upd H p (.lst (qs.map fun q => V.ref q.1)))
def addrOf : Value → Addr
  | .ref a => a
  | _ => 0
/-- the row that is told of an address -/
def rowOf (ps : List (Addr × List V)) (v : Value) : List V := ((ps.find? fun p => p.1 == addrOf v).map (·.2)).getD []
theorem row_of {ps : List (Addr × List V)} (one : ∀ p ∈ ps, ∀ q ∈ ps, p.1 = q.1 → p.2 = q.2) {p : Addr × List V} (hp : p ∈ ps) : rowOf ps (.ref p.1) = p.2 := by
  unfold rowOf
  cases e : ps.find? fun q => q.1 == addrOf (.ref p.1) with
  | none =>
    have := List.find?_eq_none.mp e p hp
    exact absurd (beq_self_eq_true p.1) this
  | some q =>
    have h1 := List.mem_of_find?_eq_some e
    have h2 : (q.1 == p.1) = true := by simpa [addrOf] using List.find?_some e
    exact one q h1 p hp (by simpa using h2)
theorem cr_sortedT {X : Cx} : CallR X (.builtin "sorted") (rSortT X.K) := by
  intro pins s σ H vs us Q I r h
  obtain ⟨a, ps, shape, rfl, hs, hx, few, q⟩ := h
  obtain ⟨its, rv, hl, hz⟩ := I.list hs
  obtain ⟨u, rfl, ru⟩ := vals1 r
  obtain rfl : u = Value.ref a := ru
  have one : ∀ p ∈ ps, ∀ q ∈ ps, p.1 = q.1 → p.2 = q.2 := fun p hp q hq e => I.tuple_inj (hx p hp).1 (by rw [e]; exact (hx q hq).1)
  have back : ∀ x ∈ ps.map fun p => V.ref p.1, ∃ b, x = V.ref b := fun x hm => by
    obtain ⟨p, _, rfl⟩ := List.mem_map.mp hm
    exact ⟨p.1, rfl⟩
  obtain ⟨e1, e2⟩ := refs_back rv back
  let pairOf : Value → Addr × List V := fun v => (addrOf v, rowOf ps v)
  have eps : its.map pairOf = ps := by
    have e3 : ∀ (l : List (Addr × List V)) (vs : List Value), (∀ p ∈ l, p ∈ ps) → (l.map fun p => V.ref p.1) = vs.map backV → (∀ u ∈ vs, ∃ a, u = Value.ref a) → vs.map pairOf = l := by
      intro l
      induction l with
      | nil =>
        intro vs _ e _
        cases vs with
        | nil => rfl
        | cons _ _ => cases e
      | cons p l ih =>
        intro vs hm e hr
        cases vs with
        | nil => cases e
        | cons v vs =>
          obtain ⟨b, rfl⟩ := hr v (List.mem_cons_self ..)
          rw [List.map_cons, List.map_cons] at e
          obtain ⟨ea, eb⟩ := List.cons.inj e
          have eb' : p.1 = b := V.ref.inj ea
          subst eb'
          rw [List.map_cons, ih vs (fun p hp => hm p (List.mem_cons_of_mem _ hp)) eb fun u hu => hr u (List.mem_cons_of_mem _ hu)]
          show ((p.1, rowOf ps (.ref p.1)) : Addr × List V) :: l = p :: l
          rw [row_of one (hm p (List.mem_cons_self ..))]
    exact e3 ps its (fun _ h => h) e1 e2
  have rows : ∀ v ∈ its, RowIs s.heap shape v (rowOf ps v) := fun v hv => by
    obtain ⟨b, rfl⟩ := e2 v hv
    have hm : pairOf (.ref b) ∈ ps := by
      rw [← eps]
      exact List.mem_map.mpr ⟨_, hv, rfl⟩
    obtain ⟨h1, h2, h3⟩ := hx _ hm
    obtain ⟨us, rw_, it, _⟩ := I.tuple h1
    exact ⟨b, us, rfl, it, rw_, h2, h3⟩
  refine SrtO.sorted_ord (swo_by ordR_swo (rowOf ps)) hl.isList (by rw [← rv.length]; exact hz) (fun h2 h₁ b eb kk => ?_) fun out h1 h2 => ?_
  · refine rows_sortable (s := { s with heap := h₁ }) (by omega) (fun v hm => (rows v hm).keeps fun b o _ e => (kk b o e).2) fun o e => ?_
    have z : some o = some (seqObj "list" its.toArray 0) := e.symm.trans eb
    cases z
    exact fun c => absurd (Value.type.inj c) (by decide)
  · have h3 : ∀ u ∈ out, ∃ a, u = Value.ref a := fun u hu => e2 u (h2.perm.mem_iff.mp hu)
    have pm : (out.map pairOf).Perm ps := by
      have z := h2.perm.map pairOf
      rw [eps] at z
      exact z
    have eo : out.map backV = (out.map pairOf).map fun q => V.ref q.1 := by
      rw [List.map_map]
      refine List.map_congr_left fun v hv => ?_
      obtain ⟨b, rfl⟩ := h3 v hv
      rfl
    obtain ⟨ep, he'⟩ := PyProof.Rows.sortedAll_at s.heap its out.toArray
    have hlen : (out.map backV).length ≤ sizeLine := by
      rw [List.length_map, h2.perm.length_eq, ← rv.length]
      exact hz
    have pw : (out.map pairOf).Pairwise fun x y => rowLt y.2 x.2 = false := by
      refine List.pairwise_map.mpr ?_
      refine (List.Pairwise.imp_of_mem ?_ h1)
      intro x y hx' hy' hlt
      obtain ⟨_, _, _, _, _, _, fx⟩ := rows x (h2.perm.mem_iff.mp hx')
      obtain ⟨_, _, _, _, _, _, fy⟩ := rows y (h2.perm.mem_iff.mp hy')
      show rowLt (rowOf ps y) (rowOf ps x) = false
      rw [rowLt_ord fy fx]
      exact hlt
    refine ⟨.ref (s.heap.objs.size + 1), upd H (s.heap.objs.size + 1) (.lst (out.map backV)), I.laid (t' := s.toks) (fun _ _ => PyProof.Rows.sortedAll_old) (Nat.le_succ _) ⟨hlen, out, ep, vals_back h3, he'⟩, rfl, ?_⟩
    rw [eo]
    exact q _ _ pm pw (I.hok.fresh (Nat.le_succ _))
end Hx
set_option maxRecDepth 100000
set_option maxHeartbeats 4000000
/-! A list comprehension of several clauses, clause by clause. -/
namespace Hx
open PySem PySem.Spec PyProof.Rows L2
/-- one turn of clause k: B stands behind its tests, ahead of the turn's end -/
def TurnIs (e : Expr) (k : Nat) (t i : Expr) (ifs : List Expr) (B : Value → Env → Sem PySem.Fin → Sem PySem.Fin) : Prop := ∀ it acc env, compTurn e k it acc env = (do
  standAt i.pos
  match ← pyNext it with
  | none => pure (.done .next)
  | some v => do
    letOwnedTupleGo t it v
    assign t env v
    let ok ← forIn ifs true fun c r => if r = true then do let ok ← isTrue c env (eval c env); pure (ForInStep.yield ok) else pure (ForInStep.yield r)
    if ok = true then B acc env (again (.compLoop e k it acc env)) else again (.compLoop e k it acc env))
/-- what the last clause does behind its tests -/
def bLast (elt : Expr) : Value → Env → Sem PySem.Fin → Sem PySem.Fin := fun acc env rest => do
  (do let _ ← call (.builtin "list.append") [acc, ← eval elt env])
  rest
/-- what a clause does that has another below it -/
def bMid (e : Expr) (k : Nat) (i : Expr) : Value → Env → Sem PySem.Fin → Sem PySem.Fin := fun acc env rest => do
  let x ← eval i env
  standAt i.pos
  let x ← foldedSetIterable i env x
  let _ ← runOwn (.compStart e (k + 1) (← holding [x] (pyIter x)) acc env) env
  rest
section
variable {elt t0 i0 t1 i1 t2 i2 : Expr} {f0 f1 f2 : List Expr} {scope : Scope} {pos : Pos}
theorem turn3_0 : TurnIs (.ListComp elt [⟨t0, i0, f0, 0⟩, ⟨t1, i1, f1, 0⟩, ⟨t2, i2, f2, 0⟩] scope pos) 0 t0 i0 f0 (bMid (.ListComp elt [⟨t0, i0, f0, 0⟩, ⟨t1, i1, f1, 0⟩, ⟨t2, i2, f2, 0⟩] scope pos) 0 i1) := fun _ _ _ => rfl
theorem turn3_1 : TurnIs (.ListComp elt [⟨t0, i0, f0, 0⟩, ⟨t1, i1, f1, 0⟩, ⟨t2, i2, f2, 0⟩] scope pos) 1 t1 i1 f1 (bMid (.ListComp elt [⟨t0, i0, f0, 0⟩, ⟨t1, i1, f1, 0⟩, ⟨t2, i2, f2, 0⟩] scope pos) 1 i2) := fun _ _ _ => rfl
theorem turn3_2 : TurnIs (.ListComp elt [⟨t0, i0, f0, 0⟩, ⟨t1, i1, f1, 0⟩, ⟨t2, i2, f2, 0⟩] scope pos) 2 t2 i2 f2 (bLast elt) := fun _ _ _ => rfl
end
/-- all that the slots outside vs knew is still known -/
def Knows (vs : List Nat) (σ σ' : L2.St) : Prop := σ'.length = σ.length ∧ ∀ (j : Nat) v, (wipe σ vs)[j]? = some (some v) → σ'[j]? = some (some v)
/-- what stands behind a clause's tests reaches N, from where the turn ends -/
def BodyOk (Y : Cx) (D : Addr) (B : Value → Env → Sem PySem.Fin → Sem PySem.Fin) (em : L2.St → Hp → (Hp → Prop) → Prop) (vs : List Nat) : Prop :=
  ∀ (pins : List (Addr × Obj)) (s : Shared) (σ : L2.St) (H : Hp) (N : Hp → Prop) (rest : Sem PySem.Fin) (Q : PySem.Fin → Shared → Prop) (E : Value → Shared → Prop), Inv Y pins σ H s → em σ H N →
    (∀ s' σ' H', Inv Y pins σ' H' s' → Knows vs σ σ' → N H' → wpAny (model Y.prog Y.w) Y.A rest Q E s') → wpAny (model Y.prog Y.w) Y.A (B (.ref D) Y.env rest) Q E s
def tEl (te : TE) (D : Addr) : L2.St → Hp → (Hp → Prop) → Prop := fun σ H N => te σ H fun y H7 => ∃ acc, H7 D = some (.lst acc) ∧ acc.length < sizeLine ∧ N (upd H7 D (.lst (acc ++ [y])))
/-- a clause's turns, by an invariant of the turn and a measure -/
def tTurns (g : TG) (tt : TT) (vs : List Nat) (em : L2.St → Hp → (Hp → Prop) → Prop) (σ : L2.St) (J : It) (H4 : Hp) (N : Hp → Prop) : Prop := ∃ W1 : Nat → Nat → Hp → Prop, (∃ m, W1 0 m H4) ∧ ∀ j k H, W1 j k H →
  (J.stop j H ∧ N H) ∨ (J.go j H ∧ ∃ N1 : Hp → Prop, (∀ H', N1 H' → ∃ k', k' < k ∧ W1 (j + 1) k' H') ∧ ∀ x H', J.yld j H x H' → g x (wipe σ vs) H' fun σ3 H5 => wipe σ3 vs = wipe σ vs ∧ tt σ3 H5 fun b H6 => if b = true then em σ3 H6 N1 else N1 H6)
def tIn (wi : TI) (g : TG) (tt : TT) (vs : List Nat) (em : L2.St → Hp → (Hp → Prop) → Prop) : L2.St → Hp → (Hp → Prop) → Prop := fun σ H N => wi σ H fun J H4 => tTurns g tt vs em σ J H4 N
theorem last_ok {Y : Cx} {D : Addr} {elt : Expr} {te : TE} {vs : List Nat} (he : PE Y elt te) (hx : Y.xe = fun _ _ => False) : BodyOk Y D (bLast elt) (tEl te D) vs := by
  intro pins s σ H N rest Q E I h k
  have r := he.run pins s σ H _ I h
  rw [hx] at r
  refine wpAny_bind (wpAny_bind (thnF r fun z s1 ⟨yv, H1, I1, r1, acc, hD, hz, nx⟩ => wpAny_bind (app_ok (X := Y) I1 hD hz r1 fun s2 I2 => ?_)))
  exact wpAny_pure (k s2 σ _ I2 ⟨rfl, fun j v e => (wipe_some e).1⟩ nx)
/-- a clause's loop -/
theorem clause_runs {Y : Cx} {e t i : Expr} {k : Nat} {ifs : List Expr} {B : Value → Env → Sem PySem.Fin → Sem PySem.Fin} {em : L2.St → Hp → (Hp → Prop) → Prop} {vs : List Nat} {pins : List (Addr × Obj)} {s : Shared} {σ : L2.St} {H : Hp} {D it : Addr} {J : It} {fp : List Addr}
    {tn : Nat → Heap → Prop} {R : PySem.Result → Shared → Prop} {N : Hp → Prop} {g : TG} {tt : TT} (heq : TurnIs e k t i ifs B) (hq : (PySem.Code.compLoop e k (.ref it) (.ref D) Y.env).quiet = true) (hfr : (PySem.Code.compLoop e k (.ref it) (.ref D) Y.env).isFrame = false)
    (hun : Y.A.under (PySem.Code.compLoop e k (.ref it) (.ref D) Y.env) = Y.A) (hc : Y.calm = true) (hx : Y.xe = fun _ _ => False) (pg : PG Y t g) (pt : PTs Y ifs tt) (bo : BodyOk Y D B em vs) (T : Turn Y.prog Y.w Y.K t J fp it tn) (I : Inv Y pins (wipe σ vs) H s) (st : tn 0 s.heap) (hn : ∀ b ∈ fp, H b = none)
    (stat : ∀ {s' : Shared} {σ' : L2.St} {H' : Hp}, Inv Y pins σ' H' s' → (∀ b ∈ fp, H' b = none) → ∀ b ∈ fp, FpOk Y pins H' b) (tr : tTurns g tt vs em σ J H N) (out : ∀ s' H', Inv Y pins (wipe σ vs) H' s' → N H' → R (.ok .next) s') :
    codeAny (model Y.prog Y.w) Y.A (.compLoop e k (.ref it) (.ref D) Y.env) R s := by
  obtain ⟨W, ⟨m0, w0⟩, turn⟩ := tr
  refine codeAny_loop hq (fun n s' => ∃ j H', Inv Y pins (wipe σ vs) H' s' ∧ tn j s'.heap ∧ (∀ b ∈ fp, H' b = none) ∧ W j n H') (fun n s1 hI => ?_) m0 ⟨0, H, I, st, hn, w0⟩
  obtain ⟨j, H1, I1, st1, n1, w1⟩ := hI
  rw [hun]
  show wpAny _ Y.A (if (PySem.Code.compLoop e k (.ref it) (.ref D) Y.env).isFrame = true then _ else _) _ _ s1
  rw [hfr, if_neg Bool.false_ne_true]
  refine wpAny_noted ?_
  rw [heq]
  refine wpAny_bind (wpAny_standAt (wpAny_bind ?_))
  rcases turn j n H1 w1 with ⟨stop, q⟩ | ⟨go, N1, hN1, step⟩
  · refine thnF (T.done Y rfl rfl rfl hc j pins s1 _ H1 (fun _ _ => False) I1 (stat I1 n1) st1 stop) fun r s2 ⟨hr, I2⟩ => ?_
    subst hr
    exact wpAny_pure (out s2 H1 I2 q)
  · refine thnF (T.item Y rfl rfl rfl hc j pins s1 _ H1 (fun _ _ => False) I1 (stat I1 n1) st1 go) fun r s2 ⟨u, hr, h2⟩ => ?_
    subst hr
    refine wpAny_bind (thnF h2 fun _ s3 ⟨x, H3, I3, r3, y3, st3, n3⟩ => ?_)
    have I3' := I3.pinned (stat I3 n3) (T.obj _ _ st3)
    have hp := pg.run _ s3 _ H3 x u _ I3' r3 (step x H3 y3)
    rw [hx] at hp
    refine wpAny_bind (thnF hp fun _ s4 ⟨σ4, H4, I4, hw, q4⟩ => ?_)
    have ht := pt.run _ s4 σ4 H4 _ I4 q4
    rw [hx] at ht
    refine wpAny_bind (thnF ht fun b s5 ⟨H5, I5, q5⟩ => ?_)
    have fin : ∀ {σ' : L2.St} {s' : Shared} {H' : Hp}, Inv Y (pins ++ pinsAt fp s3.heap) σ' H' s' → Knows vs σ4 σ' → N1 H' → ∃ m, m < n ∧ ∃ j H', Inv Y pins (wipe σ vs) H' s' ∧ tn j s'.heap ∧ (∀ b ∈ fp, H' b = none) ∧ W j m H' := fun {σ' s' H'} I' ⟨kl, kk⟩ nx => by
      obtain ⟨m', hm, w'⟩ := hN1 H' nx
      have still : ∀ b ∈ fp, ∀ o, s3.heap.get? b = some o → s'.heap.get? b = some o ∧ H' b = none := fun b hb o eo => by
        have z := I'.pin (b, o) (List.mem_append_right _ (List.mem_append_right _ (mem_pinsAt hb eo)))
        exact ⟨z.1, z.2.1⟩
      refine ⟨m', hm, j + 1, H', I'.unpinned.weak (by rw [← hw, wipe_length, kl]) (fun a v ev => kk a v (by rw [hw]; exact ev)), T.keep _ _ _ st3 fun b hb o eo => (still b hb o eo).1, fun b hb => ?_, w'⟩
      obtain ⟨o, eo, _⟩ := T.obj _ _ st3 b hb
      exact (still b hb o eo).2
    cases b with
    | false =>
      rw [if_neg Bool.false_ne_true] at q5 ⊢
      exact wpAny_pure ⟨rfl, fin I5 ⟨rfl, fun j v ev => (wipe_some ev).1⟩ q5⟩
    | true =>
      rw [if_pos rfl] at q5 ⊢
      exact bo _ s5 σ4 H5 N1 _ _ _ I5 q5 fun s' σ' H' I' kn nx => wpAny_pure ⟨rfl, fin I' kn nx⟩
theorem start_ok {e t i : Expr} {ifs : List Expr} {k : Nat} {A : Around} {prog : Program} {w : World} {R : PySem.Result → Shared → Prop} {s : Shared} {it acc : Value} {env : Env} (hcl : (clausesOf e)[k]? = some ⟨t, i, ifs, 0⟩) (hfr : (PySem.Code.compStart e k it acc env).isFrame = false)
    (hun : A.under (PySem.Code.compStart e k it acc env) = A) (hq : ∀ it', (PySem.Code.compLoop e k it' acc env).quiet = true) (h0 : codeAny (model prog w) A (.compLoop e k it acc env) R s)
    (h : wpAny (model prog w) A (pyIter it) (fun it' s' => codeAny (model prog w) A (.compLoop e k it' acc env) R s') (notedBy (model prog w) A env fun x s' => R (.error x) s') s) : codeAny (model prog w) A (.compStart e k it acc env) R s := by
  refine codeAny_of_tree ?_
  rw [hun]
  show wpAny _ A (if (PySem.Code.compStart e k it acc env).isFrame = true then _ else _) _ _ s
  rw [hfr, if_neg Bool.false_ne_true]
  refine wpAny_notedAt ?_
  unfold compStart
  rw [hcl]
  show wpAny _ A (ask >>= _) _ _ s
  refine wpAny_bind (wpAny_askSetting (wpAny_ite ?_))
  split
  · exact wpAny_pure ⟨hq _, h0⟩
  · refine wpAny_bind (wpAny_rule ?_)
    show wpAny _ A (standAt i.pos >>= _) _ _ s
    exact wpAny_bind (wpAny_standAt (wpAny_bind (thn h fun it' s' h' => wpAny_pure ⟨hq _, h'⟩)))
end Hx
set_option maxRecDepth 100000
set_option maxHeartbeats 4000000
namespace Hx
open PySem PySem.Spec PyProof.Rows L2
theorem mid_ok {Y : Cx} {e t1 i1 : Expr} {k : Nat} {ifs1 : List Expr} {B1 : Value → Env → Sem PySem.Fin → Sem PySem.Fin} {em1 : L2.St → Hp → (Hp → Prop) → Prop} {vs vs1 : List Nat} {D : Addr} {wi1 : TI} {g1 : TG} {tt1 : TT} (hc : Y.calm = true) (hx : Y.xe = fun _ _ => False)
    (hcl : (clausesOf e)[k + 1]? = some ⟨t1, i1, ifs1, 0⟩) (heq : TurnIs e (k + 1) t1 i1 ifs1 B1) (hs : ∀ env x, foldedSetIterable i1 env x = pure x) (hi : PI Y t1 i1 wi1) (pg : PG Y t1 g1) (pt : PTs Y ifs1 tt1) (bo : BodyOk Y D B1 em1 vs1) (hv : ∀ i ∈ vs1, i ∈ vs)
    (hq : ∀ it acc env, (PySem.Code.compLoop e (k + 1) it acc env).quiet = true) (hfr : ∀ it acc env, (PySem.Code.compLoop e (k + 1) it acc env).isFrame = false ∧ (PySem.Code.compStart e (k + 1) it acc env).isFrame = false)
    (hun : ∀ (A : Around) it acc env, A.under (PySem.Code.compLoop e (k + 1) it acc env) = A ∧ A.under (PySem.Code.compStart e (k + 1) it acc env) = A) : BodyOk Y D (bMid e k i1) (tIn wi1 g1 tt1 vs1 em1) vs := by
  intro pins s σ H N rest Q E I h kk
  have r := hi.run pins s σ H _ I h
  rw [hx] at r
  refine wpAny_bind (thnF r fun xv s1 hx1 => wpAny_bind (wpAny_standAt (wpAny_bind (wpAny_of_eq (hs _ xv) (wpAny_bind (wpAny_holding (thnF hx1 fun itv s2 h2 => ?_)))))))
  obtain ⟨it, fp, tn, J, H2, ei, I2, T, st, ff, tr⟩ := h2
  subst ei
  refine wpAny_bind (wpAny_runOwn ?_)
  rw [Around.mark_none]
  have I2' : Inv Y pins (wipe σ vs1) H2 s2 := I2.weak (wipe_length _ _) fun j v ev => (wipe_some ev).1
  have go := clause_runs (N := N) (R := fun r s' => match r with
    | .ok _ => wpAny (model Y.prog Y.w) Y.A rest Q E s'
    | .error x => cameBackBy (model Y.prog Y.w) Y.A Y.env E x s') heq (hq _ _ _) (hfr _ _ _).1 (hun _ _ _ _).1 hc hx pg pt bo T I2' st (fun b hb => (ff b hb).1)
    (fun {s' σ' H'} _ hn b hb => ⟨hn b hb, (ff b hb).2⟩) tr (fun s' H' I' n' => kk s' _ H' I' ⟨wipe_length _ _, fun j v ev => ?_⟩ n')
  · refine codeAny_mono (start_ok hcl (hfr _ _ _).2 (hun _ _ _ _).2 (fun it' => hq it' _ _) go (T.self Y.A 0 _ _ _ st go)) fun r s' hr => ?_
    cases r with
    | ok f => exact hr
    | error x => exact hr
  · obtain ⟨z1, z2⟩ := wipe_some ev
    rw [wipe_out fun z => z2 (hv j z)]
    exact z1
/-- a comprehension, whatever stands below its first clause -/
theorem lcN_core {X : Cx} {pins : List (Addr × Obj)} {s : Shared} {σ : L2.St} {H : Hp} {Q : VK} {elt tg iter : Expr} {ifs : List Expr} {gs : List Comprehension} {scope : Scope} {own : List (Str × Nat)} {pos pos' : Pos} {wi : TI} {g : TG} {tt : TT} {use : Option (Value → Sem Unit)} {Qf : Value → Shared → Prop}
    {B : Value → Env → Sem PySem.Fin → Sem PySem.Fin} {em : Addr → L2.St → Hp → (Hp → Prop) → Prop} (hc : X.calm = true) (hN : X.N.Nodup) (I : Inv X pins σ H s) (hi : PI X tg iter wi) (ok : BlkOk X.N X.env.scope scope own) (heq : TurnIs (.ListComp elt (⟨tg, iter, ifs, 0⟩ :: gs) scope pos) 0 tg iter ifs B)
    (hg : ∀ (s : Shared) (H : Hp) (C : Addr) (cl : List (Str × Addr)) (fp : List Addr), PG (X.blk s H scope (compEnvC scope cl C X.env) fp) tg g) (ht : ∀ (s : Shared) (H : Hp) (C : Addr) (cl : List (Str × Addr)) (fp : List Addr), PTs (X.blk s H scope (compEnvC scope cl C X.env) fp) ifs tt)
    (hb : ∀ (s : Shared) (H : Hp) (C : Addr) (cl : List (Str × Addr)) (fp : List Addr) (D : Addr), BodyOk (X.blk s H scope (compEnvC scope cl C X.env) fp) D B (em D) (own.map (·.2))) (hs : ∀ x, foldedSetIterable iter X.env x = pure x)
    (h : wi σ H fun J H1 => ∀ D, H1 D = none → tTurns g tt (own.map (·.2)) (em D) σ J (upd H1 D (.lst [])) (Q (.ref D)))
    (hRR : ∀ D C s' m H', Inv X pins σ H' s' → Q (.ref D) H' → s'.heap.Ns C m → FpOk X pins H' C → compPost (model X.prog X.w) X.A X.xe use Qf (.ref D) C (.ok .next) s') :
    wpAny (model X.prog X.w) X.A (comprehension (.ListComp elt (⟨tg, iter, ifs, 0⟩ :: gs) scope pos) scope X.env pos' (newList []) false (eval iter X.env) use) Qf X.xe s := by
  have free : ∀ y ∈ scope.names, y.2 = .free → ∃ c, X.env.cells.lookup y.1 = some c := by
    intro y hy ey
    cases ok.free y hy ey with
    | inl z => exact I.ok.has _ (.inl z)
    | inr z => exact I.ok.has _ (.inr z)
  refine wpAny_comprehension_free (use := use) rfl hs (closure_ok free) ok.kind (fun y hy ey => by rw [ok.uniq y hy, ey]) (thn (hi.run pins s σ H _ I h) fun _ s1 h1 => thn h1 fun _ s2 h2 => ?_)
  obtain ⟨it, fp, tn, J, H2, ei, I2, T, st2, ff, q⟩ := h2
  subst ei
  refine wpAny_newObj_type (newEnv_comp ?_) (Nat.zero_le _)
  generalize eD : s2.heap.objs.size = D
  have nD : H2 D = none := I2.hok.fresh (Nat.le_of_eq eD)
  have tr := q D nD
  have below : ∀ b ∈ fp, b < s2.heap.objs.size := by
    intro b hb
    obtain ⟨o, eo, _⟩ := T.obj _ _ st2 b hb
    exact Heap.lt_size eo
  generalize e3 : ({ s2 with heap := s2.heap.push { cls := .type "list", data := .seq ([] : List Value).toArray } } : Shared) = s3
  have hh : s3.heap = s2.heap.push { cls := .type "list", data := .seq ([] : List Value).toArray } := by rw [← e3]
  have I3 : Inv X pins σ (upd H2 D (.lst [])) s3 := by
    subst e3
    subst eD
    exact I2.laid (t' := s2.toks) (fun b o eo => Heap.get?_push_of_some _ eo) (Nat.le_refl _) ⟨Nat.zero_le _, [], 0, .nil, Heap.get?_push_size _ rfl⟩
  have f3 : ∀ b ∈ fp, FpOk X pins (upd H2 D (.lst [])) b ∧ b < s3.heap.objs.size := by
    intro b hb
    have lt := below b hb
    constructor
    · refine ⟨?_, (ff b hb).2⟩
      rw [upd_ne (eD ▸ Nat.ne_of_lt lt)]
      exact (ff b hb).1
    · rw [hh, Heap.size_push]
      exact Nat.lt_succ_of_lt lt
  have st3 : tn 0 s3.heap := T.keep _ _ _ st2 fun b _ o eo => by
    rw [hh]
    exact Heap.get?_push_of_some _ eo
  have I4 := block_start I3 ok hN f3
  have nfp : ∀ b ∈ fp, (upd H2 D (.lst [])) b = none := fun b hb => (f3 b hb).1.1
  generalize eH : upd H2 D (.lst []) = H3 at I3 I4 nfp f3 tr
  have pg := fun C cl => hg s3 H3 C cl fp
  have pt := fun C cl => ht s3 H3 C cl fp
  have pb := fun C cl => hb s3 H3 C cl fp D
  show codeAny _ _ (.compStart _ 0 (.ref it) (.ref D) (compEnvC scope (cellsFrom (s3.heap.objs.size + 1) scope.names (cloFrom X.env.cells scope.names [])) s3.heap.objs.size X.env)) (compPost (model X.prog X.w) X.A X.xe use Qf (.ref D) s3.heap.objs.size) { s3 with heap := pushCells (s3.heap.push { cls := .type "dict", data := .dict #[] }) scope.names }
  have pg := pg s3.heap.objs.size (cellsFrom (s3.heap.objs.size + 1) scope.names (cloFrom X.env.cells scope.names []))
  have pt := pt s3.heap.objs.size (cellsFrom (s3.heap.objs.size + 1) scope.names (cloFrom X.env.cells scope.names []))
  have pb := pb s3.heap.objs.size (cellsFrom (s3.heap.objs.size + 1) scope.names (cloFrom X.env.cells scope.names []))
  generalize ec : compEnvC scope (cellsFrom (s3.heap.objs.size + 1) scope.names (cloFrom X.env.cells scope.names [])) s3.heap.objs.size X.env = ce at I4 pg pt pb ⊢
  have cL : ce.locals = s3.heap.objs.size := by
    subst ec
    rfl
  generalize e4 : ({ s3 with heap := pushCells (s3.heap.push { cls := .type "dict", data := .dict #[] }) scope.names } : Shared) = s4 at I4 ⊢
  have st4 : tn 0 s4.heap := T.keep _ _ _ st3 fun b _ o eo => by
    subst e4
    exact pushCells_keeps _ _ _ _ (Heap.get?_push_of_some _ eo)
  have loop := clause_runs (Y := X.blk s3 H3 scope ce fp) (pins := []) (N := Q (.ref D)) (R := compPost (model X.prog X.w) X.A X.xe use Qf (.ref D) s3.heap.objs.size) heq (it := it) (σ := σ) (H := H3) (s := s4) rfl rfl rfl hc rfl pg pt pb T I4 st4 nfp
    (fun {s' σ' H'} I' hn b hb' => ⟨hn b hb', (I'.ok.exf b hb').1, I'.ok.exfs b hb', .inl hb', fun x c ex => (I'.ok.exf b hb').2 x c ex, fun p hp => nomatch (show p ∈ ([] : List (Addr × Obj)) from hp)⟩) tr (fun s6 H5 I6 qq => ?_)
  · exact codeAny_compStart_list loop (T.self X.A 0 _ _ _ st4 loop)
  · -- back outside
    have I7 : Inv X pins σ H5 s6 := I3.call' (ch := fp) I6.os I6.base I6.hok I6.bare fun b hb => by
      have z := (f3 b hb).1
      exact ⟨z.2.2.2.1, z.2.1, z.2.2.2.2.1, z.2.2.2.2.2⟩
    have nC : H5 s3.heap.objs.size = none := cL ▸ (show H5 ce.locals = none from I6.free)
    obtain ⟨m, hn, _⟩ := I6.loc
    have hn : s6.heap.Ns s3.heap.objs.size m := cL ▸ (show s6.heap.Ns ce.locals m from hn)
    exact hRR D s3.heap.objs.size s6 m H5 I7 qq hn (I3.fpOk (Nat.le_refl _) nC)
/-! ### three clauses -/
def tLc3 (wi : TI) (g : TG) (tt : TT) (wi1 : TI) (g1 : TG) (tt1 : TT) (wi2 : TI) (g2 : TG) (tt2 : TT) (te : TE) (vs vs1 vs2 : List Nat) : TE := fun σ H Q => wi σ H fun J H1 => ∀ D, H1 D = none → ∃ W : Nat → Nat → Hp → Prop, (∃ m, W 0 m (upd H1 D (.lst []))) ∧ ∀ i m H, W i m H →
  (J.stop i H ∧ Q (.ref D) H) ∨ (J.go i H ∧ ∃ Nx : Hp → Prop, (∀ H', Nx H' → ∃ m', m' < m ∧ W (i + 1) m' H') ∧ ∀ x H', J.yld i H x H' → g x (wipe σ vs) H' fun σ2 H2 => wipe σ2 vs = wipe σ vs ∧ tt σ2 H2 fun b H3 =>
    if b = true then tIn wi1 g1 tt1 vs1 (tIn wi2 g2 tt2 vs2 (tEl te D)) σ2 H3 Nx else Nx H3)
theorem ps_setLc3 {X : Cx} {i : Nat} {y : Str} {py : Pos} {elt tg iter tg1 iter1 tg2 iter2 : Expr} {ifs ifs1 ifs2 : List Expr} {scope : Scope} {own : List (Str × Nat)} {vs1 vs2 : List Nat} {pos spos : Pos} {wi wi1 wi2 : TI} {g g1 g2 : TG} {tt tt1 tt2 : TT} {te : TE}
    (hc : X.calm = true) (hN : X.N.Nodup) (hy : X.N[i]? = some y) (hyl : X.env.scope.names.lookup y = some .local)
    (hsw : swapsWith (.ListComp elt [⟨tg, iter, ifs, 0⟩, ⟨tg1, iter1, ifs1, 0⟩, ⟨tg2, iter2, ifs2, 0⟩] scope pos) (some (.Name y py)) spos.line X.env = pure true) (hi : PI X tg iter wi) (ok : BlkOk X.N X.env.scope scope own) (hv1 : ∀ i ∈ vs1, i ∈ own.map (·.2)) (hv2 : ∀ i ∈ vs2, i ∈ vs1)
    (hg : ∀ (s : Shared) (H : Hp) (C : Addr) (cl : List (Str × Addr)) (fp : List Addr), PG (X.blk s H scope (compEnvC scope cl C X.env) fp) tg g) (ht : ∀ (s : Shared) (H : Hp) (C : Addr) (cl : List (Str × Addr)) (fp : List Addr), PTs (X.blk s H scope (compEnvC scope cl C X.env) fp) ifs tt)
    (hi1 : ∀ (s : Shared) (H : Hp) (C : Addr) (cl : List (Str × Addr)) (fp : List Addr), PI (X.blk s H scope (compEnvC scope cl C X.env) fp) tg1 iter1 wi1)
    (hg1 : ∀ (s : Shared) (H : Hp) (C : Addr) (cl : List (Str × Addr)) (fp : List Addr), PG (X.blk s H scope (compEnvC scope cl C X.env) fp) tg1 g1) (ht1 : ∀ (s : Shared) (H : Hp) (C : Addr) (cl : List (Str × Addr)) (fp : List Addr), PTs (X.blk s H scope (compEnvC scope cl C X.env) fp) ifs1 tt1)
    (hi2 : ∀ (s : Shared) (H : Hp) (C : Addr) (cl : List (Str × Addr)) (fp : List Addr), PI (X.blk s H scope (compEnvC scope cl C X.env) fp) tg2 iter2 wi2)
    (hg2 : ∀ (s : Shared) (H : Hp) (C : Addr) (cl : List (Str × Addr)) (fp : List Addr), PG (X.blk s H scope (compEnvC scope cl C X.env) fp) tg2 g2) (ht2 : ∀ (s : Shared) (H : Hp) (C : Addr) (cl : List (Str × Addr)) (fp : List Addr), PTs (X.blk s H scope (compEnvC scope cl C X.env) fp) ifs2 tt2)
    (he : ∀ (s : Shared) (H : Hp) (C : Addr) (cl : List (Str × Addr)) (fp : List Addr), PE (X.blk s H scope (compEnvC scope cl C X.env) fp) elt te)
    (hs : ∀ x, foldedSetIterable iter X.env x = pure x := by intro _; rfl) (hs1 : ∀ env x, foldedSetIterable iter1 env x = pure x := by intro _ _; rfl) (hs2 : ∀ env x, foldedSetIterable iter2 env x = pure x := by intro _ _; rfl) :
    PS X (.Assign [.Name y py] (.ListComp elt [⟨tg, iter, ifs, 0⟩, ⟨tg1, iter1, ifs1, 0⟩, ⟨tg2, iter2, ifs2, 0⟩] scope pos) spos) (tAsg (tLc3 wi g tt wi1 g1 tt1 wi2 g2 tt2 te (own.map (·.2)) vs1 vs2) (gName i)) := by
  constructor
  intro pins s σ H D I h
  rw [exec_Assign_Name_used _ _ _ _ hsw]
  refine wpAny_bind (wpAny_standAt (wpAny_bind ?_))
  show wpAny _ X.A (do let _ ← comprehension (.ListComp elt [⟨tg, iter, ifs, 0⟩, ⟨tg1, iter1, ifs1, 0⟩, ⟨tg2, iter2, ifs2, 0⟩] scope pos) scope X.env (firstIterPos [⟨tg, iter, ifs, 0⟩, ⟨tg1, iter1, ifs1, 0⟩, ⟨tg2, iter2, ifs2, 0⟩] pos) (newList []) false (eval iter X.env) (some (assign (.Name y py) X.env))) _ _ s
  refine wpAny_bind (thn (lcN_core (Q := fun x H1 => gName i x σ H1 D.nx) (Qf := fun _ s' => SP X pins D .next s') (em := fun D => tIn wi1 g1 tt1 vs1 (tIn wi2 g2 tt2 vs2 (tEl te D))) hc hN I hi ok turn3_0 hg ht (fun s3 H3 C cl fp D => ?_) hs h fun L C s' m H' I' q hn ff => ?_) fun _ s' hq => wpAny_pure (wpAny_pure hq))
  · exact mid_ok hc rfl rfl turn3_1 hs1 (hi1 s3 H3 C cl fp) (hg1 s3 H3 C cl fp) (ht1 s3 H3 C cl fp)
      (mid_ok hc rfl rfl turn3_2 hs2 (hi2 s3 H3 C cl fp) (hg2 s3 H3 C cl fp) (ht2 s3 H3 C cl fp) (last_ok (he s3 H3 C cl fp) rfl) hv2 (fun _ _ _ => rfl) (fun _ _ _ => ⟨rfl, rfl⟩) (fun _ _ _ _ => ⟨rfl, rfl⟩)) hv1 (fun _ _ _ => rfl) (fun _ _ _ => ⟨rfl, rfl⟩) (fun _ _ _ _ => ⟨rfl, rfl⟩)
  · show wpAny _ _ (assign (.Name y py) X.env (.ref L)) _ _ _
    refine wpAny_assign_Name (store_ok2 (v := V.ref L) I' hN hy (.inl hyl) rfl (fun s2 I2 ⟨a, sb, ha⟩ => ?_) (.inr hyl))
    obtain ⟨k0, k1, k2, k3, k4, k5⟩ := ff
    have other : C ≠ a := by
      cases ha with
      | inl z => exact z ▸ k1
      | inr z => exact fun e => k4 y a z e.symm
    exact ⟨m, hn.sameBut sb other, fun h3 sb3 => ⟨_, H', I2.turned (t' := s2.toks) (fun b o hb e => (sb3.2 b hb).trans e) k0 k1 k3 k4 k5, q⟩⟩
end Hx
set_option maxRecDepth 100000
set_option maxHeartbeats 4000000
namespace Hx
open PySem PySem.Spec PyProof.Rows L2
/-- an inner clause over a walk: Pv by the turn and the heap -/
theorem in_it {J : It} {n : Nat} {G : Hp → Prop} {Y : Nat → Hp → V → Hp → Prop} (w : Walk J n G Y) {body : V → Hp → (Hp → Prop) → Prop} {H : Hp} {N : Hp → Prop} (Pv : Nat → Hp → Prop) (h0 : Pv 0 H) (hG : ∀ i H, i ≤ n → Pv i H → G H)
    (hs : ∀ i x H H', i < n → Pv i H → Y i H x H' → body x H' (Pv (i + 1))) (hd : ∀ H, Pv n H → N H) :
    ∃ W1 : Nat → Nat → Hp → Prop, (∃ m, W1 0 m H) ∧ ∀ j k H, W1 j k H → (J.stop j H ∧ N H) ∨ (J.go j H ∧ ∃ N1 : Hp → Prop, (∀ H', N1 H' → ∃ k', k' < k ∧ W1 (j + 1) k' H') ∧ ∀ x H', J.yld j H x H' → body x H' N1) := by
  refine ⟨fun i m H => m = n - i ∧ i ≤ n ∧ Pv i H, ⟨n, by simp, Nat.zero_le _, h0⟩, ?_⟩
  rintro i m H ⟨rfl, hi, p⟩
  have q := hG i H hi p
  by_cases hlt : i < n
  · exact .inr ⟨w.goes i H hlt q, Pv (i + 1), fun H' p' => ⟨n - (i + 1), by omega, rfl, hlt, p'⟩, fun x H' y => hs i x H H' hlt p (w.yields i H x H' hlt q y)⟩
  · have e : i = n := by omega
    subst e
    exact .inl ⟨w.stops H q, hd H p⟩
end Hx
set_option maxRecDepth 100000
set_option maxHeartbeats 8000000
namespace Hx
open PySem PySem.Spec PyProof.Rows L2
abbrev sHouse : Stmt := inClass (top 44) 0
theorem pg_tupK {X : Cx} (K : PySem.W.Frag) {es : List Expr} {k : Nat} {pos : Pos} {t : TGs} {n : Nat} (h : PGs X es t) (hK : X.K = K := by rfl) (hc : X.calm = true := by rfl)
    (hn : (assignEach es X.env).length = n := by rfl) (hst : (assignEach es X.env).findIdx? (·.1) = none := by rfl) : PG X (.Tuple es k pos) (gTup K n t) := by
  subst hK
  exact pg_tup hc h hn hst
structure HTxt (K : PySem.W.Frag) (mg : Str → Option Value) (E fI : Addr) : Prop where
  cl : L2.Cls K E
  n1 : NoAttr K E "text"
  n2 : NoAttr K E "people"
  n3 : NoAttr K E "cells"
  n4 : NoAttr K E "kinds"
  n5 : NoAttr K E "deeds"
  n6 : NoAttr K E "scripts"
  n7 : NoAttr K E "doings"
  n8 : NoAttr K E "day"
  mgH : mg "House" = some (.ref E)
  maker : Mk K E fI
def deedT (people : List Str) (d : DeedD) : PyData := .tuple [.str d.x, .tuple ((byOf people d.by_).map PyData.str), .int d.pick]
/-- all deeds as moves, as they are made -/
def doOf (people : List Str) (d : DeedD) : List (List V) := (byOf people d.by_).flatMap fun who => (List.range d.pick.toNat).map fun (i : Nat) => [V.str "do", .str d.x, .str who, .int i]
def doL (people : List Str) (ds : List DeedD) : List (List V) := ds.flatMap (doOf people)
def nHouse : List Str := ["self", "text", "lines", "deeds", "doings", "deed", "name", "by", "pick", "who", "it"]
theorem scHouse : FnScope nHouse ["self", "text"] (defScope sHouse) := ⟨rfl, rfl, rfl, by decide +kernel, rfl, by decide +kernel, by decide +kernel⟩
def houseF (t : Str) (ap ac ak ad as_ ao : Addr) (day : Int) : List (Str × V) := [("text", .str t), ("people", .ref ap), ("cells", .ref ac), ("kinds", .ref ak), ("deeds", .ref ad), ("scripts", .ref as_), ("doings", .ref ao), ("day", .int day)]
structure HouseD where
  people : List Str
  cs : List CellD
  ks : List KindD
  ds : List DeedD
  day : Int
def HouseD.page (h : HouseD) : List Rw := ⟨false, "people" :: h.people⟩ :: (h.cs.map CellD.row ++ (kRows h.ks ++ (dRows h.cs h.ks h.ds ++ [⟨false, ["day", numS h.day]⟩])))
structure HouseD.Ok (h : HouseD) : Prop where
  p1 : 1 ≤ h.people.length
  p3 : h.people.length ≤ 3
  pn : h.people.Nodup
  pok : ∀ x ∈ h.people, nameB x = true ∧ x ≠ "who"
  c1 : 1 ≤ h.cs.length
  cok : CellsOk h.cs
  k3 : h.ks.length ≤ 3
  kok : ∀ k ∈ h.ks, k.ok
  kn : (h.ks.map (·.x)).Nodup
  d1 : 1 ≤ h.ds.length
  d4 : h.ds.length ≤ 4
  dok : ∀ d ∈ h.ds, d.ok h.people h.cs h.ks
  dn : (h.ds.map (·.x)).Nodup
  y1 : 1 ≤ h.day
  y4 : h.day < 4
/-- a house stands at h -/
structure HouseAt (K : PySem.W.Frag) (D E : Addr) (H : Hp) (p : Addr) (t : Str) (h : HouseD) : Prop where
  ex : ∃ (dx ap ac ak ad as_ ao : Addr) (ps : List Addr) (qs : List (Addr × List V)), H p = some (.ins E dx (houseF t ap ac ak ad as_ ao h.day)) ∧ SqT K H ap (h.people.map V.str) ∧ Tp K H (.ref ac) (.tuple (h.cs.map CellD.d)) ∧ Tp K H (.ref ak) (.tuple (h.ks.map KindD.d)) ∧
    Tp K H (.ref ad) (.tuple (h.ds.map (deedT h.people))) ∧ H as_ = some (.dK ((h.ds.map fun d => (Sum.inr d.x : Key)).zip (ps.map V.ref))) ∧ Deeds K D H p h.people h.ks (fun _ => True) ps h.ds ∧
    SqT K H ao (qs.map fun q => V.ref q.1) ∧ (∀ q ∈ qs, SqT K H q.1 q.2) ∧ (qs.map (·.2)).Perm (doL h.people h.ds) ∧ qs.Pairwise (fun x y => rowLt y.2 x.2 = false)
theorem dc_it {J : It} {n : Nat} {G : Hp → Prop} {Y : Nat → Hp → V → Hp → Prop} (w : Walk J n G Y) {g : TG} {tt : TT} {tk tv : TE} {vs : List Nat} {σ : L2.St} {H1 : Hp} {D : Addr} {Qd : Hp → Prop} (Pv : Nat → Hp → Prop) (h0 : Pv 0 (upd H1 D (.dK []))) (hG : ∀ i H, i ≤ n → Pv i H → G H)
    (hs : ∀ i x H H', i < n → Pv i H → Y i H x H' → g x (wipe σ vs) H' fun σ2 H2 => wipe σ2 vs = wipe σ vs ∧ tt σ2 H2 fun b H3 =>
      if b = true then tk σ2 H3 fun y H4 => tv σ2 H4 fun z H5 => ∃ kvs k, y = kV k ∧ H5 D = some (.dK kvs) ∧ kvs.length < sizeLine ∧ Pv (i + 1) (upd H5 D (.dK (putK kvs k z))) else Pv (i + 1) H3) (hd : ∀ H, Pv n H → Qd H) :
    ∃ W : Nat → Nat → Hp → Prop, (∃ m, W 0 m (upd H1 D (.dK []))) ∧ ∀ i m H, W i m H →
      (J.stop i H ∧ Qd H) ∨ (J.go i H ∧ ∃ Nx : Hp → Prop, (∀ H', Nx H' → ∃ m', m' < m ∧ W (i + 1) m' H') ∧ ∀ x H', J.yld i H x H' → g x (wipe σ vs) H' fun σ2 H2 => wipe σ2 vs = wipe σ vs ∧ tt σ2 H2 fun b H3 =>
        if b = true then tk σ2 H3 fun y H4 => tv σ2 H4 fun z H5 => ∃ kvs k, y = kV k ∧ H5 D = some (.dK kvs) ∧ kvs.length < sizeLine ∧ Nx (upd H5 D (.dK (putK kvs k z))) else Nx H3) := in_it w Pv h0 hG hs hd
/-- a house while it is made -/
structure HS (C E : Addr) (H H' : Hp) (p L dx : Addr) (page : List Rw) (n : Nat) (fs : List (Str × V)) : Prop where
  bar : Bar p H H'
  pg : PageAt C H' L page n
  ob : H' p = some (.ins E dx fs)
  n0 : H L = none
  pl : p ≠ L
theorem HS.step {C E : Addr} {H H' H'' : Hp} {p L dx : Addr} {page : List Rw} {n m : Nat} {fs : List (Str × V)} (S : HS C E H H' p L dx page n fs) (b : Bar L H' H'') (pg : PageAt C H'' L page m) : HS C E H H'' p L dx page m fs :=
  ⟨fun c o nc e => b c o (fun z => by rw [z, S.n0] at e; cases e) (S.bar c o nc e), pg, b p _ S.pl S.ob, S.n0, S.pl⟩
theorem HS.put {C E : Addr} {H H' : Hp} {p L dx : Addr} {page : List Rw} {n : Nat} {fs gs : List (Str × V)} (S : HS C E H H' p L dx page n fs) : HS C E H (upd H' p (.ins E dx gs)) p L dx page n gs :=
  ⟨S.bar.trans (Bar.upd p H' _), page_ins S.ob S.pl S.pg, upd_same, S.n0, S.pl⟩
theorem row_feed {r : Rw} (h : rwB r = true) : (10 : Nat) ∉ TL.tl r.text := by
  obtain ⟨ne, hw, _⟩ := rw_is h
  intro z
  have key : ∀ ws : List Str, (∀ x ∈ ws, wordB x = true) → (10 : Nat) ∉ TL.tl (Str.join " " ws) := by
    intro ws
    induction ws with
    | nil =>
      intro _ z
      cases z
    | cons x r ih =>
      intro hw z
      have hx : (10 : Nat) ∉ TL.tl x := fun z => by
        have := (word_is (hw x (List.mem_cons_self ..))).2 10 z
        omega
      cases r with
      | nil => exact hx z
      | cons y r =>
        rw [join_cons, TL.tl_append, TL.tl_append, tl_ofS] at z
        rcases List.mem_append.mp z with z | z
        · rcases List.mem_append.mp z with z | z
          · exact hx z
          · have := List.mem_singleton.mp z
            cases this
        · exact ih (fun w hw' => hw w (List.mem_cons_of_mem _ hw')) z
  unfold Rw.text at z
  rw [TL.tl_append] at z
  rcases List.mem_append.mp z with z | z
  · have zero : ∀ d : Bool, (10 : Nat) ∉ TL.tl (pad d) := by decide +kernel
    exact zero _ z
  · exact key _ hw z
theorem tl_feed : TL.tl ("\n" : Str) = [10] := by decide +kernel
theorem split_page {page : List Rw} (ok : PageOk page) (ne : page ≠ []) : Txt.split (Str.join "\n" (page.map Rw.text)) "\n" = page.map Rw.text := by
  have h := TL.split_join (y := "\n") (s := 10) (S := []) tl_feed (by decide +kernel) (parts := page.map Rw.text) (by simpa using ne) (fun p hp => by
    obtain ⟨r, hr, rfl⟩ := List.mem_map.mp hp
    exact row_feed (ok.2 r hr))
  rw [TL.join_eq] at h
  exact h
/-- rows at addresses -/
def RowsAt (K : PySem.W.Frag) (H : Hp) (ps : List (Addr × List V)) : Prop := ∀ p ∈ ps, SqT K H p.1 p.2
theorem RowsAt.map {K : PySem.W.Frag} {H H' : Hp} {ps : List (Addr × List V)} (t : ∀ {a xs}, SqT K H a xs → SqT K H' a xs) (h : RowsAt K H ps) : RowsAt K H' ps := fun p hp => t (h p hp)
theorem byOf_len (people : List Str) (by_ : Option (List Str)) : (byOf people by_).length ≤ people.length := by
  cases by_ with
  | none => exact Nat.le_refl _
  | some ns => exact List.length_filter_le _ _
theorem flat_len {α β : Type} (f : α → List β) (xs : List α) (m : Nat) (h : ∀ x ∈ xs, (f x).length ≤ m) : (xs.flatMap f).length ≤ xs.length * m := by
  induction xs with
  | nil => simp
  | cons x r ih =>
    rw [List.flatMap_cons, List.length_append, List.length_cons, Nat.succ_mul]
    have a := h x (List.mem_cons_self ..)
    have b := ih fun y hy => h y (List.mem_cons_of_mem _ hy)
    omega
theorem doL_len {people : List Str} {ds : List DeedD} (h : ∀ d ∈ ds, (byOf people d.by_).length ≤ 3 ∧ d.pick.toNat ≤ 4) : (doL people ds).length ≤ 12 * ds.length := by
  unfold doL
  have := flat_len (doOf people) ds 12 (fun d hd => by
    obtain ⟨h1, h2⟩ := h d hd
    have z := flat_len (fun who => (List.range d.pick.toNat).map fun (i : Nat) => [V.str "do", .str d.x, .str who, .int i]) (byOf people d.by_) 4 (fun _ _ => by rw [List.length_map, List.length_range]; exact h2)
    unfold doOf
    omega)
  omega
theorem wipe_get {σ : L2.St} {vs : List Nat} {j : Nat} : (wipe σ vs)[j]? = if j ∈ vs then (σ[j]?).map (fun _ => none) else σ[j]? := by
  induction vs with
  | nil => simp [wipe]
  | cons v r ih =>
    show ((wipe σ r).set v none)[j]? = _
    by_cases h : v = j
    · subst h
      rw [if_pos (List.mem_cons_self ..)]
      by_cases hl : v < σ.length
      · rw [List.getElem?_set_self (by rw [wipe_length]; exact hl), List.getElem?_eq_getElem hl]
        rfl
      · rw [List.getElem?_eq_none (by rw [List.length_set, wipe_length]; omega), List.getElem?_eq_none (by omega)]
        rfl
    · rw [List.getElem?_set_ne h, ih]
      by_cases m : j ∈ r
      · rw [if_pos m, if_pos (List.mem_cons_of_mem _ m)]
      · rw [if_neg m, if_neg (fun z => by
          rcases List.mem_cons.mp z with z | z
          · exact h z.symm
          · exact m z)]
theorem wipe_of {σ σ' : L2.St} {vs : List Nat} (h : ∀ j, j ∉ vs → σ'[j]? = σ[j]?) (l : σ'.length = σ.length) : wipe σ' vs = wipe σ vs := by
  refine List.ext_getElem? fun j => ?_
  rw [wipe_get, wipe_get]
  by_cases m : j ∈ vs
  · rw [if_pos m, if_pos m]
    by_cases hl : j < σ.length
    · rw [List.getElem?_eq_getElem hl, List.getElem?_eq_getElem (by omega)]
      rfl
    · rw [List.getElem?_eq_none (by omega), List.getElem?_eq_none (by omega)]
  · rw [if_neg m, if_neg m, h j m]
/-- all deeds as moves: the list of them -/
theorem lc_doings {K : PySem.W.Frag} {E p dx ad : Addr} {σ : L2.St} {H : Hp} {fs : List (Str × V)} {txs : List V} {people : List Str} {ds : List DeedD} {Q : VK} (e0 : σ[0]? = some (some (.ref p))) (h10 : 10 < σ.length) (ob : H p = some (.ins E dx fs)) (cl : L2.Cls K E) (n5 : NoAttr K E "deeds") (fd : fs.lookup ("deeds" : Str) = some (.ref ad))
    (hsd : SqT K H ad txs) (hds : TpAll K H txs (ds.map (deedT people))) (dbound : ∀ d ∈ ds, (byOf people d.by_).length ≤ 3 ∧ d.pick.toNat ≤ 4) (q1 : ∀ d ∈ ds, 1 ≤ d.pick ∧ d.pick < 5) (d4 : ds.length ≤ 4)
    (k : ∀ G H', Same H H' → ∀ qs : List (Addr × List V), H' G = some (.lst (qs.map fun q => V.ref q.1)) → RowsAt K H' qs → qs.map (·.2) = doL people ds → Q (.ref G) H') :
    tLc3 (iTup K (tFld K (tVar 0) "deeds")) (gTup K 3 (gCons (gName 6) (gCons (gName 7) (gCons (gName 8) gNil)))) tYes (iTup K (tVar 7)) (gName 9) tYes (iRng1 (tCons (tVar 8) tNil)) (gName 10) tYes (tTup (tCons (tC (.str "do")) (tCons (tVar 6) (tCons (tVar 9) (tCons (tVar 10) tNil))))) [6, 7, 8, 9, 10] [9, 10] [10] σ H Q := by
  have tlen : txs.length = ds.length := by rw [hds.length, List.length_map]
  have small : ∀ i, (doL people (ds.take i)).length ≤ 48 := fun i => by
    have := doL_len (people := people) (ds := ds.take i) (fun d hd => dbound d (List.mem_of_mem_take hd))
    have l1 : (ds.take i).length ≤ ds.length := by rw [List.length_take]; omega
    omega
  refine ⟨_, e0, p, E, dx, _, _, rfl, ob, cl, n5, fd, ad, rfl, ⟨_, hsd⟩, fun G hG => in_it (walk_tup (xs := txs)) (fun i H' => Same H H' ∧ ∃ qs : List (Addr × List V), H' G = some (.lst (qs.map fun q => V.ref q.1)) ∧ RowsAt K H' qs ∧ qs.map (·.2) = doL people (ds.take i)) ⟨same_new hG _, [], upd_same, (fun _ z => nomatch z), rfl⟩ (fun i H' _ z => same_sqt z.1 hsd) ?_ ?_⟩
  · rintro i x H' H'' hi ⟨sm, qs, eG, ra, eq_⟩ ⟨rfl, hx⟩
    obtain ⟨dd_, ed_, td_⟩ := hds.get hx
    rw [List.getElem?_map] at ed_
    obtain ⟨d, ed, rfl⟩ : ∃ d, ds[i]? = some d ∧ dd_ = deedT people d := by
      cases e : ds[i]? with
      | none =>
        rw [e] at ed_
        cases ed_
      | some d =>
        rw [e] at ed_
        exact ⟨d, rfl, (Option.some.inj ed_).symm⟩
    have din := List.mem_of_getElem? ed
    obtain ⟨bl3, pk4⟩ := dbound d din
    obtain ⟨pk1, pk5⟩ := q1 d din
    obtain ⟨da, dys, rfl, hda, hdy⟩ := tp_tup td_
    cases hdy with
    | cons g0 g1 =>
    cases g1 with
    | cons g1 g2 =>
    cases g2 with
    | cons g2 g3 =>
    cases g3
    have e0' := tp_str g0
    subst e0'
    have e2 := tp_int g2
    subst e2
    obtain ⟨db, dbs, rfl, hdb, hbs⟩ := tp_tup g1
    have eb := tpa_strs hbs
    subst eb
    refine ⟨da, _, rfl, same_sqt sm hda, rfl, _, _, rfl, _, _, rfl, _, _, rfl, rfl, ?_⟩
    have len1 : ((((wipe σ [6, 7, 8, 9, 10]).set 6 (some (.str d.x))).set 7 (some (.ref db))).set 8 (some (.int d.pick))).length = σ.length := by simp [wipe_length]
    have w1 : wipe ((((wipe σ [6, 7, 8, 9, 10]).set 6 (some (.str d.x))).set 7 (some (.ref db))).set 8 (some (.int d.pick))) [6, 7, 8, 9, 10] = wipe σ [6, 7, 8, 9, 10] := by
      refine wipe_of (fun j hj => ?_) len1
      have h6 : 6 ≠ j := fun z => hj (by rw [← z]; decide)
      have h7 : 7 ≠ j := fun z => hj (by rw [← z]; decide)
      have h8 : 8 ≠ j := fun z => hj (by rw [← z]; decide)
      rw [List.getElem?_set_ne h8, List.getElem?_set_ne h7, List.getElem?_set_ne h6, wipe_get, if_neg hj]
    have f6 : ((((wipe σ [6, 7, 8, 9, 10]).set 6 (some (.str d.x))).set 7 (some (.ref db))).set 8 (some (.int d.pick)))[6]? = some (some (.str d.x)) := by
      rw [List.getElem?_set_ne (by decide), List.getElem?_set_ne (by decide), List.getElem?_set_self (by rw [wipe_length]; omega)]
    have f7 : ((((wipe σ [6, 7, 8, 9, 10]).set 6 (some (.str d.x))).set 7 (some (.ref db))).set 8 (some (.int d.pick)))[7]? = some (some (.ref db)) := by
      rw [List.getElem?_set_ne (by decide), List.getElem?_set_self (by rw [List.length_set, wipe_length]; omega)]
    have f8 : ((((wipe σ [6, 7, 8, 9, 10]).set 6 (some (.str d.x))).set 7 (some (.ref db))).set 8 (some (.int d.pick)))[8]? = some (some (.int d.pick)) := by
      rw [List.getElem?_set_self (by rw [List.length_set, List.length_set, wipe_length]; omega)]
    refine ⟨w1, yes ?_⟩
    generalize (((wipe σ [6, 7, 8, 9, 10]).set 6 (some (.str d.x))).set 7 (some (.ref db))).set 8 (some (.int d.pick)) = σ1 at *
    refine ⟨_, f7, db, rfl, ⟨_, same_sqt sm hdb⟩, in_it (walk_tup (xs := (byOf people d.by_).map V.str)) (fun j H' => Same H H' ∧ ∃ qs : List (Addr × List V), H' G = some (.lst (qs.map fun q => V.ref q.1)) ∧ RowsAt K H' qs ∧ qs.map (·.2) = doL people (ds.take i) ++ ((byOf people d.by_).take j).flatMap fun who => (List.range d.pick.toNat).map fun (i : Nat) => [V.str "do", .str d.x, .str who, .int i]) ⟨sm, qs, eG, ra, by rw [eq_]; simp⟩ (fun i H' _ z => same_sqt z.1 hdb) ?_ ?_⟩
    · rintro j y H2 H3 hj ⟨sm2, qs2, eG2, ra2, eq2⟩ ⟨rfl, hy⟩
      obtain ⟨who, ew, rfl⟩ := str_at hy
      have hjl : j < (byOf people d.by_).length := (List.getElem?_eq_some_iff.mp ew).1
      have len2 : ((wipe σ1 [9, 10]).set 9 (some (.str who))).length = σ1.length := by simp [wipe_length]
      have w2 : wipe ((wipe σ1 [9, 10]).set 9 (some (.str who))) [9, 10] = wipe σ1 [9, 10] := by
        refine wipe_of (fun j hj => ?_) len2
        have h9 : 9 ≠ j := fun z => hj (by rw [← z]; decide)
        rw [List.getElem?_set_ne h9, wipe_get, if_neg hj]
      have g6 : ((wipe σ1 [9, 10]).set 9 (some (.str who)))[6]? = some (some (.str d.x)) := by
        rw [List.getElem?_set_ne (by decide), wipe_get, if_neg (by decide), f6]
      have g8 : ((wipe σ1 [9, 10]).set 9 (some (.str who)))[8]? = some (some (.int d.pick)) := by
        rw [List.getElem?_set_ne (by decide), wipe_get, if_neg (by decide), f8]
      have g9 : ((wipe σ1 [9, 10]).set 9 (some (.str who)))[9]? = some (some (.str who)) := by
        rw [List.getElem?_set_self (by rw [wipe_length]; omega)]
      refine ⟨w2, yes ?_⟩
      generalize (wipe σ1 [9, 10]).set 9 (some (.str who)) = σ2 at *
      refine ⟨_, g8, d.pick, rfl, by omega, by omega, in_it (walk_range (lo := 0) (n := d.pick.toNat)) (fun k H' => Same H H' ∧ ∃ qs : List (Addr × List V), H' G = some (.lst (qs.map fun q => V.ref q.1)) ∧ RowsAt K H' qs ∧ qs.map (·.2) = (doL people (ds.take i) ++ ((byOf people d.by_).take j).flatMap fun who => (List.range d.pick.toNat).map fun (i : Nat) => [V.str "do", .str d.x, .str who, .int i]) ++ (List.range k).map fun (i : Nat) => [V.str "do", .str d.x, .str who, .int i]) ⟨sm2, qs2, eG2, ra2, by rw [eq2]; simp⟩ (fun _ _ _ _ => trivial) ?_ ?_⟩
      · rintro k z H4 H5 hk ⟨sm4, qs4, eG4, ra4, eq4⟩ ⟨rfl, rfl⟩
        refine ⟨set2, yes ?_⟩
        refine ⟨_, get_other g6 (by decide), _, get_other g9 (by decide), _, get_same (by omega), sz (by decide : 4 ≤ 1000), fun u hu => ?_⟩
        have su := same_new hu (.tup [.str "do", .str d.x, .str who, .int (0 + (k : Nat))])
        have eG5 := su _ _ eG4
        have lq : (qs4.map fun q => V.ref q.1).length ≤ 1000 := by
          rw [List.length_map]
          have e5 : qs4.length = (qs4.map (·.2)).length := (List.length_map _).symm
          rw [e5, eq4, List.length_append, List.length_append, List.length_map, List.length_range]
          have a1 := small i
          have a2 : (((byOf people d.by_).take j).flatMap fun who => (List.range d.pick.toNat).map fun (i : Nat) => [V.str "do", .str d.x, .str who, .int i]).length ≤ 12 := by
            refine Nat.le_trans (flat_len _ _ 4 fun x _ => by rw [List.length_map, List.length_range]; exact pk4) ?_
            rw [List.length_take]
            omega
          omega
        refine ⟨_, eG5, small1000 lq, same_grow hG (sm4.trans su), qs4 ++ [(u, [.str "do", .str d.x, .str who, .int (k : Nat)])], ?_, ?_, ?_⟩
        · rw [upd_same, List.map_append]
          rfl
        · intro q hq
          refine sqt_lst eG5 ?_
          rcases List.mem_append.mp hq with hq | hq
          · exact same_sqt su (ra4 q hq)
          · rw [List.mem_singleton.mp hq]
            have : SqT K (upd H5 u (.tup [.str "do", .str d.x, .str who, .int (0 + (k : Nat))])) u [.str "do", .str d.x, .str who, .int (0 + (k : Nat))] := SqT.of upd_same
            have e : ([V.str "do", .str d.x, .str who, .int (0 + (k : Nat))] : List V) = [V.str "do", .str d.x, .str who, .int (k : Nat)] := by rw [Int.zero_add]
            exact cast (congrArg (fun l => SqT K (upd H5 u (.tup [.str "do", .str d.x, .str who, .int (0 + (k : Nat))])) u l) e) this
        · rw [List.map_append, eq4, List.range_succ, List.map_append]
          simp
      · rintro H4 ⟨sm4, qs4, eG4, ra4, eq4⟩
        refine ⟨sm4, qs4, eG4, ra4, ?_⟩
        rw [eq4, List.take_add_one, ew, List.flatMap_append]
        simp
    · rintro H2 ⟨sm2, qs2, eG2, ra2, eq2⟩
      rw [List.length_map, List.take_length] at eq2
      refine ⟨sm2, qs2, eG2, ra2, ?_⟩
      rw [eq2, List.take_add_one, ed]
      unfold doL
      rw [List.flatMap_append]
      congr 1
      simp [doOf]
  · rintro H2 ⟨sm2, qs2, eG2, ra2, eq2⟩
    rw [tlen, List.take_length] at eq2
    exact k G H2 sm2 qs2 eG2 ra2 eq2
theorem Deeds.to {K : PySem.W.Frag} {D : Addr} {H H' : Hp} {L L' : Addr} {people : List Str} {ks : List KindD} {N N' : Addr → Prop} (f : ∀ p d, p ≠ L → DeedAt K D H p people ks d N → DeedAt K D H' p people ks d N' ∧ p ≠ L') : ∀ {ps : List Addr} {ds : List DeedD}, Deeds K D H L people ks N ps ds → Deeds K D H' L' people ks N' ps ds
  | [], [], _ => trivial
  | p :: ps, d :: ds, h => ⟨(f p d h.2.1 h.1).1, (f p d h.2.1 h.1).2, Deeds.to f h.2.2⟩
theorem valV_no {kvs : List (Key × V)} {k : Key} (h : k ∉ kvs.map (·.1)) : valV kvs k = none := by
  unfold valV
  rw [Option.map_eq_none_iff, List.find?_eq_none]
  intro p hp z
  exact h (List.mem_map.mpr ⟨p, hp, of_decide_eq_true z⟩)
theorem DeedAt.ins {K : PySem.W.Frag} {D E dx : Addr} {H : Hp} {q p : Addr} {people : List Str} {ks : List KindD} {d : DeedD} {N : Addr → Prop} {v : V} {r : List (Str × V)} {o : HO} (eP : H p = some (.ins E dx (("text", v) :: r))) (h : DeedAt K D H q people ks d N) : DeedAt K D (upd H p o) q people ks d N ∧ q ≠ p := by
  obtain ⟨dy, ab, a1, a2, a3, n, e, t, ⟨x1, e1, t1⟩, ⟨x2, e2, t2⟩, ⟨x3, e3, t3⟩⟩ := h.ex
  have nq : q ≠ p := fun z => by
    rw [z, eP] at e
    have e := Option.some.inj e
    have f := (HO.ins.inj e).2.2
    have g : ("text" : Str) = "name" := congrArg Prod.fst (List.cons.inj f).1
    exact absurd g (by decide +kernel)
  have nl : ∀ {a : Addr} {xs : List V}, H a = some (.lst xs) → a ≠ p := fun {a xs} e z => by
    rw [z, eP] at e
    cases e
  have u : ∀ {a : Addr} {xs : List V}, SqT K H a xs → SqT K (upd H p o) a xs := fun h => sqt_upd eP h
  exact ⟨⟨dy, ab, a1, a2, a3, n, by rw [upd_ne nq]; exact e, t.map u, ⟨x1, by rw [upd_ne (nl e1)]; exact e1, t1.map u⟩, ⟨x2, by rw [upd_ne (nl e2)]; exact e2, t2.map u⟩, ⟨x3, by rw [upd_ne (nl e3)]; exact e3, t3.map u⟩⟩, nq⟩
section
variable {P : Program} {w : World} {K : PySem.W.Frag} {mg : Str → Option Value} {base : Heap} {C D E fI fL fH : Addr}
def spHouse (D E : Addr) (K : PySem.W.Frag) : Sp := fun vs H Q _ => ∃ (p dx : Addr) (h : HouseD), vs = [.ref p, .str (Str.join "\n" (h.page.map Rw.text))] ∧ H p = some (.ins E dx []) ∧ h.Ok ∧ PageOk h.page ∧ (Str.join "\n" (h.page.map Rw.text)).length ≤ 10000 ∧
  ∀ H', Bar p H H' → HouseAt K D E H' p (Str.join "\n" (h.page.map Rw.text)) h → Q .non H'
theorem ok_house {f : Addr} {fd fdL : FuncData} (F : Fun K "__init__" "House.__init__" sHouse f fd) (T : Ln P w K mg base C) (HT : HTxt K mg E fH) (ML : Mk K C fL) (GL : FnOk P w K mg base CX0 1 fL fdL ["self", "text"] (spLines C)) (bL : Binds K fdL ["self", "text"] []) (DT : DTxt K mg D fI) (ms : mg "sorted" = none) (mr : mg "range" = none)
    (T1 : DefOk P w K mg base "take_people" 3 ["lines"] (spPeople C K)) (T2 : DefOk P w K mg base "take_cells" 5 ["lines"] (spCells C K)) (T3 : DefOk P w K mg base "take_kinds" 6 ["lines"] (spKinds C K)) (T4 : DefOk P w K mg base "take_deeds" 6 ["lines", "people", "cells", "kinds"] (spDeeds C D K)) :
    FnOk P w K mg base CX0 7 f fd ["self", "text"] (spHouse D E K) := by
  refine F.ok scHouse (fun vs H Q E h => ?_) (fun cdv A outer s H vs Q E' hr h => ?_)
  · obtain ⟨p, dx, h, rfl, _⟩ := h
    rfl
  obtain ⟨p, dx, h, rfl, hp, ok, pok, few, k⟩ := h
  have nd := scHouse.nd
  have hr1 : Room 1 (A.deeper (envOfC "House.__init__" (defScope sHouse) s.heap.objs.size f cdv)) := hr.mono (by decide)
  have hr2 : Room 2 (A.deeper (envOfC "House.__init__" (defScope sHouse) s.heap.objs.size f cdv)) := hr.mono (by decide)
  have hr3 : Room 3 (A.deeper (envOfC "House.__init__" (defScope sHouse) s.heap.objs.size f cdv)) := hr.mono (by decide)
  have hr5 : Room 5 (A.deeper (envOfC "House.__init__" (defScope sHouse) s.heap.objs.size f cdv)) := hr.mono (by decide)
  refine ⟨_, pss_cons (ps_set (i := 2) nd rfl (.inl rfl) (pe_make ML GL hr2 rfl T.T.mgC bL .nil pass0 (pa_cons (pv 1) pa_nil)))
    (pss_cons (ps_fld (pv 0) (pv 1) rfl)
    (pss_cons (ps_fld (pv 0) (pe_D T1 hr3 rfl (pa_cons (pv 2) pa_nil)) rfl)
    (pss_cons (ps_fld (pv 0) (pe_D T2 hr5 rfl (pa_cons (pv 2) pa_nil)) rfl)
    (pss_cons (ps_fld (pv 0) (pe_D T3 hr rfl (pa_cons (pv 2) pa_nil)) rfl)
    (pss_cons (ps_set (i := 3) nd rfl (.inl rfl) (pe_D T4 hr rfl (pa_cons (pv 2) (pa_cons (pe_fld (pv 0) rfl) (pa_cons (pe_fld (pv 0) rfl) (pa_cons (pe_fld (pv 0) rfl) pa_nil))))))
    (pss_cons (ps_fld (pv 0) (pe_callTy call_tuple_of rfl T.tuple PyProof.Rows.Boot.«tuple» (pa_cons
      (pe_lc (own := [("deed", 5)]) (g := gName 5) (tt := tYes) rfl nd (pi_list (pv 3)) (blkOk_by (N := nHouse) (sc := defScope sHouse) (by decide +kernel)) (fun _ _ _ _ _ => pg_name (i := 5) nd rfl (Or.inl rfl)) (fun _ _ _ _ _ => pts_nil)
        (fun _ _ _ _ _ => pe_tup (pa_cons (pe_fldK K (pv 5)) (pa_cons (pe_fldK K (pv 5)) (pa_cons (pe_fldK K (pv 5)) pa_nil))))) pa_nil)) rfl)
    (pss_cons (ps_fld (pv 0) (pe_dc (own := [("deed", 5)]) (g := gName 5) (tt := tYes) rfl nd (pi_list (pv 3)) (blkOk_by (N := nHouse) (sc := defScope sHouse) (by decide +kernel)) (fun _ _ _ _ _ => pg_name (i := 5) nd rfl (Or.inl rfl)) (fun _ _ _ _ _ => pts_nil) (fun _ _ _ _ _ => pe_fldK K (pv 5)) (fun _ _ _ _ _ => pv 5)) rfl)
    (pss_cons (ps_setLc3 (i := 4) (own := [("name", 6), ("by", 7), ("pick", 8), ("who", 9), ("it", 10)]) (vs1 := [9, 10]) (vs2 := [10]) rfl nd rfl rfl (sw_true rfl rfl rfl (by decide +kernel)) (pi_tup (pe_fld (pv 0) rfl)) (blkOk_by (N := nHouse) (sc := defScope sHouse) (by decide +kernel)) (by decide) (by decide)
        (g := gTup K 3 (gCons (gName 6) (gCons (gName 7) (gCons (gName 8) gNil)))) (tt := tYes) (fun _ _ _ _ _ => pg_tupK K (pgs_cons (pg_name (i := 6) nd rfl (Or.inl rfl)) (pgs_cons (pg_name (i := 7) nd rfl (Or.inl rfl)) (pgs_cons (pg_name (i := 8) nd rfl (Or.inl rfl)) pgs_nil)))) (fun _ _ _ _ _ => pts_nil)
        (wi1 := iTup K (tVar 7)) (fun _ _ _ _ _ => pi_tup (pv 7)) (g1 := gName 9) (tt1 := tYes) (fun _ _ _ _ _ => pg_name (i := 9) nd rfl (Or.inl rfl)) (fun _ _ _ _ _ => pts_nil)
        (wi2 := iRng1 (tCons (tVar 8) tNil)) (fun _ _ _ _ _ => pi_range1 rfl mr (pa_cons (pv 8) pa_nil)) (g2 := gName 10) (tt2 := tYes) (fun _ _ _ _ _ => pg_name (i := 10) nd rfl (Or.inl rfl)) (fun _ _ _ _ _ => pts_nil)
        (fun _ _ _ _ _ => pe_tup (pa_cons pe_str (pa_cons (pv 6) (pa_cons (pv 9) (pa_cons (pv 10) pa_nil))))))
    (pss_cons (ps_fld (pv 0) (pe_callTy call_tuple_of rfl T.tuple PyProof.Rows.Boot.«tuple» (pa_cons (pe_callB cr_sortedT rfl ms PyProof.Rows.boot_sorted (pa_cons (pv 4) pa_nil)) pa_nil)) rfl)
    (pss_cons (ps_fld (pv 0) (pe_M (pv 2) T.T.cl T.numFrom hr2 (pa_cons (pe_ix ix_list (pe_M (pv 2) T.T.cl T.exactly_ hr3 (pa_cons pe_int (pa_cons (pe_tup (pa_cons pe_str pa_nil)) (pa_cons pe_int pa_nil)))) pe_int (fun _ _ => rfl)) (pa_cons pe_int (pa_cons pe_int pa_nil)))) rfl)
    (pss_one (ps_expr (pe_M0 (pv 2) T.T.cl T.end_ hr1))))))))))))), ?_⟩
  have pne : h.page ≠ [] := by
    unfold HouseD.page
    exact List.cons_ne_nil _ _
  have spl := split_page pok pne
  -- where the lines stand
  have at0 : At h.page 0 h.page := fun j r e => by rw [Nat.zero_add]; exact e
  have row1 : h.page[0]? = some ⟨false, "people" :: h.people⟩ := rfl
  have at1 : At h.page 1 (h.cs.map CellD.row ++ (kRows h.ks ++ (dRows h.cs h.ks h.ds ++ [⟨false, ["day", numS h.day]⟩]))) := (At.tail (n := 0) at0).cast rfl
  have at2 := at1.right
  have at3 := at2.right
  have at4 := at3.right
  rw [List.length_map] at at2 at3 at4
  have plen : h.page.length = 1 + h.cs.length + (kRows h.ks).length + (dRows h.cs h.ks h.ds).length + 1 := by
    unfold HouseD.page
    simp only [List.length_cons, List.length_append, List.length_map, List.length_nil]
    omega
  -- the first line of what follows
  have firstD : ∃ ws, h.page[1 + h.cs.length + (kRows h.ks).length]? = some ⟨false, "deed" :: ws⟩ := by
    have d1 := ok.d1
    cases e : h.ds with
    | nil =>
      rw [e] at d1
      cases d1
    | cons d r =>
      rw [e] at at3
      exact ⟨_, at3.left.head⟩
  have firstK : ∃ w ws, h.page[1 + h.cs.length]? = some ⟨false, w :: ws⟩ ∧ (w = "kind" ∨ w = "deed") := by
    cases e : h.ks with
    | nil =>
      obtain ⟨ws, e2⟩ := firstD
      rw [e] at e2
      exact ⟨_, ws, e2, .inr rfl⟩
    | cons c r =>
      rw [e] at at2
      exact ⟨_, _, at2.left.head, .inl rfl⟩
  have stopC : nextP h.page (1 + h.cs.length) 0 ["cell"] = false := by
    obtain ⟨w, ws, e, hw⟩ := firstK
    unfold nextP aheadP
    rw [e]
    rcases hw with rfl | rfl
    · exact decide_eq_false (by decide +kernel : ("kind" : Str) ∉ (["cell"] : List Str))
    · exact decide_eq_false (by decide +kernel : ("deed" : Str) ∉ (["cell"] : List Str))
  have few2 : (Txt.split (Str.join "\n" (h.page.map Rw.text)) "\n").length ≤ 900 := by rw [spl, List.length_map]; exact pok.1
  have short : ∀ r ∈ Txt.split (Str.join "\n" (h.page.map Rw.text)) "\n", r.length ≤ 900 := by
    rw [spl]
    intro r hr
    obtain ⟨r', hr', rfl⟩ := List.mem_map.mp hr
    exact (rw_is (pok.2 r' hr')).2.2
  have hfew : (Str.join "\n" (h.page.map Rw.text)).length + 2 ≤ sizeLine := by
    rw [PySem.sizeLine_eq]
    omega
  -- the lines
  refine ⟨_, rfl, fun L dxL hL hdL ndL => ?_⟩
  have npL : p ≠ L := fun z => by
    rw [← z, hp] at hL
    cases hL
  have sL : Same H (upd (upd H dxL (.own L)) L (.ins C dxL [])) := fun b o e => by
    rw [upd_ne (ne_of_none e hL), upd_ne (ne_of_none e hdL)]
    exact e
  refine ⟨L, dxL, _, rfl, upd_same, hfew, few2, short, fun H1 b1 la => ⟨rfl, ?_⟩⟩
  rw [spl] at la
  have S1 : HS C E H H1 p L dx h.page 0 [] := ⟨fun b o nb e => b1 b o (ne_of_none e hL) (sL _ _ e), ⟨la, pok, Nat.zero_le _⟩, b1 p _ npL (sL _ _ hp), hL, npL⟩
  -- text
  refine ⟨_, rfl, _, rfl, p, E, dx, _, rfl, S1.ob, HT.cl, HT.n1, (by show 0 < 1000; decide), ?_⟩
  have S2 := S1.put (gs := [("text", .str (Str.join "\n" (h.page.map Rw.text)))])
  generalize Str.join "\n" (h.page.map Rw.text) = text at *
  show (fun σ H2 => _) _ (upd H1 p (.ins E dx [("text", .str text)]))
  generalize upd H1 p (.ins E dx [("text", .str text)]) = H2 at *
  -- people
  refine ⟨_, rfl, L, h.page, 0, h.people, rfl, S2.pg, row1, ok.p1, ok.p3, ok.pn, ok.pok, fun ap H3 b3 pg3 pp3 => ?_⟩
  have S3 := S2.step b3 pg3
  refine ⟨_, rfl, p, E, dx, _, rfl, S3.ob, HT.cl, HT.n2, (by show 1 < 1000; decide), ?_⟩
  have S4 := S3.put (gs := [("text", .str text), ("people", .ref ap)])
  have pp4 := sqt_upd (o := .ins E dx [("text", .str text), ("people", .ref ap)]) S3.ob pp3
  show (fun σ H4 => _) _ (upd H3 p (.ins E dx [("text", .str text), ("people", .ref ap)]))
  generalize upd H3 p (.ins E dx [("text", .str text), ("people", .ref ap)]) = H4 at *
  -- cells
  refine ⟨_, rfl, L, h.page, 1, h.cs, rfl, S4.pg, at1.left, ok.c1, ok.cok.1, ok.cok.2.1, ok.cok.2.2, stopC, fun cv H5 b5 pg5 tc5 => ?_⟩
  obtain ⟨ac, cxs, rfl, _, _⟩ := tp_tup tc5
  obtain ⟨dy4, R4, hL4⟩ := S4.pg.at
  have S5 := S4.step b5 pg5
  have pp5 := sqt_bar hL4 b5 pp4
  refine ⟨_, rfl, p, E, dx, _, rfl, S5.ob, HT.cl, HT.n3, (by show 2 < 1000; decide), ?_⟩
  have S6 := S5.put (gs := [("text", .str text), ("people", .ref ap), ("cells", .ref ac)])
  have u5 : ∀ {a : Addr} {xs : List V}, SqT K H5 a xs → SqT K (upd H5 p (.ins E dx [("text", .str text), ("people", .ref ap), ("cells", .ref ac)])) a xs := fun h => sqt_upd S5.ob h
  have pp6 := u5 pp5
  have tc6 := tc5.map u5
  clear u5
  show (fun σ H4 => _) _ (upd H5 p (.ins E dx [("text", .str text), ("people", .ref ap), ("cells", .ref ac)]))
  generalize upd H5 p (.ins E dx [("text", .str text), ("people", .ref ap), ("cells", .ref ac)]) = H6 at *
  -- kinds
  obtain ⟨wsD, eD⟩ := firstD
  refine ⟨_, rfl, L, h.page, 1 + h.cs.length, h.ks, rfl, S6.pg, at2.left, ok.k3, ok.kok, ok.kn, ⟨_, eD, decide_eq_false (by decide +kernel : ("deed" : Str) ∉ (["kind"] : List Str))⟩, fun kv H7 b7 pg7 tk7 => ?_⟩
  obtain ⟨ak, kxs, rfl, _, _⟩ := tp_tup tk7
  obtain ⟨dy6, R6, hL6⟩ := S6.pg.at
  have S7 := S6.step b7 pg7
  have pp7 := sqt_bar hL6 b7 pp6
  have tc7 := tc6.bar hL6 b7
  refine ⟨_, rfl, p, E, dx, _, rfl, S7.ob, HT.cl, HT.n4, (by show 3 < 1000; decide), ?_⟩
  have S8 := S7.put (gs := [("text", .str text), ("people", .ref ap), ("cells", .ref ac), ("kinds", .ref ak)])
  have u7 : ∀ {a : Addr} {xs : List V}, SqT K H7 a xs → SqT K (upd H7 p (.ins E dx [("text", .str text), ("people", .ref ap), ("cells", .ref ac), ("kinds", .ref ak)])) a xs := fun h => sqt_upd S7.ob h
  have pp8 := u7 pp7
  have tc8 := tc7.map u7
  have tk8 := tk7.map u7
  clear u7
  show (fun σ H4 => _) _ (upd H7 p (.ins E dx [("text", .str text), ("people", .ref ap), ("cells", .ref ac), ("kinds", .ref ak)]))
  generalize upd H7 p (.ins E dx [("text", .str text), ("people", .ref ap), ("cells", .ref ac), ("kinds", .ref ak)]) = H8 at *
  -- deeds
  refine ⟨_, rfl, _, rfl, p, E, dx, _, _, rfl, S8.ob, HT.cl, HT.n2, rfl, _, rfl, p, E, dx, _, _, rfl, S8.ob, HT.cl, HT.n3, rfl, _, rfl, p, E, dx, _, _, rfl, S8.ob, HT.cl, HT.n4, rfl, ?_⟩
  refine ⟨L, ap, ac, ak, h.page, 1 + h.cs.length + (kRows h.ks).length, h.people, h.cs, h.ks, h.ds, ["day", numS h.day], rfl, S8.pg, ok.cok, pp8, ok.p3, tc8, tk8, ok.k3, ok.kn, ok.d1, ok.d4, ok.dok, ok.dn, at3, decide_eq_false (by decide +kernel : ("day" : Str) ∉ (["deed"] : List Str)), fun l ps H9 b9 pg9 el dd => ?_⟩
  obtain ⟨dy8, R8, hL8⟩ := S8.pg.at
  have S9 := S8.step b9 pg9
  have pp9 := sqt_bar hL8 b9 pp8
  have tc9 := tc8.bar hL8 b9
  have tk9 := tk8.bar hL8 b9
  clear pp3 pp4 pp5 pp6 pp7 pp8 tc5 tc6 tc7 tc8 tk7 tk8 S1 S2 S3 S4 S5 S6 S7 S8 b3 b5 b7 b9 pg3 pg5 pg7 pg9
  have nps : ps.length = h.ds.length := dd.len
  -- the deeds' rows
  refine ⟨_, rfl, l, rfl, ⟨_, SqL.of el⟩, fun G hG => lc_list (xs := ps.map V.ref) (fun i H' => Same H9 H' ∧ ∃ ts : List V, H' G = some (.lst ts) ∧ TpAll K H' ts ((h.ds.take i).map (deedT h.people))) ⟨same_new hG _, [], upd_same, .nil⟩ (fun i H' _ z => SqL.of (z.1 _ _ el)) ?_ ?_⟩
  · rintro i x H' hi ⟨sm, ts, eG, tt⟩
    obtain ⟨q, eq_, rfl⟩ := ref_at hi
    obtain ⟨d, ed, da, _⟩ := dd.at eq_
    obtain ⟨dxq, ab, a1, a2, a3, _, ob, hb, _⟩ := (da.same sm).ex
    refine ⟨set2, yes ?_⟩
    refine ⟨_, get_same (by show 5 < 11; decide), q, D, dxq, _, _, rfl, ob, DT.cl, DT.nN, rfl, _, get_same (by show 5 < 11; decide), q, D, dxq, _, _, rfl, ob, DT.cl, DT.nB, rfl, _, get_same (by show 5 < 11; decide), q, D, dxq, _, _, rfl, ob, DT.cl, DT.nP, rfl, sz (by decide : 3 ≤ 1000), fun u hu => ?_⟩
    have su := same_new hu (.tup [.str d.x, .ref ab, .int d.pick])
    have lt : ts.length ≤ 1000 := by
      have := ok.d4
      rw [tt.length, List.length_map, List.length_take]
      omega
    refine ⟨ts, su _ _ eG, small1000 lt, same_grow hG (sm.trans su), ts ++ [.ref u], upd_same, ?_⟩
    have e1 : (h.ds.take (i + 1)).map (deedT h.people) = (h.ds.take i).map (deedT h.people) ++ [deedT h.people d] := by
      rw [List.take_add_one, ed, List.map_append]
      rfl
    rw [e1]
    have eG2 := su _ _ eG
    refine TpAll.append ((tt.same su).lst eG2) (.cons (Tp.lst eG2 (.tup (SqT.of upd_same) (.cons (.str _) (.cons (hb.same su) (.cons (.int _) .nil))))) .nil)
  · rintro H10 ⟨s10, ts, eG, tt⟩
    rw [List.length_map, nps, List.take_length] at tt
    refine ⟨G, ts, rfl, .inl ⟨SqL.of eG, fun ad had => ?_⟩⟩
    have s11 := same_new had (.tup ts)
    have tds : Tp K (upd H10 ad (.tup ts)) (.ref ad) (.tuple (h.ds.map (deedT h.people))) := .tup (SqT.of upd_same) (tt.same s11)
    have s911 := s10.trans s11
    have S11 := S9.step (Bar.of s911) (S9.pg.same s911)
    have pp11 := same_sqt s911 pp9
    have tc11 := tc9.same s911
    have tk11 := tk9.same s911
    have dd11 : Deeds K D (upd H10 ad (.tup ts)) L h.people h.ks (fun _ => True) ps h.ds := dd.map fun _ _ _ z => z.same s911
    have el11 := s911 _ _ el
    generalize upd H10 ad (.tup ts) = H11 at *
    refine ⟨_, rfl, p, E, dx, _, rfl, S11.ob, HT.cl, HT.n5, (by show 4 < 1000; decide), ?_⟩
    have S12 := S11.put (gs := [("text", .str text), ("people", .ref ap), ("cells", .ref ac), ("kinds", .ref ak), ("deeds", .ref ad)])
    have u11 : ∀ {a : Addr} {xs : List V}, SqT K H11 a xs → SqT K (upd H11 p (.ins E dx [("text", .str text), ("people", .ref ap), ("cells", .ref ac), ("kinds", .ref ak), ("deeds", .ref ad)])) a xs := fun h => sqt_upd S11.ob h
    have pp12 := u11 pp11
    have tc12 := tc11.map u11
    have tk12 := tk11.map u11
    have td12 := tds.map u11
    have dd12 : Deeds K D (upd H11 p (.ins E dx [("text", .str text), ("people", .ref ap), ("cells", .ref ac), ("kinds", .ref ak), ("deeds", .ref ad)])) L h.people h.ks (fun _ => True) ps h.ds := dd11.map fun _ _ _ z => (z.ins S11.ob).1
    have el12 : upd H11 p (.ins E dx [("text", .str text), ("people", .ref ap), ("cells", .ref ac), ("kinds", .ref ak), ("deeds", .ref ad)]) l = some (.lst (ps.map V.ref)) := by
      rw [upd_ne (fun z => by
        have := S11.ob
        rw [← z, el11] at this
        cases this)]
      exact el11
    show (fun σ H4 => _) _ (upd H11 p (.ins E dx [("text", .str text), ("people", .ref ap), ("cells", .ref ac), ("kinds", .ref ak), ("deeds", .ref ad)]))
    generalize upd H11 p (.ins E dx [("text", .str text), ("people", .ref ap), ("cells", .ref ac), ("kinds", .ref ak), ("deeds", .ref ad)]) = H12 at *
    clear u11 S9 S11 pp9 pp11 tc9 tc11 tk9 tk11 dd dd11 tds el el11 s10 s11 s911 tt had eG
    -- scripts
    refine ⟨_, rfl, l, rfl, ⟨_, SqL.of el12⟩, fun M hM => dc_it (walk_list (xs := ps.map V.ref)) (fun i H' => Same H12 H' ∧ H' M = some (.dK (((h.ds.take i).map fun d => (Sum.inr d.x : Key)).zip ((ps.take i).map V.ref)))) ⟨same_new hM _, upd_same⟩ (fun i H' _ z => SqL.of (z.1 _ _ el12)) ?_ ?_⟩
    · rintro i x H' H'' hi ⟨sm, eM⟩ ⟨rfl, hx⟩
      obtain ⟨q, eq_, rfl⟩ := ref_at hx
      obtain ⟨d, ed, da, _⟩ := dd12.at eq_
      obtain ⟨dxq, ab, a1, a2, a3, _, ob, hb, _⟩ := (da.same sm).ex
      have new : valV (((h.ds.take i).map fun d => (Sum.inr d.x : Key)).zip ((ps.take i).map V.ref)) (Sum.inr d.x : Key) = none := by
        refine valV_no fun z => ?_
        obtain ⟨⟨k1, v1⟩, hpr, epr⟩ := List.mem_map.mp z
        have z3 := (List.of_mem_zip hpr).1
        have epr' : k1 = Sum.inr d.x := epr
        rw [epr'] at z3
        obtain ⟨d', hd', ex⟩ := List.mem_map.mp z3
        have := not_in_take (f := fun d : DeedD => d.x) ok.dn ed
        exact this (List.mem_map.mpr ⟨d', hd', Sum.inr.inj ex⟩)
      refine ⟨set2, yes ⟨_, get_same (by show 5 < 11; decide), q, D, dxq, _, _, rfl, ob, DT.cl, DT.nN, rfl, _, get_same (by show 5 < 11; decide), _, Sum.inr d.x, rfl, eM, ?_, same_grow hM sm, ?_⟩⟩
      · have := ok.d4
        rw [List.length_zip, List.length_map, List.length_map, List.length_take, List.length_take]
        exact small1000 (by omega)
      · rw [upd_same, putK_new _ new, List.take_add_one, List.take_add_one, ed, eq_, List.map_append, List.map_append, List.zip_append (by rw [List.length_map, List.length_map, List.length_take, List.length_take, nps])]
        rfl
    · rintro H13 ⟨s13, eM⟩
      rw [List.length_map, List.take_length, nps, List.take_length] at eM
      have S13 := S12.step (Bar.of s13) (S12.pg.same s13)
      refine ⟨_, rfl, p, E, dx, _, rfl, S13.ob, HT.cl, HT.n6, (by show 5 < 1000; decide), ?_⟩
      have S14 := S13.put (gs := [("text", .str text), ("people", .ref ap), ("cells", .ref ac), ("kinds", .ref ak), ("deeds", .ref ad), ("scripts", .ref M)])
      have u13 : ∀ {a : Addr} {xs : List V}, SqT K H12 a xs → SqT K (upd H13 p (.ins E dx [("text", .str text), ("people", .ref ap), ("cells", .ref ac), ("kinds", .ref ak), ("deeds", .ref ad), ("scripts", .ref M)])) a xs := fun h => sqt_upd S13.ob (same_sqt s13 h)
      have pp14 := u13 pp12
      have tc14 := tc12.map u13
      have tk14 := tk12.map u13
      have td14 := td12.map u13
      have dd14 : Deeds K D (upd H13 p (.ins E dx [("text", .str text), ("people", .ref ap), ("cells", .ref ac), ("kinds", .ref ak), ("deeds", .ref ad), ("scripts", .ref M)])) L h.people h.ks (fun _ => True) ps h.ds := dd12.map fun _ _ _ z => ((z.same s13).ins S13.ob).1
      have eM14 : upd H13 p (.ins E dx [("text", .str text), ("people", .ref ap), ("cells", .ref ac), ("kinds", .ref ak), ("deeds", .ref ad), ("scripts", .ref M)]) M = some (.dK ((h.ds.map fun d => (Sum.inr d.x : Key)).zip (ps.map V.ref))) := by
        rw [upd_ne (fun z => by
          have := S13.ob
          rw [← z, eM] at this
          cases this)]
        exact eM
      show (fun σ H4 => _) _ (upd H13 p (.ins E dx [("text", .str text), ("people", .ref ap), ("cells", .ref ac), ("kinds", .ref ak), ("deeds", .ref ad), ("scripts", .ref M)]))
      generalize upd H13 p (.ins E dx [("text", .str text), ("people", .ref ap), ("cells", .ref ac), ("kinds", .ref ak), ("deeds", .ref ad), ("scripts", .ref M)]) = H14 at *
      clear u13 S12 S13 pp12 tc12 tk12 td12 dd12 el12 s13 eM hM
      -- doings
      obtain ⟨txs, hsd, hds⟩ := sqt_refs td14
      have tlen : txs.length = h.ds.length := by rw [hds.length, List.length_map]
      have dbound : ∀ d ∈ h.ds, (byOf h.people d.by_).length ≤ 3 ∧ d.pick.toNat ≤ 4 := fun d hd => by
        obtain ⟨_, _, _, _, q1, q5, _⟩ := ok.dok d hd
        exact ⟨Nat.le_trans (byOf_len _ _) ok.p3, by omega⟩
      have small : ∀ i, (doL h.people (h.ds.take i)).length ≤ 48 := fun i => by
        have := doL_len (people := h.people) (ds := h.ds.take i) (fun d hd => dbound d (List.mem_of_mem_take hd))
        have l1 : (h.ds.take i).length ≤ h.ds.length := by rw [List.length_take]; omega
        have := ok.d4
        omega
      dsimp only
      refine seq_asg ?_
      refine lc_doings (ad := ad) (people := h.people) (ds := h.ds) rfl (by show 10 < 11; decide) S14.ob HT.cl HT.n5 rfl hsd hds dbound (fun d hd => by
        obtain ⟨_, _, _, _, q1, q5, _⟩ := ok.dok d hd
        exact ⟨q1, q5⟩) ok.d4 fun G H15 s15 qs eG ra eq_ => ?_
      · skip
        have S15 := S14.step (Bar.of s15) (S14.pg.same s15)
        have rows : ∀ r ∈ doL h.people h.ds, ∃ (a b : Str) (i : Nat), r = [V.str "do", .str a, .str b, .int i] := by
          intro r hr
          obtain ⟨d, _, hd⟩ := List.mem_flatMap.mp hr
          obtain ⟨who, _, hw⟩ := List.mem_flatMap.mp hd
          obtain ⟨i, _, rfl⟩ := List.mem_map.mp hw
          exact ⟨_, _, i, rfl⟩
        have few_ : qs.length ≤ 900 := by
          have e5 : qs.length = (qs.map (·.2)).length := (List.length_map _).symm
          rw [e5, eq_]
          have := small h.ds.length
          rw [List.take_length] at this
          omega
        refine ⟨_, rfl, G, qs, fun k => decide (k < 3), rfl, SqL.of eG, fun q hq => ?_, few_, fun rs sp perm pw hsp => ?_⟩
        · refine ⟨ra q hq, ?_⟩
          obtain ⟨a, b, i, e⟩ := rows q.2 (by rw [← eq_]; exact List.mem_map.mpr ⟨q, hq, rfl⟩)
          rw [e]
          exact ⟨List.cons_ne_nil _ _, rfl⟩
        · have s16 := same_new hsp (.lst (rs.map fun q => V.ref q.1))
          refine ⟨sp, _, rfl, .inl ⟨SqL.of upd_same, fun ao hao => ?_⟩⟩
          have s17 := same_new hao (.tup (rs.map fun q => V.ref q.1))
          have s1417 := s15.trans (s16.trans s17)
          have S17 := S15.step (Bar.of (s16.trans s17)) ((S15.pg.same s16).same s17)
          have ro17 : SqT K (upd (upd H15 sp (.lst (rs.map fun q => V.ref q.1))) ao (.tup (rs.map fun q => V.ref q.1))) ao (rs.map fun q => V.ref q.1) := SqT.of upd_same
          have ra17 : RowsAt K (upd (upd H15 sp (.lst (rs.map fun q => V.ref q.1))) ao (.tup (rs.map fun q => V.ref q.1))) rs := fun q hq => same_sqt (s16.trans s17) (ra q (perm.mem_iff.mp hq))
          refine ⟨_, rfl, p, E, dx, _, rfl, S17.ob, HT.cl, HT.n7, (by show 6 < 1000; decide), ?_⟩
          have S18 := S17.put (gs := [("text", .str text), ("people", .ref ap), ("cells", .ref ac), ("kinds", .ref ak), ("deeds", .ref ad), ("scripts", .ref M), ("doings", .ref ao)])
          have u17 : ∀ {a : Addr} {xs : List V}, SqT K (upd (upd H15 sp (.lst (rs.map fun q => V.ref q.1))) ao (.tup (rs.map fun q => V.ref q.1))) a xs → SqT K (upd (upd (upd H15 sp (.lst (rs.map fun q => V.ref q.1))) ao (.tup (rs.map fun q => V.ref q.1))) p (.ins E dx [("text", .str text), ("people", .ref ap), ("cells", .ref ac), ("kinds", .ref ak), ("deeds", .ref ad), ("scripts", .ref M), ("doings", .ref ao)])) a xs := fun h => sqt_upd S17.ob h
          have pp18 := u17 (same_sqt s1417 pp14)
          have tc18 := (tc14.same s1417).map u17
          have tk18 := (tk14.same s1417).map u17
          have td18 := (td14.same s1417).map u17
          have ro18 := u17 ro17
          have ra18 := ra17.map u17
          have dd18 : Deeds K D (upd (upd (upd H15 sp (.lst (rs.map fun q => V.ref q.1))) ao (.tup (rs.map fun q => V.ref q.1))) p (.ins E dx [("text", .str text), ("people", .ref ap), ("cells", .ref ac), ("kinds", .ref ak), ("deeds", .ref ad), ("scripts", .ref M), ("doings", .ref ao)])) L h.people h.ks (fun _ => True) ps h.ds := dd14.map fun _ _ _ z => ((z.same s1417).ins S17.ob).1
          have eM17 := s1417 _ _ eM14
          have eM18 : upd (upd (upd H15 sp (.lst (rs.map fun q => V.ref q.1))) ao (.tup (rs.map fun q => V.ref q.1))) p (.ins E dx [("text", .str text), ("people", .ref ap), ("cells", .ref ac), ("kinds", .ref ak), ("deeds", .ref ad), ("scripts", .ref M), ("doings", .ref ao)]) M = some (.dK ((h.ds.map fun d => (Sum.inr d.x : Key)).zip (ps.map V.ref))) := by
            rw [upd_ne (fun z => by
              have := S17.ob
              rw [← z, eM17] at this
              cases this)]
            exact eM17
          have perm2 : (rs.map (·.2)).Perm (doL h.people h.ds) := by
            rw [← eq_]
            exact perm.map _
          have eF : putF "doings" (.ref ao) ([("text", .str text), ("people", .ref ap), ("cells", .ref ac), ("kinds", .ref ak), ("deeds", .ref ad), ("scripts", .ref M)] : List (Str × V)) = ([("text", .str text), ("people", .ref ap), ("cells", .ref ac), ("kinds", .ref ak), ("deeds", .ref ad), ("scripts", .ref M), ("doings", .ref ao)] : List (Str × V)) := rfl
          rw [eF]
          clear eF
          generalize upd (upd (upd H15 sp (.lst (rs.map fun q => V.ref q.1))) ao (.tup (rs.map fun q => V.ref q.1))) p (.ins E dx [("text", .str text), ("people", .ref ap), ("cells", .ref ac), ("kinds", .ref ak), ("deeds", .ref ad), ("scripts", .ref M), ("doings", .ref ao)]) = H18 at *
          clear u17 ro17 ra17 s1417 s16 s17 S17 S15 S14 pp14 tc14 tk14 td14 dd14 eM14 eM17
          -- day
          obtain ⟨dy, R18, hL18⟩ := S18.pg.at
          refine ⟨_, rfl, L, dy, _, rfl, hL18, rfl, _, rfl, L, dy, _, rfl, hL18, rfl, sz (by decide : 1 ≤ 1000), fun t ht => ?_⟩
          have s19 := same_new ht (.tup [.str "day"])
          refine ⟨L, t, 0, 2, h.page, ["day"], ["day", numS h.day], _, rfl, S18.pg.same s19, .inl rfl, SqT.of upd_same, at4.head, by simp [nextB], rfl, fun q H20 b20 nq nqL e20 pg20 => ?_⟩
          obtain ⟨g1, g2, _⟩ := num_ok (v := h.day) (by have := ok.y1; omega) (by have := ok.y4; omega)
          refine ⟨q, _, 1, .str (numS h.day), rfl, rfl, SqL.of e20, atI_nat (j := 1) rfl, ?_⟩
          refine ⟨L, numS h.day, h.day, 1, 4, h.page.map Rw.text, _, rfl, pg20.la, g1, g2, ok.y1, ok.y4, fun H21 s21 => ?_⟩
          have b1821 : Bar L H18 H21 := ((Bar.of s19).trans b20).trans (Bar.of s21)
          have S21 := S18.step b1821 (pg20.same s21)
          refine ⟨_, rfl, p, E, dx, _, rfl, S21.ob, HT.cl, HT.n8, (by show 7 < 1000; decide), ?_⟩
          have S22 := S21.put (gs := houseF text ap ac ak ad M ao h.day)
          have u22 : ∀ {a : Addr} {xs : List V}, SqT K H18 a xs → SqT K (upd H21 p (.ins E dx (houseF text ap ac ak ad M ao h.day))) a xs := fun z => sqt_upd S21.ob (sqt_bar hL18 b1821 z)
          have eM21 : H21 M = some (.dK ((h.ds.map fun d => (Sum.inr d.x : Key)).zip (ps.map V.ref))) := b1821 M _ (fun z => by
            rw [z, hL18] at eM18
            cases eM18) eM18
          have eM22 : upd H21 p (.ins E dx (houseF text ap ac ak ad M ao h.day)) M = some (.dK ((h.ds.map fun d => (Sum.inr d.x : Key)).zip (ps.map V.ref))) := by
            rw [upd_ne (fun z => by
              have := S21.ob
              rw [← z, eM21] at this
              cases this)]
            exact eM21
          have dd22 : Deeds K D (upd H21 p (.ins E dx (houseF text ap ac ak ad M ao h.day))) p h.people h.ks (fun _ => True) ps h.ds := dd18.to fun _ _ n z => (z.bar hL18 n b1821).ins S21.ob
          have pp22 := u22 pp18
          have tc22 := tc18.map u22
          have tk22 := tk18.map u22
          have td22 := td18.map u22
          have ro22 := u22 ro18
          have ra22 := ra18.map u22
          obtain ⟨dz, R22, hL22⟩ := S22.pg.at
          have la := S22.pg.la
          have en : 1 + h.cs.length + (kRows h.ks).length + (dRows h.cs h.ks h.ds).length + 1 = (h.page.map Rw.text).length := by
            rw [List.length_map, plen]
          rw [en] at la
          refine ⟨_, rfl, L, dz, _, rfl, hL22, rfl, L, h.page.map Rw.text, rfl, la, ?_⟩
          exact k _ S22.bar ⟨dx, ap, ac, ak, ad, M, ao, ps, rs, S22.ob, pp22, tc22, tk22, td22, eM22, dd22, ro22, ra22, perm2, pw⟩
end
end Hx
set_option maxRecDepth 100000
set_option maxHeartbeats 8000000
/-! Stands and moves, by their forms. -/
namespace Hx
open PySem PySem.Spec PyProof.Rows L2
abbrev sIsFrom : Stmt := top 22
abbrev sIsTupleOf : Stmt := top 23
abbrev sIsStand : Stmt := top 24
abbrev sIsDeed : Stmt := top 25
abbrev sIsMove : Stmt := top 26
theorem ty_tup {K : PySem.W.Frag} {H : Hp} {a : Addr} {xs : List V} (h : SqT K H a xs) : TyX K H (.ref a) (.type "tuple") := by
  rcases h with (h | ⟨o, h⟩) | h
  · exact .base (.tup h)
  · exact .fTuple h
  · obtain ⟨o, its, n, e, c, _⟩ := h
    exact .kTuple e c
/-- what the forms and stands ask of the module's names -/
structure FTxt (K : PySem.W.Frag) (mg : Str → Option Value) : Prop where
  isi : mg "isinstance" = none
  int : mg "int" = none
  bool : mg "bool" = none
  tup : mg "tuple" = none
  len : mg "len" = none
  all : mg "all" = none
  zip : mg "zip" = none
  list : mg "list" = none
section
variable {P : Program} {w : World} {K : PySem.W.Frag} {mg : Str → Option Value} {base : Heap}
def spFrom : Sp := fun vs H Q _ => ∃ (v lo hi : Int), vs = [.int v, .int lo, .int hi] ∧ Q (.bl (decide (lo ≤ v) && decide (v < hi))) H
theorem scFrom : FnScope ["value", "low", "limit"] ["value", "low", "limit"] (defScope sIsFrom) := ⟨rfl, rfl, rfl, by decide +kernel, rfl, by decide +kernel, by decide +kernel⟩
theorem ok_from {f : Addr} {fd : FuncData} (F : Fun K "is_from" "is_from" sIsFrom f fd) (T : FTxt K mg) : FnOk P w K mg base CX0 1 f fd ["value", "low", "limit"] spFrom := by
  refine F.ok scFrom (fun vs H Q E h => ?_) (fun cdv A outer s H vs Q E hr h => ?_)
  · obtain ⟨v, lo, hi, rfl, _⟩ := h
    rfl
  obtain ⟨v, lo, hi, rfl, k⟩ := h
  refine ⟨_, pss_one (ps_ret (pe_and (pe_callB call_isi rfl T.isi PyProof.Rows.boot_isinstance (pa_cons (pv 0) (pa_cons (pe_bltn (v := .ty "int") rfl T.int PyProof.Rows.Boot.«int» rfl) pa_nil)))
    (pe_and (pe_not (pe_callB call_isi rfl T.isi PyProof.Rows.boot_isinstance (pa_cons (pv 0) (pa_cons (pe_bltn (v := .ty "bool") rfl T.bool PyProof.Rows.Boot.«bool» rfl) pa_nil))))
    (pe_one (pe_chain op_le op_lt (pv 1) (pv 0) (pv 2)))))), ?_⟩
  refine ⟨_, rfl, _, _, _, _, true, rfl, .ty _, .base (.int _), kit_ty (by decide +kernel), _, rfl, iteT ?_⟩
  refine ⟨_, rfl, _, _, _, _, false, rfl, .ty _, .base (.int _), kit_ty (by decide +kernel), _, rfl, _, rfl, iteT ?_⟩
  refine ⟨_, rfl, _, rfl, _, _, rfl, rfl, _, rfl, ?_⟩
  by_cases h1 : lo ≤ v
  · rw [decide_eq_true h1] at k ⊢
    rw [Bool.true_and] at k
    exact iteT ⟨_, rfl, _, _, rfl, rfl, k⟩
  · rw [decide_eq_false h1] at k ⊢
    rw [Bool.false_and] at k
    exact iteF k
def spTupOf (K : PySem.W.Frag) : Sp := fun vs H Q _ => ∃ (a : Addr) (xs : List V) (n : Int), vs = [.ref a, .int n] ∧ SqT K H a xs ∧ Q (.bl (decide ((xs.length : Int) = n))) H
theorem scTupOf : FnScope ["value", "many"] ["value", "many"] (defScope sIsTupleOf) := ⟨rfl, rfl, rfl, by decide +kernel, rfl, by decide +kernel, by decide +kernel⟩
theorem ok_tupOf {f : Addr} {fd : FuncData} (F : Fun K "is_tuple_of" "is_tuple_of" sIsTupleOf f fd) (T : FTxt K mg) : FnOk P w K mg base CX0 1 f fd ["value", "many"] (spTupOf K) := by
  refine F.ok scTupOf (fun vs H Q E h => ?_) (fun cdv A outer s H vs Q E hr h => ?_)
  · obtain ⟨a, xs, n, rfl, _⟩ := h
    rfl
  obtain ⟨a, xs, n, rfl, ha, k⟩ := h
  refine ⟨_, pss_one (ps_ret (pe_and (pe_callB call_isi rfl T.isi PyProof.Rows.boot_isinstance (pa_cons (pv 0) (pa_cons (pe_bltn (v := .ty "tuple") rfl T.tup PyProof.Rows.Boot.«tuple» rfl) pa_nil)))
    (pe_one (pe_cmpR op_eq (pe_callB call_len_seq rfl T.len PySem.boot_len (pa_cons (pv 0) pa_nil)) (pv 1) (nomark _))))), ?_⟩
  refine ⟨_, rfl, _, _, _, _, true, rfl, .ty _, ty_tup ha, kit_ty (by decide +kernel), _, rfl, iteT ?_⟩
  refine ⟨_, rfl, a, xs, rfl, .inr ha, _, rfl, rfl, ?_⟩
  have e : decide (V.int (xs.length : Nat) = V.int n) = decide ((xs.length : Int) = n) := by
    by_cases z : (xs.length : Int) = n
    · rw [decide_eq_true z]
      exact decide_eq_true (by rw [z])
    · rw [decide_eq_false z]
      exact decide_eq_false fun q => z (V.int.inj q)
  rw [e]
  exact k
end
end Hx
set_option maxRecDepth 100000
set_option maxHeartbeats 8000000
/-! What a deed's tests say of worths; what comes from a source. -/
namespace Hx
open PySem PySem.Spec PyProof.Rows L2
abbrev sWorked : Stmt := top 11
abbrev sFirst : Stmt := top 28
abbrev sHolds : Stmt := top 29
abbrev sPossible : Stmt := top 30
def testB (ws : List Int) (t : TestD) : Bool := decide (ws.getD t.j 0 = t.v) == t.same
def holdsB (ts : List TestD) (ws : List Int) : Bool := (ts.map (testB ws)).all id
theorem set3 {σ : L2.St} {i j k : Nat} {x y z : V} : wipe ((((wipe σ [i, j, k]).set i (some x)).set j (some y)).set k (some z)) [i, j, k] = wipe σ [i, j, k] := by
  refine wipe_of (fun m hm => ?_) (by simp [wipe_length])
  have h1 : i ≠ m := fun z => hm (by rw [← z]; simp)
  have h2 : j ≠ m := fun z => hm (by rw [← z]; simp)
  have h3 : k ≠ m := fun z => hm (by rw [← z]; simp)
  rw [List.getElem?_set_ne h3, List.getElem?_set_ne h2, List.getElem?_set_ne h1, wipe_get, if_neg hm]
theorem int_at {ws : List Int} {j : Nat} (h : j < ws.length) : (ws.map V.int)[j]? = some (.int (ws.getD j 0)) := by
  rw [List.getElem?_map, List.getD_eq_getElem?_getD, List.getElem?_eq_getElem h]
  rfl
section
variable {P : Program} {w : World} {K : PySem.W.Frag} {mg : Str → Option Value} {base : Heap} {C D fI : Addr}
/-! ### holds -/
def spHolds (D : Addr) (K : PySem.W.Frag) : Sp := fun vs H Q _ => ∃ (p aw : Addr) (people : List Str) (ks : List KindD) (d : DeedD) (N : Addr → Prop) (ws : List Int), vs = [.ref p, .ref aw] ∧ DeedAt K D H p people ks d N ∧ SqT K H aw (ws.map V.int) ∧ (∀ t ∈ d.ts, t.j < ws.length) ∧ d.ts.length ≤ 2 ∧
  ∀ H', Same H H' → Q (.bl (holdsB d.ts ws)) H'
theorem scHolds : FnScope ["deed", "worths", "place", "same", "worth"] ["deed", "worths"] (defScope sHolds) := ⟨rfl, rfl, rfl, by decide +kernel, rfl, by decide +kernel, by decide +kernel⟩
theorem ok_holds {f : Addr} {fd : FuncData} (F : Fun K "holds" "holds" sHolds f fd) (T : FTxt K mg) (DT : DTxt K mg D fI) : FnOk P w K mg base CX0 1 f fd ["deed", "worths"] (spHolds D K) := by
  refine F.ok scHolds (fun vs H Q E h => ?_) (fun cdv A outer s H vs Q E hr h => ?_)
  · obtain ⟨p, aw, people, ks, d, N, ws, rfl, _⟩ := h
    rfl
  obtain ⟨p, aw, people, ks, d, N, ws, rfl, da, hw, hj, t2, k⟩ := h
  have nd := scHolds.nd
  refine ⟨_, pss_one (ps_ret (pe_callB (cr_all rfl) rfl T.all PyProof.Rows.boot_all (pa_cons
    (pe_lc (own := [("place", 2), ("same", 3), ("worth", 4)]) (g := gTup K 3 (gCons (gName 2) (gCons (gName 3) (gCons (gName 4) gNil)))) (tt := tYes) rfl nd (pi_list (pe_fld (pv 0) rfl)) (blkOk_by (N := ["deed", "worths", "place", "same", "worth"]) (sc := defScope sHolds) (by decide +kernel))
      (fun _ _ _ _ _ => pg_tupK K (pgs_cons (pg_name (i := 2) nd rfl (Or.inl rfl)) (pgs_cons (pg_name (i := 3) nd rfl (Or.inl rfl)) (pgs_cons (pg_name (i := 4) nd rfl (Or.inl rfl)) pgs_nil)))) (fun _ _ _ _ _ => pts_nil)
      (fun _ _ _ _ _ => pe_cmpR op_eq (pe_cmpR op_eq (pe_ix (ix_tupK K) (pv 1) (pv 2) (fun _ _ => rfl)) (pv 4) (nomark _)) (pv 3) (nomark _))) pa_nil))), ?_⟩
  obtain ⟨dx, ab, at_, ach, ar, _, ob, _, ⟨xs, et, tt⟩, _⟩ := da.ex
  have ln := tt.length
  rw [List.length_map] at ln
  refine ⟨_, rfl, p, D, dx, _, _, rfl, ob, DT.cl, DT.nT, rfl, at_, rfl, ⟨_, SqL.of et⟩, fun G hG => lc_list (xs := xs) (fun i H' => Same H H' ∧ H' G = some (.lst (((d.ts.take i).map (testB ws)).map V.bl))) ⟨same_new hG _, upd_same⟩ (fun i H' _ z => SqL.of (z.1 _ _ et)) ?_ ?_⟩
  · rintro i x H' hi ⟨sm, eG⟩
    obtain ⟨q, eq_, tq⟩ := tt.get hi
    rw [List.getElem?_map] at eq_
    obtain ⟨t, et', rfl⟩ : ∃ t, d.ts[i]? = some t ∧ q = t.d := by
      cases e : d.ts[i]? with
      | none =>
        rw [e] at eq_
        cases eq_
      | some t =>
        rw [e] at eq_
        exact ⟨t, rfl, (Option.some.inj eq_).symm⟩
    obtain ⟨a, ys, rfl, ha, hy⟩ := tp_tup (tq.same sm)
    cases hy with
    | cons g0 g1 =>
    cases g1 with
    | cons g1 g2 =>
    cases g2 with
    | cons g2 g3 =>
    cases g3
    have e0 := tp_int g0
    subst e0
    have e2 := tp_int g2
    subst e2
    cases g1
    have hlt := hj t (List.mem_of_getElem? et')
    refine ⟨a, _, rfl, ha, rfl, _, _, rfl, _, _, rfl, _, _, rfl, rfl, set3, yes ?_⟩
    refine ⟨_, rfl, _, rfl, aw, _, _, _, rfl, rfl, same_sqt sm hw, atI_nat (int_at hlt), _, rfl, rfl, _, rfl, rfl, _, eG, ?_, same_grow hG sm, ?_⟩
    · rw [List.length_map, List.length_map, List.length_take]
      exact small1000 (by omega)
    · have e5 : decide (V.bl (decide (V.int (ws.getD t.j 0) = V.int t.v)) = V.bl t.same) = testB ws t := by
        unfold testB
        by_cases z : ws.getD t.j 0 = t.v
        · rw [decide_eq_true z, decide_eq_true (show V.int (ws.getD t.j 0) = V.int t.v by rw [z])]
          cases t.same <;> rfl
        · rw [decide_eq_false z, decide_eq_false (fun q => z (V.int.inj q))]
          cases t.same <;> rfl
      show upd H' G (.lst (((d.ts.take i).map (testB ws)).map V.bl ++ [V.bl (decide (V.bl (decide (V.int (ws.getD t.j 0) = V.int t.v)) = V.bl t.same))])) G = _
      rw [upd_same, e5, List.take_add_one, et', List.map_append, List.map_append]
      rfl
  · rintro H' ⟨sm, eG⟩
    rw [ln, List.take_length] at eG
    exact ⟨G, _, rfl, SqL.of eG, k H' sm⟩
/-! ### worked_out -/
def Src.out (ws : List Int) (who : Str) (it : Int) : Src → PyData
  | .it => .int it
  | .cell j => .int (ws.getD j 0)
  | .who => .str who
  | .num v => .int v
  | .person x => .str x
def Src.inn (ws : List Int) : Src → Prop
  | .cell j => j < ws.length
  | _ => True
def spWork (K : PySem.W.Frag) : Sp := fun vs H Q _ => ∃ (v : V) (aw : Addr) (s : Src) (ws : List Int) (who : Str) (it : Int), vs = [v, .ref aw, .str who, .int it] ∧ Tp K H v s.d ∧ (SqT K H aw (ws.map V.int) ∨ SqL K H aw (ws.map V.int)) ∧ s.inn ws ∧ ∀ u, Tp K H u (s.out ws who it) → Q u H
theorem scWork : FnScope ["source", "worths", "who", "it", "word", "what"] ["source", "worths", "who", "it"] (defScope sWorked) := ⟨rfl, rfl, rfl, by decide +kernel, rfl, by decide +kernel, by decide +kernel⟩
theorem ok_work {f : Addr} {fd : FuncData} (F : Fun K "worked_out" "worked_out" sWorked f fd) : FnOk P w K mg base CX0 1 f fd ["source", "worths", "who", "it"] (spWork K) := by
  refine F.ok scWork (fun vs H Q E h => ?_) (fun cdv A outer s H vs Q E hr h => ?_)
  · obtain ⟨v, aw, s, ws, who, it, rfl, _⟩ := h
    rfl
  obtain ⟨v, aw, s, ws, who, it, rfl, tv, hw, hin, k⟩ := h
  have nd := scWork.nd
  refine ⟨_, pss_cons (ps_asg (pv 0) (pg_tup rfl (pgs_cons (pg_name (i := 4) nd rfl (.inl rfl)) (pgs_cons (pg_name (i := 5) nd rfl (.inl rfl)) pgs_nil))))
    (pss_cons (ps_if (pt_cmpR op_eq (pv 4) pe_str (nomark _)) (pss_one (ps_ret (pe_ix ix_seq (pv 1) (pv 5) (fun _ _ => rfl)))) pss_nil)
    (pss_cons (ps_if (pt_cmpR op_eq (pv 4) pe_str (nomark _)) (pss_one (ps_ret (pv 3))) pss_nil)
    (pss_cons (ps_if (pt_cmpR op_eq (pv 4) pe_str (nomark _)) (pss_one (ps_ret (pv 2))) pss_nil)
    (pss_one (ps_ret (pv 5)))))), ?_⟩
  obtain ⟨z1, z2, z3, e⟩ : ∃ (a : Addr) (x : Str) (u : V), v = .ref a ∧ SqT K H a [.str x, u] ∧ ((x = "cell" ∧ ∃ j, s = .cell j ∧ u = .int (j : Nat)) ∨ (x = "it" ∧ s = .it) ∨ (x = "who" ∧ s = .who) ∨ (x = "plain" ∧ Tp K H u (s.out ws who it))) := by
    cases s <;> obtain ⟨a, ys, rfl, ha, hy⟩ := tp_tup tv <;> cases hy <;> rename_i g0 g1 <;> cases g1 <;> rename_i g1 g2 <;> cases g2 <;> have e0 := tp_str g0 <;> subst e0
    · exact ⟨a, _, _, rfl, ha, .inr (.inl ⟨rfl, rfl⟩)⟩
    · have e1 := tp_int g1
      subst e1
      exact ⟨a, _, _, rfl, ha, .inl ⟨rfl, _, rfl, rfl⟩⟩
    · exact ⟨a, _, _, rfl, ha, .inr (.inr (.inl ⟨rfl, rfl⟩))⟩
    · exact ⟨a, _, _, rfl, ha, .inr (.inr (.inr ⟨rfl, g1⟩))⟩
    · exact ⟨a, _, _, rfl, ha, .inr (.inr (.inr ⟨rfl, g1⟩))⟩
  obtain ⟨rfl, ha, e⟩ := e
  refine ⟨_, rfl, z1, _, rfl, ha, rfl, _, _, rfl, _, _, rfl, rfl, ?_⟩
  refine ⟨_, rfl, rfl, _, rfl, ?_⟩
  rcases e with ⟨rfl, j, rfl, rfl⟩ | ⟨rfl, rfl⟩ | ⟨rfl, rfl⟩ | ⟨rfl, tu⟩
  · have e : decide (V.str "cell" = V.str "cell") = true := decide_eq_true rfl
    rw [e]
    refine iteT ⟨_, rfl, _, rfl, ?_⟩
    have hj : j < ws.length := hin
    rcases hw with hw | hw
    · exact .inr (.inl ⟨aw, _, _, _, rfl, rfl, hw, atI_nat (int_at hj), k _ (.int _)⟩)
    · exact .inl ⟨aw, _, _, _, rfl, rfl, hw, atI_nat (int_at hj), k _ (.int _)⟩
  · have e : decide (V.str "it" = V.str "cell") = false := by decide +kernel
    have e' : decide (V.str "it" = V.str "it") = true := decide_eq_true rfl
    rw [e]
    refine iteF ⟨_, rfl, rfl, _, rfl, ?_⟩
    rw [e']
    exact iteT ⟨_, rfl, k _ (.int _)⟩
  · have e : decide (V.str "who" = V.str "cell") = false := by decide +kernel
    have e' : decide (V.str "who" = V.str "it") = false := by decide +kernel
    have e2 : decide (V.str "who" = V.str "who") = true := decide_eq_true rfl
    rw [e]
    refine iteF ⟨_, rfl, rfl, _, rfl, ?_⟩
    rw [e']
    refine iteF ⟨_, rfl, rfl, _, rfl, ?_⟩
    rw [e2]
    exact iteT ⟨_, rfl, k _ (.str _)⟩
  · have e : decide (V.str "plain" = V.str "cell") = false := by decide +kernel
    have e' : decide (V.str "plain" = V.str "it") = false := by decide +kernel
    have e2 : decide (V.str "plain" = V.str "who") = false := by decide +kernel
    rw [e]
    refine iteF ⟨_, rfl, rfl, _, rfl, ?_⟩
    rw [e']
    refine iteF ⟨_, rfl, rfl, _, rfl, ?_⟩
    rw [e2]
    exact iteF ⟨_, rfl, k _ tu⟩
end
end Hx
set_option maxRecDepth 100000
set_option maxHeartbeats 8000000
/-! Stands and moves of a house. -/
namespace Hx
open PySem PySem.Spec PyProof.Rows L2
theorem HouseAt.same {K : PySem.W.Frag} {D E : Addr} {H H' : Hp} {p : Addr} {t : Str} {h : HouseD} (s : Same H H') (a : HouseAt K D E H p t h) : HouseAt K D E H' p t h := by
  obtain ⟨dx, ap, ac, ak, ad, as_, ao, ps, qs, ob, pp, tc, tk, td, es, dd, ro, ra, pm, pw⟩ := a.ex
  exact ⟨dx, ap, ac, ak, ad, as_, ao, ps, qs, s _ _ ob, same_sqt s pp, tc.same s, tk.same s, td.same s, s _ _ es, dd.map fun _ _ _ z => z.same s, same_sqt s ro, fun q hq => same_sqt s (ra q hq), pm, pw⟩
def standD (ws : List Int) (t : Int) : PyData := .tuple [.tuple (ws.map PyData.int), .int t]
inductive MoveD where
  | night | act (x who : Str) (it : Int)
def MoveD.d : MoveD → PyData
  | .night => .tuple [.str "night"]
  | .act x who it => .tuple [.str "do", .str x, .str who, .int it]
theorem tpa_ints {K : PySem.W.Frag} {H : Hp} : ∀ {vs : List V} {xs : List Int}, TpAll K H vs (xs.map PyData.int) → vs = xs.map V.int
  | _, [], .nil => rfl
  | _, _ :: _, .cons a r => by rw [tp_int a, tpa_ints r]; rfl
theorem tpa_of_ints {K : PySem.W.Frag} {H : Hp} : ∀ xs : List Int, TpAll K H (xs.map V.int) (xs.map PyData.int)
  | [] => .nil
  | x :: r => .cons (.int x) (tpa_of_ints r)
theorem name_str {x : Str} (h : nameB x = true) : PyData.strOk x = true := by
  obtain ⟨_, _, hc⟩ := name_is h
  unfold PyData.strOk
  rw [← Array.all_toList, List.all_eq_true]
  intro c hm
  have := hc c hm
  exact decide_eq_true (by omega)
theorem shaped_night : SeqAt.shaped MoveD.night.d = true := by decide +kernel
theorem shaped_act {x who : Str} (it : Int) (h1 : PyData.strOk x = true) (h2 : PyData.strOk who = true) : SeqAt.shaped (MoveD.act x who it).d = true := by
  have e : PyData.strOk "do" = true := by decide +kernel
  simp [SeqAt.shaped, MoveD.d, PyData.canLay0, PyData.canLayAll0, PyData.depth, PyData.depthAll, h1, h2, e]
/-- what the module's NIGHT is, what the names of a house are -/
structure STxt (K : PySem.W.Frag) (mg : Str → Option Value) (E : Addr) : Prop where
  F : FTxt K mg
  night : ∃ aN, mg "NIGHT" = some (.ref aN) ∧ ∀ H, SqT K H aN [.str "night"]
  tuple : mg "tuple" = none
  cl : L2.Cls K E
  n2 : NoAttr K E "people"
  n3 : NoAttr K E "cells"
  n5 : NoAttr K E "deeds"
  n6 : NoAttr K E "scripts"
  n7 : NoAttr K E "doings"
  n8 : NoAttr K E "day"
theorem walk_zipT {K : PySem.W.Frag} {a b : Addr} {xs ys : List V} {n : Nat} (h1 : xs.length = n) (h2 : ys.length = n) : Walk (RZ.ItzT K a b) n (fun H => SqT K H a xs ∧ SqT K H b ys) (YPair (fun i => xs[i]?) (fun i => ys[i]?)) :=
  ⟨fun i H hi ⟨q1, q2⟩ => ⟨xs, ys, xs[i]'(by omega), ys[i]'(by omega), q1, q2, List.getElem?_eq_getElem _, List.getElem?_eq_getElem _⟩, fun H ⟨q1, q2⟩ => ⟨xs, ys, q1, q2, .inl (by omega)⟩,
    fun i H x H' _ ⟨q1, q2⟩ ⟨T, u, v, e1, e2, e3, f1, f2⟩ => ⟨T, u, v, e1, e2, e3, f1 xs q1, f2 ys q2⟩⟩
theorem tp_night {K : PySem.W.Frag} {H : Hp} {a : Addr} (h : SqT K H a [.str "night"]) : Tp K H (.ref a) MoveD.night.d := .tup h (.cons (.str _) .nil)
section
variable {P : Program} {w : World} {K : PySem.W.Frag} {mg : Str → Option Value} {base : Heap} {D E fI : Addr}
/-! ### first_stand -/
def spFirst (D E : Addr) (K : PySem.W.Frag) : Sp := fun vs H Q _ => ∃ (p : Addr) (t : Str) (h : HouseD), vs = [.ref p] ∧ HouseAt K D E H p t h ∧ h.cs.length ≤ 3 ∧ ∀ v H', Same H H' → Tp K H' v (standD (h.cs.map (·.i)) 0) → Q v H'
theorem scFirst : FnScope ["house", "_", "first"] ["house"] (defScope sFirst) := ⟨rfl, rfl, rfl, by decide +kernel, rfl, by decide +kernel, by decide +kernel⟩
theorem set3' {σ : L2.St} {i j : Nat} {x y z : V} : wipe ((((wipe σ [i, j]).set i (some x)).set i (some y)).set j (some z)) [i, j] = wipe σ [i, j] := by
  refine wipe_of (fun m hm => ?_) (by simp [wipe_length])
  have h1 : i ≠ m := fun z => hm (by rw [← z]; simp)
  have h2 : j ≠ m := fun z => hm (by rw [← z]; simp)
  rw [List.getElem?_set_ne h2, List.getElem?_set_ne h1, List.getElem?_set_ne h1, wipe_get, if_neg hm]
theorem ok_first {f : Addr} {fd : FuncData} (F : Fun K "first_stand" "first_stand" sFirst f fd) (T : STxt K mg E) : FnOk P w K mg base CX0 1 f fd ["house"] (spFirst D E K) := by
  refine F.ok scFirst (fun vs H Q E h => ?_) (fun cdv A outer s H vs Q Ex hr h => ?_)
  · obtain ⟨p, t, h, rfl, _⟩ := h
    rfl
  obtain ⟨p, t, h, rfl, ha, c3, k⟩ := h
  have nd := scFirst.nd
  refine ⟨_, pss_one (ps_ret (pe_tup (pa_cons (pe_callTy call_tuple_of rfl T.tuple PyProof.Rows.Boot.«tuple» (pa_cons
    (pe_lc (own := [("_", 1), ("first", 2)]) (g := gTup K 3 (gCons (gName 1) (gCons (gName 1) (gCons (gName 2) gNil)))) (tt := tYes) rfl nd (pi_tup (pe_fld (pv 0) rfl)) (blkOk_by (N := ["house", "_", "first"]) (sc := defScope sFirst) (by decide +kernel))
      (fun _ _ _ _ _ => pg_tupK K (pgs_cons (pg_name (i := 1) nd rfl (Or.inl rfl)) (pgs_cons (pg_name (i := 1) nd rfl (Or.inl rfl)) (pgs_cons (pg_name (i := 2) nd rfl (Or.inl rfl)) pgs_nil)))) (fun _ _ _ _ _ => pts_nil)
      (fun _ _ _ _ _ => pv 2)) pa_nil)) (pa_cons pe_int pa_nil)))), ?_⟩
  obtain ⟨dx, ap, ac, ak, ad, as_, ao, ps, qs, ob, pp, tc, _⟩ := ha.ex
  obtain ⟨xs, hs, ht⟩ := sqt_refs tc
  have ln : xs.length = h.cs.length := by rw [ht.length, List.length_map]
  refine ⟨_, rfl, p, E, dx, _, _, rfl, ob, T.cl, T.n3, rfl, ac, rfl, ⟨_, hs⟩, fun G hG => lc_tup (xs := xs) (fun i H' => Same H H' ∧ H' G = some (.lst (((h.cs.take i).map (·.i)).map V.int))) ⟨same_new hG _, upd_same⟩ (fun i H' _ z => same_sqt z.1 hs) ?_ ?_⟩
  · rintro i x H' hi ⟨sm, eG⟩
    obtain ⟨q, eq_, tq⟩ := ht.get hi
    rw [List.getElem?_map] at eq_
    obtain ⟨c, ec, rfl⟩ : ∃ c, h.cs[i]? = some c ∧ q = c.d := by
      cases e : h.cs[i]? with
      | none =>
        rw [e] at eq_
        cases eq_
      | some t =>
        rw [e] at eq_
        exact ⟨t, rfl, (Option.some.inj eq_).symm⟩
    obtain ⟨a, ys, rfl, hya, hy⟩ := tp_tup (tq.same sm)
    cases hy with
    | cons g0 g1 =>
    cases g1 with
    | cons g1 g2 =>
    cases g2 with
    | cons g2 g3 =>
    cases g3
    have e2 := tp_int g2
    subst e2
    refine ⟨a, _, rfl, hya, rfl, _, _, rfl, _, _, rfl, _, _, rfl, rfl, set3', yes ?_⟩
    refine ⟨_, rfl, _, eG, ?_, same_grow hG sm, ?_⟩
    · rw [List.length_map, List.length_map, List.length_take]
      exact small1000 (by omega)
    · rw [upd_same, List.take_add_one, ec, List.map_append, List.map_append]
      rfl
  · rintro H' ⟨sm, eG⟩
    rw [ln, List.take_length] at eG
    refine ⟨G, _, rfl, .inl ⟨SqL.of eG, fun r hr' => ?_⟩⟩
    have s1 := same_new hr' (.tup ((h.cs.map (·.i)).map V.int))
    refine ⟨sz (by decide : 2 ≤ 1000), fun u hu => ?_⟩
    have s2 := same_new hu (.tup [.ref r, .int 0])
    exact k _ _ (sm.trans (s1.trans s2)) (.tup (SqT.of upd_same) (.cons (.tup (same_sqt s2 (SqT.of upd_same)) (tpa_of_ints _)) (.cons (.int _) .nil)))
/-! ### is_stand -/
/-- worths that fit the cells -/
def Fits (cs : List CellD) (ws : List Int) : Prop := ws.length = cs.length ∧ ∀ (j : Nat) (c : CellD), cs[j]? = some c → 0 ≤ ws.getD j 0 ∧ ws.getD j 0 < c.z
def spStand (D E : Addr) (K : PySem.W.Frag) : Sp := fun vs H Q _ => ∃ (p : Addr) (t : Str) (h : HouseD) (v : V) (ws : List Int) (n : Int), vs = [.ref p, v] ∧ HouseAt K D E H p t h ∧ h.cs.length ≤ 3 ∧ Tp K H v (standD ws n) ∧ Fits h.cs ws ∧ 0 ≤ n ∧ n ≤ h.day ∧ ∀ H', Same H H' → Q (.bl true) H'
theorem scStand : FnScope ["house", "value", "fits", "worth", "_", "size"] ["house", "value"] (defScope sIsStand) := ⟨rfl, rfl, rfl, by decide +kernel, rfl, by decide +kernel, by decide +kernel⟩
theorem ok_stand {f : Addr} {fd : FuncData} (F : Fun K "is_stand" "is_stand" sIsStand f fd) (T : STxt K mg E) (GF : DefOk P w K mg base "is_from" 1 ["value", "low", "limit"] spFrom) (GT : DefOk P w K mg base "is_tuple_of" 1 ["value", "many"] (spTupOf K)) :
    FnOk P w K mg base CX0 2 f fd ["house", "value"] (spStand D E K) := by
  refine F.ok scStand (fun vs H Q E h => ?_) (fun cdv A outer s H vs Q Ex hr h => ?_)
  · obtain ⟨p, t, h, v, ws, n, rfl, _⟩ := h
    rfl
  obtain ⟨p, t, h, v, ws, n, rfl, ha, c3, tv, ⟨fl, fj⟩, n0, n1, k⟩ := h
  have nd := scStand.nd
  refine ⟨_, pss_cons (ps_if (PW.pt (pw_or (pt_not (pt_val (pe_D GT hr rfl (pa_cons (pv 1) (pa_cons pe_int pa_nil))))) (pw_or1 (pt_not (pt_val (pe_D GT hr rfl (pa_cons (pe_ix ix_tup (pv 1) pe_int (fun _ _ => rfl)) (pa_cons (pe_callB call_len_seq rfl T.F.len PySem.boot_len (pa_cons (pe_fld (pv 0) rfl) pa_nil)) pa_nil)))))))) pss_never pss_nil)
    (pss_cons (ps_setLc (i := 2) (own := [("worth", 3), ("_", 4), ("size", 5)]) (g := gTup K 2 (gCons (gName 3) (gCons (gTup K 3 (gCons (gName 4) (gCons (gName 5) (gCons (gName 4) gNil)))) gNil))) (tt := tYes) rfl nd rfl rfl (sw_true rfl rfl rfl (by decide +kernel))
      (RZ.pi_zipA rfl T.F.zip (pa_cons (pe_ix ix_tup (pv 1) pe_int (fun _ _ => rfl)) (pa_cons (pe_fld (pv 0) rfl) pa_nil))) (blkOk_by (N := ["house", "value", "fits", "worth", "_", "size"]) (sc := defScope sIsStand) (by decide +kernel))
      (fun _ _ _ _ _ => pg_tupK K (pgs_cons (pg_name (i := 3) nd rfl (Or.inl rfl)) (pgs_cons (pg_tupK K (pgs_cons (pg_name (i := 4) nd rfl (Or.inl rfl)) (pgs_cons (pg_name (i := 5) nd rfl (Or.inl rfl)) (pgs_cons (pg_name (i := 4) nd rfl (Or.inl rfl)) pgs_nil)))) pgs_nil))) (fun _ _ _ _ _ => pts_nil)
      (fun _ _ _ _ _ => pe_D GF hr rfl (pa_cons (pv 3) (pa_cons pe_int (pa_cons (pv 5) pa_nil)))))
    (pss_one (ps_ret (pe_and (pe_callB (cr_all rfl) rfl T.F.all PyProof.Rows.boot_all (pa_cons (pv 2) pa_nil)) (pe_one (pe_D GF hr rfl (pa_cons (pe_ix ix_tup (pv 1) pe_int (fun _ _ => rfl)) (pa_cons pe_int (pa_cons (pe_op op_add (pe_fld (pv 0) rfl) pe_int) pa_nil))))))))), ?_⟩
  obtain ⟨dx, ap, ac, ak, ad, as_, ao, ps, qs, ob, pp, tc, _⟩ := ha.ex
  obtain ⟨xs, hs, ht⟩ := sqt_refs tc
  have ln : xs.length = h.cs.length := by rw [ht.length, List.length_map]
  obtain ⟨va, vys, rfl, hva, hvy⟩ := tp_tup tv
  cases hvy with
  | cons g0 g1 =>
  cases g1 with
  | cons g1 g2 =>
  cases g2
  have e1 := tp_int g1
  subst e1
  obtain ⟨wa, wys, rfl, hwa, hwy⟩ := tp_tup g0
  have ew := tpa_ints hwy
  subst ew
  refine ⟨_, rfl, va, _, 2, rfl, hva, _, rfl, ?_⟩
  refine iteF ?_
  refine ⟨_, rfl, va, _, 0, _, rfl, rfl, hva, rfl, _, rfl, p, E, dx, _, _, rfl, ob, T.cl, T.n3, rfl, ac, _, rfl, .inr hs, wa, _, _, rfl, hwa, _, rfl, ?_⟩
  have e2 : decide (((ws.map V.int).length : Int) = (xs.length : Nat)) = true := decide_eq_true (by rw [List.length_map, fl, ln])
  rw [e2]
  refine iteF ?_
  unfold tNext
  dsimp only
  refine seq_asg ?_
  refine ⟨_, rfl, va, _, 0, _, rfl, rfl, hva, rfl, _, rfl, p, E, dx, _, _, rfl, ob, T.cl, T.n3, rfl, wa, ac, ws.map V.int, xs, rfl, .inr ⟨hwa, hs, ?_⟩⟩
  intro G hG
  refine lc_it (walk_zipT (xs := ws.map V.int) (ys := xs) (n := h.cs.length) (by rw [List.length_map, fl]) ln) (fun i H' => Same H H' ∧ H' G = some (.lst ((List.replicate i true).map V.bl))) ⟨same_new hG _, upd_same⟩ (fun i H' _ z => ⟨same_sqt z.1 hwa, same_sqt z.1 hs⟩) ?_ ?_
  · rintro i x H1 H2 hi ⟨sm, eG⟩ ⟨T', u, v, rfl, hT, rfl, eu, ev⟩
    have hij : i < ws.length := by omega
    have eu' : some (V.int (ws.getD i 0)) = some u := (int_at hij).symm.trans eu
    cases eu'
    have sT := same_new hT (.tup [.int (ws.getD i 0), v])
    obtain ⟨q, eq_, tq⟩ := ht.get ev
    rw [List.getElem?_map] at eq_
    obtain ⟨c, ec, rfl⟩ : ∃ c, h.cs[i]? = some c ∧ q = c.d := by
      cases e : h.cs[i]? with
      | none =>
        rw [e] at eq_
        cases eq_
      | some t =>
        rw [e] at eq_
        exact ⟨t, rfl, (Option.some.inj eq_).symm⟩
    obtain ⟨a, ys, rfl, hya, hy⟩ := tp_tup ((tq.same sm).same sT)
    cases hy with
    | cons g0 g1 =>
    cases g1 with
    | cons g1 g2 =>
    cases g2 with
    | cons g2 g3 =>
    cases g3
    have e1 := tp_int g1
    subst e1
    obtain ⟨w1, w2⟩ := fj i c ec
    refine ⟨T', _, rfl, SqT.of upd_same, rfl, _, _, rfl, _, _, rfl, a, _, rfl, hya, rfl, _, _, rfl, _, _, rfl, _, _, rfl, rfl, rfl, ?_, yes ?_⟩
    · refine wipe_of (fun m hm => ?_) (by simp [wipe_length])
      have h1 : 3 ≠ m := fun z => hm (by rw [← z]; simp)
      have h2 : 4 ≠ m := fun z => hm (by rw [← z]; simp)
      have h3 : 5 ≠ m := fun z => hm (by rw [← z]; simp)
      rw [List.getElem?_set_ne h2, List.getElem?_set_ne h3, List.getElem?_set_ne h2, List.getElem?_set_ne h1, wipe_get, if_neg hm]
    · refine ⟨_, rfl, _, rfl, _, _, _, rfl, ?_⟩
      have e9 : (decide (0 ≤ ws.getD i 0) && decide (ws.getD i 0 < c.z)) = true := by rw [decide_eq_true w1, decide_eq_true w2]; rfl
      rw [e9]
      refine ⟨_, sT _ _ eG, ?_, same_grow hG (sm.trans sT), ?_⟩
      · rw [List.length_map, List.length_replicate]
        exact small1000 (by omega)
      · rw [upd_same, List.replicate_succ', List.map_append]
        rfl
  · rintro H1 ⟨sm, eG⟩
    refine ⟨_, rfl, G, _, rfl, SqL.of eG, ?_⟩
    rw [replicate_all]
    refine ⟨_, rfl, iteT ?_⟩
    refine ⟨_, rfl, va, _, 1, _, rfl, rfl, same_sqt sm hva, rfl, _, rfl, p, E, dx, _, _, rfl, sm _ _ ob, T.cl, T.n8, rfl, _, _, rfl, rfl, _, _, _, rfl, ?_⟩
    have e9 : (decide (0 ≤ n) && decide (n < h.day + 1)) = true := by rw [decide_eq_true n0, decide_eq_true (by omega)]; rfl
    rw [e9]
    exact k _ sm
end
end Hx
set_option maxRecDepth 100000
set_option maxHeartbeats 8000000
/-! Moves of a house. -/
namespace Hx
open PySem PySem.Spec PyProof.Rows L2
theorem valV_zip : ∀ {ds : List DeedD} {ps : List Addr} {j : Nat} {d : DeedD} {p : Addr}, (ds.map (·.x)).Nodup → ds[j]? = some d → ps[j]? = some p → valV ((ds.map fun d => (Sum.inr d.x : Key)).zip (ps.map V.ref)) (Sum.inr d.x : Key) = some (.ref p)
  | d0 :: ds, p0 :: ps, 0, d, p, _, e1, e2 => by
    cases e1
    cases e2
    exact valV_pos rfl
  | d0 :: ds, p0 :: ps, j + 1, d, p, nd, e1, e2 => by
    have e1' : ds[j]? = some d := by simpa using e1
    have e2' : ps[j]? = some p := by simpa using e2
    have nd' : d0.x ∉ ds.map (·.x) ∧ (ds.map (·.x)).Nodup := by simpa using nd
    have ne : d0.x ≠ d.x := fun z => nd'.1 (List.mem_map.mpr ⟨d, List.mem_of_getElem? e1', z.symm⟩)
    show valV ((Sum.inr d0.x, V.ref p0) :: _) _ = _
    rw [valV_neg (fun z => ne (Sum.inr.inj z))]
    exact valV_zip nd'.2 e1' e2'
  | [], _, _, _, _, _, e1, _ => by simp at e1
  | _ :: _, [], _, _, _, _, _, e2 => by simp at e2
inductive MayB (h : HouseD) (ws : List Int) (n : Int) : MoveD → Bool → Prop
  | night : MayB h ws n .night true
  | act {j : Nat} {d : DeedD} {who : Str} {it : Int} : h.ds[j]? = some d → PyData.strOk d.x = true → PyData.strOk who = true → (∀ t ∈ d.ts, t.j < ws.length) → d.ts.length ≤ 2 → MayB h ws n (.act d.x who it) (decide (n < h.day) && holdsB d.ts ws)
theorem eq_night : PyData.eqv MoveD.night.d MoveD.night.d = true := by decide +kernel
theorem eq_act (x who : Str) (it : Int) : PyData.eqv (MoveD.act x who it).d MoveD.night.d = false := rfl
section
variable {P : Program} {w : World} {K : PySem.W.Frag} {mg : Str → Option Value} {base : Heap} {D E fI : Addr}
def spPoss (D E : Addr) (K : PySem.W.Frag) : Sp := fun vs H Q _ => ∃ (p : Addr) (t : Str) (h : HouseD) (v u : V) (ws : List Int) (n : Int) (m : MoveD) (b : Bool), vs = [.ref p, v, u] ∧ HouseAt K D E H p t h ∧ (h.ds.map (·.x)).Nodup ∧ Tp K H v (standD ws n) ∧ Tp K H u m.d ∧ MayB h ws n m b ∧
  ∀ H', Same H H' → Q (.bl b) H'
theorem scPoss : FnScope ["house", "stand", "move", "worths", "today"] ["house", "stand", "move"] (defScope sPossible) := ⟨rfl, rfl, rfl, by decide +kernel, rfl, by decide +kernel, by decide +kernel⟩
theorem ok_poss {f : Addr} {fd : FuncData} (F : Fun K "is_possible" "is_possible" sPossible f fd) (T : STxt K mg E) (GH : DefOk P w K mg base "holds" 1 ["deed", "worths"] (spHolds D K)) : FnOk P w K mg base CX0 2 f fd ["house", "stand", "move"] (spPoss D E K) := by
  refine F.ok scPoss (fun vs H Q E h => ?_) (fun cdv A outer s H vs Q Ex hr h => ?_)
  · obtain ⟨p, t, h, v, u, ws, n, m, b, rfl, _⟩ := h
    rfl
  obtain ⟨p, t, h, v, u, ws, n, m, b, rfl, ha, dn, tv, tu, may, k⟩ := h
  have nd := scPoss.nd
  have hu := hr.units
  obtain ⟨aN, mgN, hN⟩ := T.night
  refine ⟨_, pss_cons (ps_asg (pv 1) (pg_tup rfl (pgs_cons (pg_name (i := 3) nd rfl (.inl rfl)) (pgs_cons (pg_name (i := 4) nd rfl (.inl rfl)) pgs_nil))))
    (pss_one (ps_ret (pe_or (pe_cmpR (op_eqD hu) (pv 2) (pe_glob (v := .ref aN) rfl mgN rfl) (nomark _)) (pe_one (pe_and (pe_cmpR op_lt (pv 4) (pe_fld (pv 0) rfl) (nomark _)) (pe_one (pe_D GH hr rfl (pa_cons (pe_dget (hu_of hr) (pe_fld (pv 0) rfl) (pe_ix ix_tup (pv 2) pe_int (fun _ _ => rfl)) (fun _ _ => rfl)) (pa_cons (pv 3) pa_nil)))))))) ), ?_⟩
  obtain ⟨dx, ap, ac, ak, ad, as_, ao, ps, qs, ob, pp, tc, tk, td, es, dd, _⟩ := ha.ex
  obtain ⟨va, vys, rfl, hva, hvy⟩ := tp_tup tv
  cases hvy with
  | cons g0 g1 =>
  cases g1 with
  | cons g1 g2 =>
  cases g2
  have e1 := tp_int g1
  subst e1
  obtain ⟨wa, wys, rfl, hwa, hwy⟩ := tp_tup g0
  have ew := tpa_ints hwy
  subst ew
  refine ⟨_, rfl, va, _, rfl, hva, rfl, _, _, rfl, _, _, rfl, rfl, ?_⟩
  cases may with
  | night =>
    refine ⟨_, rfl, MoveD.night.d, MoveD.night.d, tu.dp, (tp_night (hN _)).dp, shaped_night, shaped_night, _, rfl, ?_⟩
    rw [eq_night]
    exact iteT (k _ (same_refl _))
  | @act j d who it ej s1 s2 tj t2 =>
    refine ⟨_, rfl, (MoveD.act d.x who it).d, MoveD.night.d, tu.dp, (tp_night (hN _)).dp, shaped_act it s1 s2, shaped_night, _, rfl, ?_⟩
    rw [eq_act]
    refine iteF ⟨_, rfl, _, rfl, p, E, dx, _, _, rfl, ob, T.cl, T.n8, rfl, _, _, rfl, rfl, _, rfl, ?_⟩
    by_cases hn : n < h.day
    · rw [decide_eq_true hn] at k ⊢
      rw [Bool.true_and] at k
      refine iteT ?_
      obtain ⟨ua, uys, rfl, hua, huy⟩ := tp_tup tu
      cases huy with
      | cons u0 u1 =>
      cases u1 with
      | cons u1 u2 =>
      have e1 := tp_str u1
      subst e1
      have np : ps.length = h.ds.length := dd.len
      have jl : j < ps.length := by rw [np]; exact (List.getElem?_eq_some_iff.mp ej).1
      have ep : ps[j]? = some ps[j] := List.getElem?_eq_getElem jl
      obtain ⟨d', ed', da, _⟩ := dd.at ep
      rw [ej] at ed'
      cases ed'
      refine ⟨_, rfl, p, E, dx, _, _, rfl, ob, T.cl, T.n6, rfl, _, rfl, ua, _, 1, _, rfl, rfl, hua, atI_nat (j := 1) rfl, as_, .ref ps[j], rfl, ?_, ?_⟩
      · rw [← valV_zip dn ej ep]
        exact DGet.k (k := Sum.inr d.x) es
      · exact ⟨_, rfl, ps[j], wa, h.people, h.ks, d, _, ws, rfl, da, hwa, tj, t2, k⟩
    · rw [decide_eq_false hn] at k ⊢
      rw [Bool.false_and] at k
      exact iteF (k _ (same_refl _))
/-! ### is_deed, is_move -/
def spIsDeed (D E : Addr) (K : PySem.W.Frag) : Sp := fun vs H Q _ => ∃ (p : Addr) (t : Str) (h : HouseD) (v : V) (j : Nat) (d : DeedD) (who : Str) (it : Int), vs = [.ref p, v] ∧ HouseAt K D E H p t h ∧ (h.ds.map (·.x)).Nodup ∧ Tp K H v (MoveD.act d.x who it).d ∧ h.ds[j]? = some d ∧ who ∈ byOf h.people d.by_ ∧ 0 ≤ it ∧ it < d.pick ∧
  ∀ H', Same H H' → Q (.bl true) H'
theorem scIsDeed : FnScope ["house", "value", "name", "by", "pick"] ["house", "value"] (defScope sIsDeed) := ⟨rfl, rfl, rfl, by decide +kernel, rfl, by decide +kernel, by decide +kernel⟩
theorem ok_isDeed {f : Addr} {fd : FuncData} (F : Fun K "is_deed" "is_deed" sIsDeed f fd) (T : STxt K mg E) (GF : DefOk P w K mg base "is_from" 1 ["value", "low", "limit"] spFrom) (GT : DefOk P w K mg base "is_tuple_of" 1 ["value", "many"] (spTupOf K)) :
    FnOk P w K mg base CX0 2 f fd ["house", "value"] (spIsDeed D E K) := by
  refine F.ok scIsDeed (fun vs H Q E h => ?_) (fun cdv A outer s H vs Q Ex hr h => ?_)
  · obtain ⟨p, t, h, v, j, d, who, it, rfl, _⟩ := h
    rfl
  obtain ⟨p, t, h, v, j, d, who, it, rfl, ha, dn, tv, ej, hw, i0, i1, k⟩ := h
  have nd := scIsDeed.nd
  refine ⟨_, pss_cons (ps_if (PW.pt (pw_or (pt_not (pt_val (pe_D GT hr rfl (pa_cons (pv 1) (pa_cons pe_int pa_nil))))) (pw_or1 (pt_cmpR op_ne (pe_ix ix_tup (pv 1) pe_int (fun _ _ => rfl)) pe_str (nomark _))))) pss_never pss_nil)
    (pss_cons (ps_for PassesOwn.never rfl (pi_tup (pe_fld (pv 0) rfl)) (pg_tup rfl (pgs_cons (pg_name (i := 2) nd rfl (.inl rfl)) (pgs_cons (pg_name (i := 3) nd rfl (.inl rfl)) (pgs_cons (pg_name (i := 4) nd rfl (.inl rfl)) pgs_nil))))
      (pss_one (ps_if (pt_cmpR op_eq (pv 2) (pe_ix ix_tup (pv 1) pe_int (fun _ _ => rfl)) (nomark _)) (pss_one (ps_ret (pe_and (pe_cmpR op_in_seq (pe_ix ix_tup (pv 1) pe_int (fun _ _ => rfl)) (pv 3) (by rfl)) (pe_one (pe_D GF hr rfl (pa_cons (pe_ix ix_tup (pv 1) pe_int (fun _ _ => rfl)) (pa_cons pe_int (pa_cons (pv 4) pa_nil)))))))) pss_nil)))
    pss_never), ?_⟩
  obtain ⟨dx, ap, ac, ak, ad, as_, ao, ps, qs, ob, pp, tc, tk, td, es, dd, _⟩ := ha.ex
  obtain ⟨txs, hsd, hds⟩ := sqt_refs td
  obtain ⟨va, vys, rfl, hva, hvy⟩ := tp_tup tv
  cases hvy with
  | cons g0 g1 =>
  cases g1 with
  | cons g1 g2 =>
  cases g2 with
  | cons g2 g3 =>
  cases g3 with
  | cons g3 g4 =>
  cases g4
  have e0 := tp_str g0
  subst e0
  have e1 := tp_str g1
  subst e1
  have e2 := tp_str g2
  subst e2
  have e3 := tp_int g3
  subst e3
  refine ⟨_, rfl, va, _, 4, rfl, hva, _, rfl, ?_⟩
  refine iteF ?_
  refine ⟨_, rfl, va, _, 0, _, rfl, rfl, hva, rfl, rfl, _, rfl, ?_⟩
  have e5 : (!decide (V.str "do" = V.str "do")) = false := by rw [decide_eq_true rfl]; rfl
  rw [e5]
  refine iteF ?_
  refine ⟨_, rfl, p, E, dx, _, _, rfl, ob, T.cl, T.n5, rfl, ad, rfl, ⟨_, hsd⟩, for_tup (xs := txs) (fun i σ H' => i ≤ j ∧ H' = H ∧ ∃ (t1 t2 t3 : Option V), σ = [some (.ref p), some (.ref va), t1, t2, t3]) ⟨Nat.zero_le _, rfl, none, none, none, rfl⟩ (fun i σ H' _ z => by rw [z.2.1]; exact hsd) ?_ ?_⟩
  · rintro i x σ H' hx ⟨hij, rfl, t1, t2, t3, rfl⟩
    obtain ⟨q, eq_, tq⟩ := hds.get hx
    rw [List.getElem?_map] at eq_
    obtain ⟨d', ed, rfl⟩ : ∃ c, h.ds[i]? = some c ∧ q = deedT h.people c := by
      cases e : h.ds[i]? with
      | none =>
        rw [e] at eq_
        cases eq_
      | some t =>
        rw [e] at eq_
        exact ⟨t, rfl, (Option.some.inj eq_).symm⟩
    obtain ⟨a, ys, rfl, hya, hy⟩ := tp_tup tq
    cases hy with
    | cons y0 y1 =>
    cases y1 with
    | cons y1 y2 =>
    cases y2 with
    | cons y2 y3 =>
    cases y3
    have z0 := tp_str y0
    subst z0
    have z2 := tp_int y2
    subst z2
    obtain ⟨b, bys, rfl, hb, hby⟩ := tp_tup y1
    have zb := tpa_strs hby
    subst zb
    refine ⟨a, _, rfl, hya, rfl, _, _, rfl, _, _, rfl, _, _, rfl, rfl, ?_⟩
    refine ⟨_, rfl, _, rfl, va, _, 1, _, rfl, rfl, hva, rfl, rfl, _, rfl, ?_⟩
    by_cases hd : d'.x = d.x
    · have same : d' = d := by
        have a1 : (h.ds.map (·.x))[i]? = some d'.x := by rw [List.getElem?_map, ed]; rfl
        have a2 : (h.ds.map (·.x))[j]? = some d.x := by rw [List.getElem?_map, ej]; rfl
        have il := (List.getElem?_eq_some_iff.mp a1).1
        have ij : i = j := (List.getElem?_inj il dn).mp (by rw [a1, a2, hd])
        rw [ij, ej] at ed
        exact (Option.some.inj ed).symm
      subst same
      have e6 : decide (V.str d'.x = V.str d'.x) = true := decide_eq_true rfl
      rw [e6]
      refine iteT ?_
      refine ⟨_, rfl, va, _, 2, _, rfl, rfl, hva, rfl, _, rfl, b, _, rfl, .inr hb, rfl, flat_words _, ?_⟩
      rw [if_neg (by decide), in_words, decide_eq_true hw]
      refine ⟨_, rfl, iteT ?_⟩
      refine ⟨_, rfl, va, _, 3, _, rfl, rfl, hva, rfl, _, rfl, _, _, _, rfl, ?_⟩
      have e9 : (decide (0 ≤ it) && decide (it < d'.pick)) = true := by rw [decide_eq_true i0, decide_eq_true i1]; rfl
      rw [e9]
      exact k _ (same_refl _)
    · have e6 : decide (V.str d'.x = V.str d.x) = false := decide_eq_false fun z => hd (V.str.inj z)
      rw [e6]
      refine iteF ⟨?_, rfl, _, _, _, rfl⟩
      have : i ≠ j := fun z => hd (by rw [z, ej] at ed; rw [Option.some.inj ed])
      omega
  · rintro σ H' ⟨hij, _⟩
    have : txs.length = h.ds.length := by rw [hds.length, List.length_map]
    have := (List.getElem?_eq_some_iff.mp ej).1
    omega
/-- a move by its form -/
inductive IsMv (h : HouseD) : MoveD → Prop
  | night : IsMv h .night
  | act {j : Nat} {d : DeedD} {who : Str} {it : Int} : h.ds[j]? = some d → PyData.strOk d.x = true → PyData.strOk who = true → who ∈ byOf h.people d.by_ → 0 ≤ it → it < d.pick → IsMv h (.act d.x who it)
def spIsMove (D E : Addr) (K : PySem.W.Frag) : Sp := fun vs H Q _ => ∃ (p : Addr) (t : Str) (h : HouseD) (v : V) (m : MoveD), vs = [.ref p, v] ∧ HouseAt K D E H p t h ∧ (h.ds.map (·.x)).Nodup ∧ Tp K H v m.d ∧ IsMv h m ∧ ∀ H', Same H H' → Q (.bl true) H'
theorem scIsMove : FnScope ["house", "value"] ["house", "value"] (defScope sIsMove) := ⟨rfl, rfl, rfl, by decide +kernel, rfl, by decide +kernel, by decide +kernel⟩
theorem ok_isMove {f : Addr} {fd : FuncData} (F : Fun K "is_move" "is_move" sIsMove f fd) (T : STxt K mg E) (GD : DefOk P w K mg base "is_deed" 2 ["house", "value"] (spIsDeed D E K)) : FnOk P w K mg base CX0 3 f fd ["house", "value"] (spIsMove D E K) := by
  refine F.ok scIsMove (fun vs H Q E h => ?_) (fun cdv A outer s H vs Q Ex hr h => ?_)
  · obtain ⟨p, t, h, v, m, rfl, _⟩ := h
    rfl
  obtain ⟨p, t, h, v, m, rfl, ha, dn, tv, im, k⟩ := h
  have hu := hr.units
  obtain ⟨aN, mgN, hN⟩ := T.night
  refine ⟨_, pss_one (ps_ret (pe_or (pe_cmpR (op_eqD hu) (pv 1) (pe_glob (v := .ref aN) rfl mgN rfl) (nomark _)) (pe_one (pe_D GD hr rfl (pa_cons (pv 0) (pa_cons (pv 1) pa_nil)))))), ?_⟩
  cases im with
  | night =>
    refine ⟨_, rfl, MoveD.night.d, MoveD.night.d, tv.dp, (tp_night (hN _)).dp, shaped_night, shaped_night, _, rfl, ?_⟩
    rw [eq_night]
    exact iteT (k _ (same_refl _))
  | @act j d who it ej s1 s2 hw i0 i1 =>
    refine ⟨_, rfl, (MoveD.act d.x who it).d, MoveD.night.d, tv.dp, (tp_night (hN _)).dp, shaped_act it s1 s2, shaped_night, _, rfl, ?_⟩
    rw [eq_act]
    exact iteF ⟨_, rfl, _, rfl, p, t, h, v, j, d, who, it, rfl, ha, dn, tv, ej, hw, i0, i1, k⟩
end
end Hx
set_option maxRecDepth 100000
set_option maxHeartbeats 8000000
/-! The moves that are possible at a stand. -/
namespace Hx
open PySem PySem.Spec PyProof.Rows L2
abbrev sPMoves : Stmt := top 31
abbrev sMoves : Stmt := top 32
def readyOf (ds : List DeedD) (ws : List Int) : List Str := (ds.filter fun d => holdsB d.ts ws).map (·.x)
def inReady (ready : List Str) (r : List V) : Bool := match r with
  | _ :: .str x :: _ => decide (x ∈ ready)
  | _ => false
def vD : V → PyData
  | .str x => .str x
  | .int i => .int i
  | _ => .none
def rowD (r : List V) : PyData := .tuple (r.map vD)
theorem doL_rows {people : List Str} {ds : List DeedD} : ∀ r ∈ doL people ds, ∃ (a b : Str) (i : Nat), r = [V.str "do", .str a, .str b, .int i] := by
  intro r hr
  obtain ⟨d, _, hd⟩ := List.mem_flatMap.mp hr
  obtain ⟨who, _, hw⟩ := List.mem_flatMap.mp hd
  obtain ⟨i, _, rfl⟩ := List.mem_map.mp hw
  exact ⟨_, _, i, rfl⟩
theorem tp_row {K : PySem.W.Frag} {H : Hp} {q : Addr} {a b : Str} {i : Nat} (h : SqT K H q [V.str "do", .str a, .str b, .int i]) : Tp K H (.ref q) (rowD [V.str "do", .str a, .str b, .int i]) :=
  .tup h (.cons (.str _) (.cons (.str _) (.cons (.str _) (.cons (.int _) .nil))))
theorem tpa_rows {K : PySem.W.Frag} {H : Hp} : ∀ {rs : List (Addr × List V)}, (∀ r ∈ rs, SqT K H r.1 r.2 ∧ ∃ (a b : Str) (i : Nat), r.2 = [V.str "do", .str a, .str b, .int i]) → TpAll K H (rs.map fun q => V.ref q.1) ((rs.map (·.2)).map rowD)
  | [], _ => .nil
  | r :: rs, h => by
    obtain ⟨h1, a, b, i, e⟩ := h r (List.mem_cons_self ..)
    refine .cons ?_ (tpa_rows fun q hq => h q (List.mem_cons_of_mem _ hq))
    rw [e] at h1
    show Tp K H (.ref r.1) (rowD r.2)
    rw [e]
    exact tp_row h1
theorem pair_map {α β : Type} {f : α → β} {R : β → β → Prop} {xs : List α} (h : xs.Pairwise fun x y => R (f x) (f y)) : (xs.map f).Pairwise R := List.pairwise_map.mpr h
theorem set2b {σ : L2.St} {i j : Nat} {x y : V} : wipe (((wipe σ [i, j]).set i (some x)).set j (some y)) [i, j] = wipe σ [i, j] := by
  refine wipe_of (fun m hm => ?_) (by simp [wipe_length])
  have h1 : i ≠ m := fun z => hm (by rw [← z]; simp)
  have h2 : j ≠ m := fun z => hm (by rw [← z]; simp)
  rw [List.getElem?_set_ne h2, List.getElem?_set_ne h1, wipe_get, if_neg hm]
theorem zip_at {ds : List DeedD} {ps : List Addr} {i : Nat} {d : DeedD} {q : Addr} (e1 : ds[i]? = some d) (e2 : ps[i]? = some q) : ((ds.map fun d => (Sum.inr d.x : Key)).zip (ps.map V.ref))[i]? = some ((Sum.inr d.x : Key), V.ref q) := by
  rw [List.getElem?_zip_eq_some]
  exact ⟨by rw [List.getElem?_map, e1]; rfl, by rw [List.getElem?_map, e2]; rfl⟩
section
variable {P : Program} {w : World} {K : PySem.W.Frag} {mg : Str → Option Value} {base : Heap} {D E fI : Addr}
def PMEnd (K : PySem.W.Frag) (H : Hp) (h : HouseD) (ws : List Int) (n : Int) (Q : VK) : Prop := ∀ (a : Addr) (rs : List (List V)) (H' : Hp), Same H H' → Tp K H' (.ref a) (.tuple (rs.map rowD ++ [MoveD.night.d])) →
    (n = h.day → rs = []) → (n ≠ h.day → rs.Perm ((doL h.people h.ds).filter (inReady (readyOf h.ds ws))) ∧ rs.Pairwise fun x y => rowLt y x = false) → Q (.ref a) H'
def spPM (D E : Addr) (K : PySem.W.Frag) : Sp := fun vs H Q _ => ∃ (p : Addr) (t : Str) (h : HouseD) (v : V) (ws : List Int) (n : Int), vs = [.ref p, v] ∧ HouseAt K D E H p t h ∧ (∀ d ∈ h.ds, (∀ t ∈ d.ts, t.j < ws.length) ∧ d.ts.length ≤ 2) ∧ h.ds.length ≤ 4 ∧ (doL h.people h.ds).length ≤ 48 ∧ Tp K H v (standD ws n) ∧
  PMEnd K H h ws n Q
theorem scPM : FnScope ["house", "stand", "worths", "today", "ready", "name", "deed", "move"] ["house", "stand"] (defScope sPMoves) := ⟨rfl, rfl, rfl, by decide +kernel, rfl, by decide +kernel, by decide +kernel⟩
theorem ok_PM {f : Addr} {fd : FuncData} (F : Fun K "possible_moves" "possible_moves" sPMoves f fd) (T : STxt K mg E) (GH : DefOk P w K mg base "holds" 1 ["deed", "worths"] (spHolds D K)) : FnOk P w K mg base CX0 2 f fd ["house", "stand"] (spPM D E K) := by
  refine F.ok scPM (fun vs H Q E h => ?_) (fun cdv A outer s H vs Q Ex hr h => ?_)
  · obtain ⟨p, t, h, v, ws, n, rfl, _⟩ := h
    rfl
  obtain ⟨p, t, h, v, ws, n, rfl, ha, tj, d4, few, tv, k⟩ := h
  have nd := scPM.nd
  have hu := hr.units
  obtain ⟨aN, mgN, hN⟩ := T.night
  refine ⟨_, pss_cons (ps_asg (pv 1) (pg_tup rfl (pgs_cons (pg_name (i := 2) nd rfl (.inr rfl)) (pgs_cons (pg_name (i := 3) nd rfl (.inl rfl)) pgs_nil))))
    (pss_cons (ps_if (pt_cmpR op_eq (pv 3) (pe_fld (pv 0) rfl) (nomark _)) (pss_one (ps_ret (pe_tup (pa_cons (pe_glob (v := .ref aN) rfl mgN rfl) pa_nil)))) pss_nil)
    (pss_cons (ps_lock (ps_set (i := 4) nd rfl (.inr rfl) (pe_lc (own := [("name", 5), ("deed", 6)]) (g := gTup K 2 (gCons (gName 5) (gCons (gName 6) gNil))) (tt := tTest (tCall (spHolds D K) [] E0 (tCons (tVar 6) (tCons (tVar 2) tNil)))) rfl nd
      (pi_items (pe_fld (pv 0) rfl)) (blkOk_by (N := ["house", "stand", "worths", "today", "ready", "name", "deed", "move"]) (sc := defScope sPMoves) (by decide +kernel))
      (fun _ _ _ _ _ => pg_tupK K (pgs_cons (pg_name (i := 5) nd rfl (Or.inl rfl)) (pgs_cons (pg_name (i := 6) nd rfl (Or.inl rfl)) pgs_nil))) (fun _ _ _ _ _ => pts_one (pt_val (pe_D GH hr rfl (pa_cons (pv 6) (pa_cons (pv 2) pa_nil)))))
      (fun _ _ _ _ _ => pv 5))))
    (pss_one (ps_ret (pe_op op_catA (pe_callTy call_tuple_of rfl T.tuple PyProof.Rows.Boot.«tuple» (pa_cons
      (pe_lc (own := [("move", 7)]) (g := gName 7) (tt := tTest (tOp (rIn K false) (tOp (rIxT K) (tVar 7) (tC (.int 1))) (tVar 4))) rfl nd (pi_tup (pe_fld (pv 0) rfl)) (blkOk_by (N := ["house", "stand", "worths", "today", "ready", "name", "deed", "move"]) (sc := defScope sPMoves) (by decide +kernel)) (fun _ _ _ _ _ => pg_name (i := 7) nd rfl (Or.inl rfl)) (fun _ _ _ _ _ => pts_one (pt_cmpR (op_in_seqK K) (pe_ix (ix_tupK K) (pv 7) pe_int (fun _ _ => rfl)) (pv 4) (by rfl)))
        (fun _ _ _ _ _ => pv 7)) pa_nil)) (pe_tup (pa_cons (pe_glob (v := .ref aN) rfl mgN rfl) pa_nil))))))), ?_⟩
  obtain ⟨dx, ap, ac, ak, ad, as_, ao, ps, qs, ob, pp, tc, tk, td, es, dd, ro, ra, pm, pw⟩ := ha.ex
  obtain ⟨va, vys, rfl, hva, hvy⟩ := tp_tup tv
  cases hvy with
  | cons g0 g1 =>
  cases g1 with
  | cons g1 g2 =>
  cases g2
  have e1 := tp_int g1
  subst e1
  obtain ⟨wa, wys, rfl, hwa, hwy⟩ := tp_tup g0
  have ew := tpa_ints hwy
  subst ew
  refine ⟨_, rfl, va, _, rfl, hva, rfl, _, _, rfl, _, _, rfl, rfl, ?_⟩
  refine ⟨_, rfl, _, rfl, p, E, dx, _, _, rfl, ob, T.cl, T.n8, rfl, rfl, _, rfl, ?_⟩
  by_cases hn : n = h.day
  · have e5 : decide (V.int n = V.int h.day) = true := decide_eq_true (by rw [hn])
    rw [e5]
    refine iteT ⟨sz (by decide : 1 ≤ 1000), fun u hu' => ?_⟩
    have s1 := same_new hu' (.tup [.ref aN])
    exact k u [] _ s1 (.tup (SqT.of upd_same) (.cons (tp_night (hN _)) .nil)) (fun _ => rfl) (fun z => absurd hn z)
  have e5 : decide (V.int n = V.int h.day) = false := decide_eq_false fun z => hn (V.int.inj z)
  rw [e5]
  refine iteF ?_
  have nps : ps.length = h.ds.length := dd.len
  have klen : ((h.ds.map fun d => (Sum.inr d.x : Key)).zip (ps.map V.ref)).length = h.ds.length := by rw [List.length_zip, List.length_map, List.length_map, nps, Nat.min_self]
  refine ⟨as_, _, es, trivial, fun od => ?_⟩
  have sF : ∀ H', Same (upd H as_ (.frz od (.dK ((h.ds.map fun d => (Sum.inr d.x : Key)).zip (ps.map V.ref))))) H' → Same H (upd H' as_ (.dK ((h.ds.map fun d => (Sum.inr d.x : Key)).zip (ps.map V.ref)))) := fun H' s1 b o e => by
    by_cases z : b = as_
    · subst z
      rw [es] at e
      cases e
      exact upd_same
    · rw [upd_ne z]
      exact s1 _ _ (by rw [upd_ne z]; exact e)
  have up : ∀ {a : Addr} {xs : List V}, SqT K H a xs → SqT K (upd H as_ (.frz od (.dK ((h.ds.map fun d => (Sum.inr d.x : Key)).zip (ps.map V.ref))))) a xs := by
    intro a xs hq
    rcases hq with (hq | ⟨o', hq⟩) | hq
    · exact .inl (.inl (by rw [upd_ne (fun z => by rw [z, es] at hq; cases hq)]; exact hq))
    · exact .inl (.inr ⟨o', by rw [upd_ne (fun z => by rw [z, es] at hq; cases hq)]; exact hq⟩)
    · exact .inr hq
  have upl : ∀ {a : Addr} {xs : List V}, H a = some (.lst xs) → upd H as_ (.frz od (.dK ((h.ds.map fun d => (Sum.inr d.x : Key)).zip (ps.map V.ref)))) a = some (.lst xs) := by
    intro a xs hq
    rw [upd_ne (fun z => by rw [z, es] at hq; cases hq)]
    exact hq
  have ob1 : upd H as_ (.frz od (.dK ((h.ds.map fun d => (Sum.inr d.x : Key)).zip (ps.map V.ref)))) p = some (.ins E dx (houseF t ap ac ak ad as_ ao h.day)) := by
    rw [upd_ne (fun z => by rw [z, es] at ob; cases ob)]
    exact ob
  have dd1 : Deeds K D (upd H as_ (.frz od (.dK ((h.ds.map fun d => (Sum.inr d.x : Key)).zip (ps.map V.ref))))) p h.people h.ks (fun _ => True) ps h.ds := dd.map fun q d _ z => by
    obtain ⟨dxq, ab, at_, ach, ar, nn, oq, hb, ⟨x1, f1, t1⟩, ⟨x2, f2, t2⟩, ⟨x3, f3, t3⟩⟩ := z.ex
    exact ⟨dxq, ab, at_, ach, ar, nn, by rw [upd_ne (fun z => by rw [z, es] at oq; cases oq)]; exact oq, hb.map up, ⟨x1, upl f1, t1.map up⟩, ⟨x2, upl f2, t2.map up⟩, ⟨x3, upl f3, t3.map up⟩⟩
  have wa1 := up hwa
  have fz : upd H as_ (.frz od (.dK ((h.ds.map fun d => (Sum.inr d.x : Key)).zip (ps.map V.ref)))) as_ = some (.frz od (.dK ((h.ds.map fun d => (Sum.inr d.x : Key)).zip (ps.map V.ref)))) := upd_same
  unfold tAsg
  generalize upd H as_ (.frz od (.dK ((h.ds.map fun d => (Sum.inr d.x : Key)).zip (ps.map V.ref)))) = H1 at *
  refine ⟨_, rfl, p, E, dx, _, _, rfl, ob1, T.cl, T.n6, rfl, as_, od, _, rfl, fz, fun G hG => ?_⟩
  refine lc_it walk_items (fun i H' => Same H1 H' ∧ H' G = some (.lst ((readyOf (h.ds.take i) ws).map V.str))) ⟨same_new hG _, upd_same⟩ (fun i H' _ z => z.1 _ _ fz) ?_ ?_
  · rintro i x H2 H3 hi ⟨sm, eG⟩ ⟨T', u, v, rfl, hT, rfl, eu, ev⟩
    rw [klen] at hi
    have ed : h.ds[i]? = some h.ds[i] := List.getElem?_eq_getElem hi
    have eq_ : ps[i]? = some (ps[i]'(by omega)) := List.getElem?_eq_getElem _
    have ez := zip_at (ds := h.ds) (ps := ps) ed eq_
    generalize h.ds[i] = d at *
    generalize ps[i]'(by omega) = q at *
    have eu' : some (V.str d.x) = some u := by
      rw [← eu]
      show _ = Option.map (fun kv => kV kv.1) (((h.ds.map fun d => (Sum.inr d.x : Key)).zip (ps.map V.ref))[i]?)
      rw [ez]
      rfl
    have ev' : some (V.ref q) = some v := by
      rw [← ev]
      show _ = Option.map Prod.snd (((h.ds.map fun d => (Sum.inr d.x : Key)).zip (ps.map V.ref))[i]?)
      rw [ez]
      rfl
    cases eu'
    cases ev'
    have sT := same_new hT (.tup [.str d.x, .ref q])
    obtain ⟨d', ed', da, _⟩ := dd1.at eq_
    rw [ed] at ed'
    cases ed'
    obtain ⟨t1, t2⟩ := tj d (List.mem_of_getElem? ed)
    refine ⟨T', _, rfl, SqT.of upd_same, rfl, _, _, rfl, _, _, rfl, rfl, set2b, ?_⟩
    refine ⟨_, rfl, _, rfl, q, wa, h.people, h.ks, d, _, ws, rfl, (da.same sm).same sT, same_sqt (sm.trans sT) wa1, t1, t2, fun H4 s4 => ⟨_, rfl, ?_⟩⟩
    have e1 : readyOf (h.ds.take (i + 1)) ws = readyOf (h.ds.take i) ws ++ if holdsB d.ts ws = true then [d.x] else [] := by
      unfold readyOf
      rw [List.take_add_one, ed, List.filter_append, List.map_append]
      show _ ++ ([d].filter fun d => holdsB d.ts ws).map (·.x) = _
      rw [List.filter_cons]
      by_cases z : holdsB d.ts ws = true
      · rw [if_pos z, if_pos z]
        rfl
      · rw [if_neg z, if_neg z]
        rfl
    have eG4 := s4 _ _ (sT _ _ eG)
    refine ite2 (fun z => ?_) (fun z => ?_)
    · refine ⟨_, rfl, _, eG4, ?_, same_grow hG (sm.trans (sT.trans s4)), ?_⟩
      · rw [List.length_map]
        have l1 : (readyOf (h.ds.take i) ws).length ≤ (h.ds.take i).length := by
          unfold readyOf
          rw [List.length_map]
          exact List.length_filter_le _ _
        rw [List.length_take] at l1
        exact small1000 (by omega)
      · rw [upd_same, e1, if_pos z, List.map_append]
        rfl
    · refine ⟨sm.trans (sT.trans s4), ?_⟩
      rw [e1, if_neg (by rw [z]; decide), List.append_nil]
      exact eG4
  · rintro H2 ⟨s2, eG⟩
    rw [klen, List.take_length] at eG
    refine ⟨s2 _ _ fz, ?_⟩
    have s02 := sF _ s2
    have nG : G ≠ as_ := fun z => by
      have := s2 _ _ fz
      rw [← z, eG] at this
      cases this
    have eG2 : upd H2 as_ (.dK ((h.ds.map fun d => (Sum.inr d.x : Key)).zip (ps.map V.ref))) G = some (.lst ((readyOf h.ds ws).map V.str)) := by
      rw [upd_ne nG]
      exact eG
    generalize upd H2 as_ (.dK ((h.ds.map fun d => (Sum.inr d.x : Key)).zip (ps.map V.ref))) = H3 at *
    clear sF up upl ob1 dd1 wa1 fz s2 eG
    have rows : ∀ q ∈ qs, ∃ (a b : Str) (i : Nat), q.2 = [V.str "do", .str a, .str b, .int i] := fun q hq => doL_rows q.2 (pm.mem_iff.mp (List.mem_map.mpr ⟨q, hq, rfl⟩))
    have qfew : qs.length ≤ 48 := by
      have := pm.length_eq
      rw [List.length_map] at this
      omega
    refine ⟨_, rfl, p, E, dx, _, _, rfl, s02 _ _ ob, T.cl, T.n7, rfl, ao, rfl, ⟨_, same_sqt s02 ro⟩, fun M hM => ?_⟩
    refine lc_tup (K := K) (a := ao) (xs := List.map (fun q : Addr × List V => V.ref q.1) qs) (fun i H' => Same H3 H' ∧ H' M = some (.lst (((qs.take i).filter fun q => inReady (readyOf h.ds ws) q.2).map fun q => V.ref q.1))) ⟨same_new hM _, upd_same⟩ (fun i H' _ z => same_sqt (s02.trans z.1) ro) ?_ ?_
    · rintro i x H4 hi ⟨sm, eM⟩
      have hi' : ∃ q, qs[i]? = some q ∧ x = .ref q.1 := by
        rw [List.getElem?_map] at hi
        cases e : qs[i]? with
        | none =>
          rw [e] at hi
          cases hi
        | some q =>
          rw [e] at hi
          exact ⟨q, rfl, (Option.some.inj hi).symm⟩
      obtain ⟨q, eq_, rfl⟩ := hi'
      have qin := List.mem_of_getElem? eq_
      obtain ⟨a, b, m, e⟩ := rows q qin
      have hq := same_sqt (s02.trans sm) (ra q qin)
      rw [e] at hq
      refine ⟨set2, ?_⟩
      refine ⟨_, rfl, q.1, _, 1, _, rfl, rfl, hq, rfl, _, rfl, G, _, rfl, .inl (SqL.of (sm _ _ eG2)), rfl, flat_words _, ?_⟩
      rw [if_neg (by decide), in_words]
      have e1 : inReady (readyOf h.ds ws) q.2 = decide (a ∈ readyOf h.ds ws) := by rw [e]; rfl
      have e2 : (qs.take (i + 1)).filter (fun q => inReady (readyOf h.ds ws) q.2) = (qs.take i).filter (fun q => inReady (readyOf h.ds ws) q.2) ++ if decide (a ∈ readyOf h.ds ws) = true then [q] else [] := by
        rw [List.take_add_one, eq_, List.filter_append]
        show _ ++ [q].filter (fun q => inReady (readyOf h.ds ws) q.2) = _
        rw [List.filter_cons, e1]
        rfl
      refine ⟨_, rfl, ite2 (fun z => ?_) (fun z => ?_)⟩
      · refine ⟨_, rfl, _, eM, ?_, same_grow hM sm, ?_⟩
        · rw [List.length_map]
          have l1 := List.length_filter_le (fun q : Addr × List V => inReady (readyOf h.ds ws) q.2) (qs.take i)
          rw [List.length_take] at l1
          exact small1000 (by omega)
        · rw [upd_same, e2, if_pos z, List.map_append]
          rfl
      · refine ⟨sm, ?_⟩
        rw [e2, if_neg (by rw [z]; decide), List.append_nil]
        exact eM
    · rintro H4 ⟨sm, eM⟩
      rw [List.length_map, List.take_length] at eM
      refine ⟨M, _, rfl, .inl ⟨SqL.of eM, fun a ha' => ?_⟩⟩
      have s5 := same_new ha' (.tup ((qs.filter fun q => inReady (readyOf h.ds ws) q.2).map fun q => V.ref q.1))
      refine ⟨sz (by decide : 1 ≤ 1000), fun b hb => ?_⟩
      have s6 := same_new hb (.tup [.ref aN])
      have lf := List.length_filter_le (fun q : Addr × List V => inReady (readyOf h.ds ws) q.2) qs
      have pf : ((qs.filter fun q => inReady (readyOf h.ds ws) q.2).map (·.2)).Perm ((doL h.people h.ds).filter (inReady (readyOf h.ds ws))) := by
        have z := pm.filter (inReady (readyOf h.ds ws))
        rwa [List.filter_map] at z
      refine ⟨a, b, _, _, rfl, rfl, same_sqt s6 (SqT.of upd_same), SqT.of upd_same, ?_, (fun z => ?_), (fun _ z => nomatch z), fun _ _ c hc => ?_⟩
      · rw [List.length_map]
        exact sz (by show _ + 1 ≤ 1000; omega)
      · have e0 : (qs.filter fun q => inReady (readyOf h.ds ws) q.2) = [] := List.map_eq_nil_iff.mp z
        refine k b ((qs.filter fun q => inReady (readyOf h.ds ws) q.2).map (·.2)) _ (s02.trans (sm.trans (s5.trans s6))) (.tup (SqT.of upd_same) ?_) (fun z => absurd z hn) (fun _ => ⟨pf, pair_map (pw.filter _)⟩)
        rw [e0]
        exact .cons (tp_night (hN _)) .nil
      · have s7 := same_new hc (.tup ((qs.filter fun q => inReady (readyOf h.ds ws) q.2).map (fun q => V.ref q.1) ++ [.ref aN]))
        have s27 := sm.trans (s5.trans (s6.trans s7))
        refine k c ((qs.filter fun q => inReady (readyOf h.ds ws) q.2).map (·.2)) _ (s02.trans s27) (.tup (SqT.of upd_same) ?_) (fun z => absurd z hn) (fun _ => ⟨pf, pair_map (pw.filter _)⟩)
        refine TpAll.append (tpa_rows fun r hr => ?_) (.cons (tp_night (hN _)) .nil)
        have rin := (List.mem_filter.mp hr).1
        exact ⟨same_sqt (s02.trans s27) (ra r rin), rows r rin⟩
/-! ### moves -/
def spMoves (D E : Addr) (K : PySem.W.Frag) : Sp := fun vs H Q _ => ∃ (p : Addr) (t : Str) (h : HouseD) (v : V) (ws : List Int) (n : Int), vs = [.ref p, v] ∧ HouseAt K D E H p t h ∧ (∀ d ∈ h.ds, (∀ t ∈ d.ts, t.j < ws.length) ∧ d.ts.length ≤ 2) ∧ h.ds.length ≤ 4 ∧ (doL h.people h.ds).length ≤ 48 ∧ h.cs.length ≤ 3 ∧ Tp K H v (standD ws n) ∧
  Fits h.cs ws ∧ 0 ≤ n ∧ n ≤ h.day ∧ PMEnd K H h ws n Q
theorem scMoves : FnScope ["house", "stand"] ["house", "stand"] (defScope sMoves) := ⟨rfl, rfl, rfl, by decide +kernel, rfl, by decide +kernel, by decide +kernel⟩
theorem ok_moves {f : Addr} {fd : FuncData} (F : Fun K "moves" "moves" sMoves f fd) (GS : DefOk P w K mg base "is_stand" 2 ["house", "value"] (spStand D E K)) (GP : DefOk P w K mg base "possible_moves" 2 ["house", "stand"] (spPM D E K)) : FnOk P w K mg base CX0 3 f fd ["house", "stand"] (spMoves D E K) := by
  refine F.ok scMoves (fun vs H Q E h => ?_) (fun cdv A outer s H vs Q Ex hr h => ?_)
  · obtain ⟨p, t, h, v, ws, n, rfl, _⟩ := h
    rfl
  obtain ⟨p, t, h, v, ws, n, rfl, ha, tj, d4, few, c3, tv, fit, n0, n1, k⟩ := h
  refine ⟨_, pss_cons (ps_if (pt_not (pt_val (pe_D GS hr rfl (pa_cons (pv 0) (pa_cons (pv 1) pa_nil))))) pss_never pss_nil)
    (pss_one (ps_ret (pe_D GP hr rfl (pa_cons (pv 0) (pa_cons (pv 1) pa_nil))))), ?_⟩
  refine ⟨_, rfl, _, rfl, p, t, h, v, ws, n, rfl, ha, c3, tv, fit, n0, n1, fun H1 s1 => ⟨_, rfl, ?_⟩⟩
  refine iteF ?_
  exact ⟨_, rfl, _, rfl, p, t, h, v, ws, n, rfl, ha.same s1, tj, d4, few, tv.same s1, fun a rs H' s2 => k a rs H' (s1.trans s2)⟩
end
end Hx
set_option maxRecDepth 100000
set_option maxHeartbeats 8000000
/-! What a deed changes. -/
namespace Hx
open PySem PySem.Spec PyProof.Rows L2
abbrev sChanged : Stmt := top 33
abbrev sBehind : Stmt := top 34
abbrev sAfter : Stmt := top 35
abbrev sLed : Stmt := top 9999
def Src.num? (ws : List Int) (it : Int) : Src → Int
  | .it => it
  | .cell j => ws.getD j 0
  | .num v => v
  | _ => 0
def Src.isW (ws : List Int) : Src → Prop
  | .it => True
  | .cell j => j < ws.length
  | .num _ => True
  | _ => False
theorem Src.out_w {ws : List Int} {who : Str} {it : Int} {s : Src} (h : s.isW ws) : s.out ws who it = .int (s.num? ws it) ∧ s.inn ws := by
  cases s with
  | it => exact ⟨rfl, trivial⟩
  | cell j => exact ⟨rfl, h⟩
  | num v => exact ⟨rfl, trivial⟩
  | who => exact h.elim
  | person x => exact h.elim
def sizeAt (cs : List CellD) (j : Nat) : Int := (cs[j]?.map (·.z)).getD 1
def chStep (cs : List CellD) (it : Int) (ws : List Int) (c : ChangeD) : List Int := ws.set c.j (if c.add = true then (ws.getD c.j 0 + c.s.num? ws it).fmod (sizeAt cs c.j) else c.s.num? ws it)
def chAll (cs : List CellD) (it : Int) (ws : List Int) (chs : List ChangeD) : List Int := chs.foldl (chStep cs it) ws
theorem chStep_len {cs : List CellD} {it : Int} {ws : List Int} {c : ChangeD} : (chStep cs it ws c).length = ws.length := List.length_set
theorem chAll_len {cs : List CellD} {it : Int} : ∀ {chs : List ChangeD} {ws : List Int}, (chAll cs it ws chs).length = ws.length
  | [], _ => rfl
  | c :: r, ws => by
    show (chAll cs it (chStep cs it ws c) r).length = _
    rw [chAll_len, chStep_len]
theorem chAll_take {cs : List CellD} {it : Int} {chs : List ChangeD} {ws : List Int} {i : Nat} {c : ChangeD} (e : chs[i]? = some c) : chAll cs it ws (chs.take (i + 1)) = chStep cs it (chAll cs it ws (chs.take i)) c := by
  unfold chAll
  rw [List.take_add_one, e, List.foldl_append]
  rfl
section
variable {P : Program} {w : World} {K : PySem.W.Frag} {mg : Str → Option Value} {base : Heap} {D E fI : Addr}
def spChanged (D E : Addr) (K : PySem.W.Frag) : Sp := fun vs H Q _ => ∃ (p q aw : Addr) (t : Str) (h : HouseD) (d : DeedD) (N : Addr → Prop) (ws : List Int) (who : Str) (it : Int), vs = [.ref p, .ref q, .ref aw, .str who, .int it] ∧ HouseAt K D E H p t h ∧ DeedAt K D H q h.people h.ks d N ∧ SqT K H aw (ws.map V.int) ∧ ws.length = h.cs.length ∧ (∀ c ∈ h.cs, c.z ≠ 0) ∧
  (∀ c ∈ d.chs, c.j < ws.length ∧ c.s.isW ws) ∧ ∀ a H', Same H H' → SqT K H' a ((chAll h.cs it ws d.chs).map V.int) → Q (.ref a) H'
theorem scChanged : FnScope ["house", "deed", "worths", "who", "it", "word", "place", "source", "worth"] ["house", "deed", "worths", "who", "it"] (defScope sChanged) := ⟨rfl, rfl, rfl, by decide +kernel, rfl, by decide +kernel, by decide +kernel⟩
theorem isW_len {ws ws' : List Int} {s : Src} (e : ws'.length = ws.length) (h : s.isW ws) : s.isW ws' := by
  cases s with
  | cell j =>
    show j < ws'.length
    have : j < ws.length := h
    omega
  | it => trivial
  | num v => trivial
  | who => exact h.elim
  | person x => exact h.elim
theorem ok_changed {f : Addr} {fd : FuncData} (F : Fun K "changed" "changed" sChanged f fd) (T : STxt K mg E) (DT : DTxt K mg D fI) (GW : DefOk P w K mg base "worked_out" 1 ["source", "worths", "who", "it"] (spWork K)) : FnOk P w K mg base CX0 2 f fd ["house", "deed", "worths", "who", "it"] (spChanged D E K) := by
  refine F.ok scChanged (fun vs H Q E h => ?_) (fun cdv A outer s H vs Q Ex hr h => ?_)
  · obtain ⟨p, q, aw, t, h, d, N, ws, who, it, rfl, _⟩ := h
    rfl
  obtain ⟨p, q, aw, t, h, d, N, ws, who, it, rfl, ha, da, hw, wl, cz, cj, k⟩ := h
  have nd := scChanged.nd
  refine ⟨_, pss_cons (ps_set (i := 2) nd rfl (.inl rfl) (pe_callTy call_list_of rfl T.F.list PyProof.Rows.Boot.«list» (pa_cons (pv 2) pa_nil)))
    (pss_cons (ps_for PassesOwn.never rfl (pi_list (pe_fld (pv 1) rfl)) (pg_tup rfl (pgs_cons (pg_name (i := 5) nd rfl (.inl rfl)) (pgs_cons (pg_name (i := 6) nd rfl (.inl rfl)) (pgs_cons (pg_name (i := 7) nd rfl (.inl rfl)) pgs_nil))))
      (pss_cons (ps_set (i := 8) nd rfl (.inl rfl) (pe_D GW hr rfl (pa_cons (pv 7) (pa_cons (pv 2) (pa_cons (pv 3) (pa_cons (pv 4) pa_nil))))))
      (pss_cons (ps_if (pt_cmpR op_eq (pv 5) pe_str (nomark _)) (pss_one (ps_set (i := 8) nd rfl (.inl rfl) (pe_op op_modN (pe_op op_add (pe_ix ix_list (pv 2) (pv 6) (fun _ _ => rfl)) (pv 8)) (pe_ix ix_tup (pe_ix ix_tup (pe_fld (pv 0) rfl) (pv 6) (fun _ _ => rfl)) pe_int (fun _ _ => rfl))))) pss_nil)
      (pss_one (ps_asg (pv 8) (pg_sub (pv 2) (pv 6) set_list))))))
    (pss_one (ps_ret (pe_callTy call_tuple_of rfl T.tuple PyProof.Rows.Boot.«tuple» (pa_cons (pv 2) pa_nil))))), ?_⟩
  obtain ⟨dx, ap, ac, ak, ad, as_, ao, ps, qs, ob, pp, tc, tk, td, es, dd, _⟩ := ha.ex
  obtain ⟨dxq, ab, at_, ach, ar, _, oq, hb, _, ⟨xs, ec, tcs⟩, _⟩ := da.ex
  have ln := tcs.length
  rw [List.length_map] at ln
  refine ⟨_, rfl, aw, _, rfl, .inr hw, fun l hl => ?_⟩
  have s0 := same_new hl (.lst (ws.map V.int))
  have ps_ := s0 _ _ oq
  refine ⟨_, rfl, q, D, dxq, _, _, rfl, ps_, DT.cl, DT.nC, rfl, ach, rfl, ⟨_, SqL.of (s0 _ _ ec)⟩, for_list (xs := xs) (fun i σ H' => ∃ (t5 t6 t7 t8 : Option V), σ = [some (.ref p), some (.ref q), some (.ref l), some (.str who), some (.int it), t5, t6, t7, t8] ∧ Same H H' ∧ H' l = some (.lst ((chAll h.cs it ws (d.chs.take i)).map V.int))) ⟨none, none, none, none, rfl, s0, upd_same⟩ (fun i σ H' _ z => by
    obtain ⟨_, _, _, _, _, sm, _⟩ := z
    exact SqL.of (sm _ _ ec)) ?_ ?_⟩
  · rintro i x σ H' hx ⟨t5, t6, t7, t8, rfl, sm, el⟩
    obtain ⟨cd, eq_, tq⟩ := tcs.get hx
    rw [List.getElem?_map] at eq_
    obtain ⟨c, ed, rfl⟩ : ∃ c, d.chs[i]? = some c ∧ cd = c.d := by
      cases e : d.chs[i]? with
      | none =>
        rw [e] at eq_
        cases eq_
      | some t =>
        rw [e] at eq_
        exact ⟨t, rfl, (Option.some.inj eq_).symm⟩
    obtain ⟨a, ys, rfl, hya, hy⟩ := tp_tup (tq.same sm)
    cases hy with
    | cons y0 y1 =>
    cases y1 with
    | cons y1 y2 =>
    cases y2 with
    | cons y2 y3 =>
    cases y3
    have z0 := tp_str y0
    subst z0
    have z1 := tp_int y1
    subst z1
    obtain ⟨c1, c2⟩ := cj c (List.mem_of_getElem? ed)
    have step := chAll_take (cs := h.cs) (it := it) (ws := ws) ed
    have wl2 : (chAll h.cs it ws (d.chs.take i)).length = ws.length := chAll_len
    rw [step]
    generalize chAll h.cs it ws (d.chs.take i) = wi at *
    have c2' := isW_len wl2 c2
    obtain ⟨o1, o2⟩ := Src.out_w (who := who) (it := it) c2'
    refine ⟨a, _, rfl, hya, rfl, _, _, rfl, _, _, rfl, _, _, rfl, rfl, ?_⟩
    refine ⟨_, rfl, _, rfl, _, rfl, _, rfl, _, l, c.s, wi, who, it, rfl, y2, .inr (SqL.of el), o2, fun u tu => ?_⟩
    rw [o1] at tu
    have eu := tp_int tu
    subst eu
    have hj : c.j < wi.length := by omega
    refine ⟨_, rfl, rfl, _, rfl, ?_⟩
    have ixj : ixN (wi.map V.int).length (c.j : Int) = some c.j := by
      unfold ixN
      rw [List.length_map, if_pos (by omega), if_pos (by omega)]
      simp
    cases ea : c.add with
    | true =>
      have e5 : decide (V.str (verb true) = V.str "add") = true := decide_eq_true rfl
      rw [e5]
      refine iteT ?_
      have jl : c.j < h.cs.length := by omega
      have ecell : h.cs[c.j]? = some h.cs[c.j] := List.getElem?_eq_getElem jl
      obtain ⟨cxs, cp, cys, k1, k2, k3, k4⟩ := cell_at (tc.same sm) ecell
      refine ⟨_, rfl, _, rfl, l, _, _, _, rfl, rfl, SqL.of el, atI_nat (int_at hj), _, rfl, _, _, rfl, rfl, ?_⟩
      refine ⟨_, rfl, p, E, dx, _, _, rfl, sm _ _ ob, T.cl, T.n3, rfl, _, rfl, ac, cxs, _, _, rfl, rfl, k1, k2, cp, cys, 1, _, rfl, rfl, k3, k4, _, _, rfl, rfl, cz _ (List.getElem_mem jl), ?_⟩
      refine ⟨_, rfl, _, rfl, _, rfl, l, _, _, c.j, rfl, rfl, el, ixj, ?_⟩
      have es : sizeAt h.cs c.j = h.cs[c.j].z := by
        unfold sizeAt
        rw [ecell]
        rfl
      have e9 : (chStep h.cs it wi c).map V.int = (wi.map V.int).set c.j (.int ((wi.getD c.j 0 + c.s.num? wi it).fmod h.cs[c.j].z)) := by
        unfold chStep
        rw [ea, if_pos rfl, es, List.map_set]
      rw [e9]
      exact ⟨_, _, _, _, rfl, same_grow hl sm, upd_same⟩
    | false =>
      have e5 : decide (V.str (verb false) = V.str "add") = false := by decide +kernel
      rw [e5]
      refine iteF ?_
      refine ⟨_, rfl, _, rfl, _, rfl, l, _, _, c.j, rfl, rfl, el, ixj, ?_⟩
      have e9 : (chStep h.cs it wi c).map V.int = (wi.map V.int).set c.j (.int (c.s.num? wi it)) := by
        unfold chStep
        rw [ea, if_neg (by decide), List.map_set]
      rw [e9]
      exact ⟨_, _, _, _, rfl, same_grow hl sm, upd_same⟩
  · rintro σ H' ⟨t5, t6, t7, t8, rfl, sm, el⟩
    rw [ln, List.take_length] at el
    refine ⟨_, rfl, l, _, rfl, .inl ⟨SqL.of el, fun r hr' => ?_⟩⟩
    exact k r _ (sm.trans (same_new hr' _)) (SqT.of upd_same)
end
end Hx
set_option maxRecDepth 100000
set_option maxHeartbeats 8000000
/-! The stand behind a move. -/
namespace Hx
open PySem PySem.Spec PyProof.Rows L2
def RowD.out (ks : List KindD) (ws : List Int) (who : Str) (it : Int) (r : RowD) : PyData := .tuple [.str ((ks[r.j]?.map (·.x)).getD Str.empty), .tuple (r.ss.map (Src.out ws who it))]
/-- the inner list: what comes from each source -/
theorem lc_srcs {K : PySem.W.Frag} {σ : L2.St} {H : Hp} {a aw : Addr} {xs : List V} {ss : List Src} {ws : List Int} {who : Str} {it : Int} {i s1 s2 s3 s4 : Nat} {Q : VK} (e1 : σ[s1]? = some (some (.ref a))) (e2 : σ[s2]? = some (some (.ref aw))) (e3 : σ[s3]? = some (some (.str who))) (e4 : σ[s4]? = some (some (.int it)))
    (hi : i < σ.length) (n2 : i ≠ s2) (n3 : i ≠ s3) (n4 : i ≠ s4) (ha : SqT K H a xs) (hx : TpAll K H xs (ss.map Src.d)) (hw : SqT K H aw (ws.map V.int)) (hin : ∀ s ∈ ss, s.inn ws) (few : ss.length ≤ 900)
    (k : ∀ G H' ys, Same H H' → H' G = some (.lst ys) → TpAll K H' ys (ss.map (Src.out ws who it)) → Q (.ref G) H') : tLc (iTup K (tVar s1)) (gName i) tYes (tCall (spWork K) [] E0 (tCons (tVar i) (tCons (tVar s2) (tCons (tVar s3) (tCons (tVar s4) tNil))))) [i] σ H Q := by
  have ln := hx.length
  rw [List.length_map] at ln
  refine ⟨_, e1, a, rfl, ⟨_, ha⟩, fun G hG => lc_tup (xs := xs) (fun j H' => Same H H' ∧ ∃ ys, H' G = some (.lst ys) ∧ TpAll K H' ys ((ss.take j).map (Src.out ws who it))) ⟨same_new hG _, [], upd_same, .nil⟩ (fun j H' _ z => same_sqt z.1 ha) ?_ (fun H' z => ?_)⟩
  · rintro j x H' hj ⟨sm, ys, eG, ty⟩
    obtain ⟨d, ed, tp⟩ := hx.get hj
    rw [List.getElem?_map] at ed
    obtain ⟨s, es, rfl⟩ : ∃ c, ss[j]? = some c ∧ d = c.d := by
      cases e : ss[j]? with
      | none =>
        rw [e] at ed
        cases ed
      | some t =>
        rw [e] at ed
        exact ⟨t, rfl, (Option.some.inj ed).symm⟩
    have hlt : j < ss.length := (List.getElem?_eq_some_iff.mp es).1
    refine ⟨set2, yes ⟨_, get_same hi, _, get_other e2 n2, _, get_other e3 n3, _, get_other e4 n4, x, aw, s, ws, who, it, rfl, tp.same sm, .inl (same_sqt sm hw), hin s (List.mem_of_getElem? es), fun u tu => ?_⟩⟩
    refine ⟨ys, eG, ?_, same_grow hG sm, ys ++ [u], upd_same, ?_⟩
    · rw [ty.length, List.length_map, List.length_take]
      exact small1000 (by omega)
    · rw [List.take_add_one, es, List.map_append]
      exact TpAll.append (ty.lst eG) (.cons (tu.lst eG) .nil)
  · obtain ⟨sm, ys, eG, ty⟩ := z
    rw [ln, List.take_length] at ty
    exact k G H' ys sm eG ty
def rTupOf (K : PySem.W.Frag) : List V → Hp → VK → Prop := fun xs H Q => ∃ p ys, xs = [.ref p] ∧ ((SqL K H p ys ∧ ∀ l, H l = none → Q (.ref l) (upd H l (.tup ys))) ∨ (SqT K H p ys ∧ Q (.ref p) H))
theorem call_tuple_ofK {X : Cx} (K : PySem.W.Frag) (h : X.K = K := by rfl) : CallR X (.type "tuple") (rTupOf K) := by
  subst h
  exact call_tuple_of
theorem pi_tupK {X : Cx} (K : PySem.W.Frag) {tg l : Expr} {tl : TE} (hl : PE X l tl) (h : X.K = K := by rfl) : PI X tg l (iTup K tl) := by
  subst h
  exact pi_tup hl
abbrev scRows : Scope := ⟨.function, [(".0", .local), ("kind", .local), ("sources", .local), ("tuple", .globalImplicit), ("it", .cell), ("who", .cell), ("worths", .cell)], false, false, []⟩
theorem get_two {σ : L2.St} {i j m : Nat} {x y : V} (h1 : i ≠ m) (h2 : j ≠ m) : (((wipe σ [i, j]).set i (some x)).set j (some y))[m]? = σ[m]? := by
  rw [List.getElem?_set_ne h2, List.getElem?_set_ne h1, wipe_get, if_neg (by simp [h1.symm, h2.symm])]
theorem lc_rows {K : PySem.W.Frag} {σ : L2.St} {H : Hp} {q D dxq ar aw : Addr} {fs : List (Str × V)} {xs : List V} {rs : List RowD} {ks : List KindD} {ws : List Int} {who : Str} {it : Int} {Q : VK} (e9 : σ[9]? = some (some (.ref q))) (e3 : σ[3]? = some (some (.ref aw))) (e7 : σ[7]? = some (some (.str who))) (e8 : σ[8]? = some (some (.int it))) (hl : 13 < σ.length)
    (ob : H q = some (.ins D dxq fs)) (cl : L2.Cls K D) (nR : NoAttr K D "rows") (fd : fs.lookup ("rows" : Str) = some (.ref ar)) (er : H ar = some (.lst xs)) (tx : TpAll K H xs (rs.map (RowD.d ks))) (hw : SqT K H aw (ws.map V.int)) (hin : ∀ r ∈ rs, (∀ s ∈ r.ss, s.inn ws) ∧ r.ss.length ≤ 900) (few : rs.length ≤ 900)
    (k : ∀ G H' ys, Same H H' → H' G = some (.lst ys) → TpAll K H' ys (rs.map (RowD.out ks ws who it)) → Q (.ref G) H') :
    tLc (iList K (tFld K (tVar 9) "rows")) (gTup K 2 (gCons (gName 11) (gCons (gName 12) gNil))) tYes (tTup (tCons (tVar 11) (tCons (tCB (rTupOf K) (tCons (tLc (iTup K (tVar 12)) (gName 13) tYes (tCall (spWork K) [] E0 (tCons (tVar 13) (tCons (tVar 3) (tCons (tVar 7) (tCons (tVar 8) tNil))))) [13]) tNil)) tNil))) [11, 12] σ H Q := by
  have ln := tx.length
  rw [List.length_map] at ln
  refine ⟨_, e9, q, D, dxq, _, _, rfl, ob, cl, nR, fd, ar, rfl, ⟨_, SqL.of er⟩, fun G hG => lc_list (xs := xs) (fun j H' => Same H H' ∧ ∃ ys, H' G = some (.lst ys) ∧ TpAll K H' ys ((rs.take j).map (RowD.out ks ws who it))) ⟨same_new hG _, [], upd_same, .nil⟩ (fun j H' _ z => SqL.of (z.1 _ _ er)) ?_ (fun H' z => ?_)⟩
  · rintro j x H' hj ⟨sm, ys, eG, ty⟩
    obtain ⟨d, ed, tp⟩ := tx.get hj
    rw [List.getElem?_map] at ed
    obtain ⟨r, es, rfl⟩ : ∃ c, rs[j]? = some c ∧ d = c.d ks := by
      cases e : rs[j]? with
      | none =>
        rw [e] at ed
        cases ed
      | some t =>
        rw [e] at ed
        exact ⟨t, rfl, (Option.some.inj ed).symm⟩
    have hlt : j < rs.length := (List.getElem?_eq_some_iff.mp es).1
    obtain ⟨h1, h2⟩ := hin r (List.mem_of_getElem? es)
    obtain ⟨a, zs, rfl, hya, hy⟩ := tp_tup (tp.same sm)
    cases hy with
    | cons y0 y1 =>
    cases y1 with
    | cons y1 y2 =>
    cases y2
    have z0 := tp_str y0
    subst z0
    obtain ⟨b, bs, rfl, hb, hbs⟩ := tp_tup y1
    have len : (((wipe σ [11, 12]).set 11 (some (.str ((ks[r.j]?.map (·.x)).getD Str.empty)))).set 12 (some (.ref b))).length = σ.length := by simp [wipe_length]
    refine ⟨a, _, rfl, hya, rfl, _, _, rfl, _, _, rfl, rfl, set2b, yes ?_⟩
    have f12 : (((wipe σ [11, 12]).set 11 (some (V.str ((ks[r.j]?.map (·.x)).getD Str.empty)))).set 12 (some (V.ref b)))[12]? = some (some (V.ref b)) := List.getElem?_set_self (by rw [List.length_set, wipe_length]; omega)
    have f11 : (((wipe σ [11, 12]).set 11 (some (V.str ((ks[r.j]?.map (·.x)).getD Str.empty)))).set 12 (some (V.ref b)))[11]? = some (some (V.str ((ks[r.j]?.map (·.x)).getD Str.empty))) := by
      rw [List.getElem?_set_ne (by decide), List.getElem?_set_self (by rw [wipe_length]; omega)]
    refine ⟨_, f11, ?_⟩
    dsimp only [tCons, tCB]
    refine lc_srcs (s1 := 12) (s2 := 3) (s3 := 7) (s4 := 8) (i := 13) f12 ((get_two (by decide) (by decide)).trans e3) ((get_two (by decide) (by decide)).trans e7) ((get_two (by decide) (by decide)).trans e8) (by rw [len]; exact hl) (by decide) (by decide) (by decide) hb hbs (same_sqt sm hw) h1 h2 fun M H2 us s2 eM tus => ?_
    refine ⟨M, us, rfl, .inl ⟨SqL.of eM, fun c hc => ?_⟩⟩
    have s3 := same_new hc (.tup us)
    refine ⟨sz (by decide : 2 ≤ 1000), fun e he => ?_⟩
    have s4 := same_new he (.tup [.str ((ks[r.j]?.map (·.x)).getD Str.empty), .ref c])
    have s24 := s2.trans (s3.trans s4)
    have tn : Tp K (upd (upd H2 c (.tup us)) e (.tup [.str ((ks[r.j]?.map (·.x)).getD Str.empty), .ref c])) (.ref e) (r.out ks ws who it) := .tup (SqT.of upd_same) (.cons (.str _) (.cons (.tup (same_sqt s4 (SqT.of upd_same)) (tus.same (s3.trans s4))) .nil))
    have eG4 := s24 _ _ eG
    have ty4 := ty.same s24
    have sm4 := sm.trans s24
    show ∃ acc, upd (upd H2 c (.tup us)) e (.tup [.str ((ks[r.j]?.map (·.x)).getD Str.empty), .ref c]) G = some (.lst acc) ∧ _
    generalize upd (upd H2 c (.tup us)) e (.tup [.str ((ks[r.j]?.map (·.x)).getD Str.empty), .ref c]) = H4 at *
    refine ⟨ys, eG4, ?_, same_grow hG sm4, ys ++ [.ref e], upd_same, ?_⟩
    · rw [ty.length, List.length_map, List.length_take]
      exact small1000 (by omega)
    · rw [List.take_add_one, es, List.map_append]
      exact TpAll.append (ty4.lst eG4) (.cons (tn.lst eG4) .nil)
  · obtain ⟨sm, ys, eG, ty⟩ := z
    rw [ln, List.take_length] at ty
    exact k G H' ys sm eG ty
/-- a deed whose tests, changes and rows fit these worths -/
def DeedFit (ws : List Int) (d : DeedD) : Prop := (∀ t ∈ d.ts, t.j < ws.length) ∧ d.ts.length ≤ 2 ∧ (∀ c ∈ d.chs, c.j < ws.length ∧ c.s.isW ws) ∧ (∀ r ∈ d.rs, (∀ s ∈ r.ss, s.inn ws) ∧ r.ss.length ≤ 900) ∧ d.rs.length ≤ 900
inductive Behind (h : HouseD) (ws : List Int) (n : Int) : MoveD → PyData → PyData → Prop
  | night : Behind h ws n .night (standD ws 0) (.tuple [])
  | act {j : Nat} {d : DeedD} {who : Str} {it : Int} : h.ds[j]? = some d → PyData.strOk d.x = true → PyData.strOk who = true → DeedFit ws d → Behind h ws n (.act d.x who it) (standD (chAll h.cs it ws d.chs) (n + 1)) (.tuple (d.rs.map (RowD.out h.ks (chAll h.cs it ws d.chs) who it)))
theorem inn_len {ws ws' : List Int} {s : Src} (e : ws'.length = ws.length) (h : s.inn ws) : s.inn ws' := by
  cases s with
  | cell j =>
    show j < ws'.length
    have : j < ws.length := h
    omega
  | it => trivial
  | num v => trivial
  | who => trivial
  | person x => trivial
section
variable {P : Program} {w : World} {K : PySem.W.Frag} {mg : Str → Option Value} {base : Heap} {D E fI : Addr}
def spBehind (D E : Addr) (K : PySem.W.Frag) : Sp := fun vs H Q _ => ∃ (p : Addr) (t : Str) (h : HouseD) (v u : V) (ws : List Int) (n : Int) (m : MoveD) (s b : PyData), vs = [.ref p, v, u] ∧ HouseAt K D E H p t h ∧ (h.ds.map (·.x)).Nodup ∧ ws.length = h.cs.length ∧ (∀ c ∈ h.cs, c.z ≠ 0) ∧ Tp K H v (standD ws n) ∧ Tp K H u m.d ∧ Behind h ws n m s b ∧
  ∀ a H', Same H H' → Tp K H' a (.tuple [s, b]) → Q a H'
abbrev nBehind : List Str := ["house", "stand", "move", "worths", "today", "_", "name", "who", "it", "deed", "rows", "kind", "sources", "source"]
theorem scBehind : FnScope nBehind ["house", "stand", "move"] (defScope sBehind) := ⟨rfl, rfl, rfl, by decide +kernel, rfl, by decide +kernel, by decide +kernel⟩
theorem ok_behind {f : Addr} {fd : FuncData} (F : Fun K "stand_behind" "stand_behind" sBehind f fd) (T : STxt K mg E) (DT : DTxt K mg D fI) (GW : DefOk P w K mg base "worked_out" 1 ["source", "worths", "who", "it"] (spWork K)) (GC : DefOk P w K mg base "changed" 2 ["house", "deed", "worths", "who", "it"] (spChanged D E K)) :
    FnOk P w K mg base CX0 3 f fd ["house", "stand", "move"] (spBehind D E K) := by
  refine F.ok scBehind (fun vs H Q E h => ?_) (fun cdv A outer s H vs Q Ex hr h => ?_)
  · obtain ⟨p, t, h, v, u, ws, n, m, s, b, rfl, _⟩ := h
    rfl
  obtain ⟨p, t, h, v, u, ws, n, m, st, bk, rfl, ha, dn, wl, cz, tv, tu, be, k⟩ := h
  have nd := scBehind.nd
  have hu := hr.units
  have hr1 : Room 1 (A.deeper (envOfC "stand_behind" (defScope sBehind) s.heap.objs.size f cdv)) := hr.mono (by decide)
  obtain ⟨aN, mgN, hN⟩ := T.night
  refine ⟨_, pss_cons (ps_asg (pv 1) (pg_tup rfl (pgs_cons (pg_name (i := 3) nd rfl (.inr rfl)) (pgs_cons (pg_name (i := 4) nd rfl (.inl rfl)) pgs_nil))))
    (pss_cons (ps_if (pt_cmpR (op_eqD hu) (pv 2) (pe_glob (v := .ref aN) rfl mgN rfl) (nomark _)) (pss_one (ps_ret (pe_tup (pa_cons (pe_tup (pa_cons (pv 3) (pa_cons pe_int pa_nil))) (pa_cons (pe_tup pa_nil) pa_nil))))) pss_nil)
    (pss_cons (ps_asg (pv 2) (pg_tup rfl (pgs_cons (pg_name (i := 5) nd rfl (.inl rfl)) (pgs_cons (pg_name (i := 6) nd rfl (.inl rfl)) (pgs_cons (pg_name (i := 7) nd rfl (.inr rfl)) (pgs_cons (pg_name (i := 8) nd rfl (.inr rfl)) pgs_nil))))))
    (pss_cons (ps_set (i := 9) nd rfl (.inl rfl) (pe_dget (hu_of hr) (pe_fld (pv 0) rfl) (pv 6) (fun _ _ => rfl)))
    (pss_cons (ps_set (i := 3) nd rfl (.inr rfl) (pe_D GC hr rfl (pa_cons (pv 0) (pa_cons (pv 9) (pa_cons (pv 3) (pa_cons (pv 7) (pa_cons (pv 8) pa_nil)))))))
    (pss_cons (ps_setLc (i := 10) (own := [("kind", 11), ("sources", 12)]) (g := gTup K 2 (gCons (gName 11) (gCons (gName 12) gNil))) (tt := tYes) rfl nd rfl rfl (sw_true rfl rfl rfl (by decide +kernel)) (pi_list (pe_fld (pv 9) rfl)) (blkOk_by (N := nBehind) (sc := defScope sBehind) (by decide +kernel))
        (fun _ _ _ _ _ => pg_tupK K (pgs_cons (pg_name (i := 11) nd rfl (Or.inl rfl)) (pgs_cons (pg_name (i := 12) nd rfl (Or.inl rfl)) pgs_nil))) (fun _ _ _ _ _ => pts_nil)
        (fun _ _ _ _ _ => pe_tup (pa_cons (pv 11) (pa_cons (pe_callTy (call_tuple_ofK K) rfl T.tuple PyProof.Rows.Boot.«tuple» (pa_cons
          (pe_lc (own := [("source", 13)]) (g := gName 13) (tt := tYes) rfl nd (pi_tupK K (pv 12)) (blkOk_by (N := nBehind) (sc := scRows) (by decide +kernel)) (fun _ _ _ _ _ => pg_name (i := 13) nd rfl (Or.inl rfl)) (fun _ _ _ _ _ => pts_nil)
            (fun _ _ _ _ _ => pe_D GW hr1 rfl (pa_cons (pv 13) (pa_cons (pv 3) (pa_cons (pv 7) (pa_cons (pv 8) pa_nil)))))) pa_nil)) pa_nil))))
    (pss_one (ps_ret (pe_tup (pa_cons (pe_tup (pa_cons (pv 3) (pa_cons (pe_op op_add (pv 4) pe_int) pa_nil))) (pa_cons (pe_callTy call_tuple_of rfl T.tuple PyProof.Rows.Boot.«tuple» (pa_cons (pv 10) pa_nil)) pa_nil)))))))))), ?_⟩
  obtain ⟨dx, ap, ac, ak, ad, as_, ao, ps, qs, ob, pp, tc, tk, td, es, dd, _⟩ := ha.ex
  obtain ⟨va, vys, rfl, hva, hvy⟩ := tp_tup tv
  cases hvy with
  | cons g0 g1 =>
  cases g1 with
  | cons g1 g2 =>
  cases g2
  have e1 := tp_int g1
  subst e1
  obtain ⟨wa, wys, rfl, hwa, hwy⟩ := tp_tup g0
  have ew := tpa_ints hwy
  subst ew
  refine ⟨_, rfl, va, _, rfl, hva, rfl, _, _, rfl, _, _, rfl, rfl, ?_⟩
  cases be with
  | night =>
    refine ⟨_, rfl, MoveD.night.d, MoveD.night.d, tu.dp, (tp_night (hN _)).dp, shaped_night, shaped_night, _, rfl, ?_⟩
    rw [eq_night]
    refine iteT ⟨_, rfl, sz (by decide : 2 ≤ 1000), fun a ha' => ?_⟩
    have s1 := same_new ha' (.tup [.ref wa, .int 0])
    refine ⟨sz (by decide : 0 ≤ 1000), fun b hb => ?_⟩
    have s2 := same_new hb (.tup [])
    refine ⟨sz (by decide : 2 ≤ 1000), fun c hc => ?_⟩
    have s3 := same_new hc (.tup [.ref a, .ref b])
    refine k _ _ (s1.trans (s2.trans s3)) (.tup (SqT.of upd_same) (.cons (.tup (same_sqt (s2.trans s3) (SqT.of upd_same)) (.cons (.tup (same_sqt (s1.trans (s2.trans s3)) hwa) (tpa_of_ints _)) (.cons (.int _) .nil))) (.cons (.tup (same_sqt s3 (SqT.of upd_same)) .nil) .nil)))
  | @act j d who it ej s1 s2 fit =>
    obtain ⟨f1, f2, f3, f4, f5⟩ := fit
    refine ⟨_, rfl, (MoveD.act d.x who it).d, MoveD.night.d, tu.dp, (tp_night (hN _)).dp, shaped_act it s1 s2, shaped_night, _, rfl, ?_⟩
    rw [eq_act]
    refine iteF ?_
    obtain ⟨ua, uys, rfl, hua, huy⟩ := tp_tup tu
    cases huy with
    | cons u0 u1 =>
    cases u1 with
    | cons u1 u2 =>
    cases u2 with
    | cons u2 u3 =>
    cases u3 with
    | cons u3 u4 =>
    cases u4
    have e1 := tp_str u1
    subst e1
    have e2 := tp_str u2
    subst e2
    have e3 := tp_int u3
    subst e3
    have np : ps.length = h.ds.length := dd.len
    have jl : j < ps.length := by rw [np]; exact (List.getElem?_eq_some_iff.mp ej).1
    have ep : ps[j]? = some ps[j] := List.getElem?_eq_getElem jl
    obtain ⟨d', ed', da, _⟩ := dd.at ep
    rw [ej] at ed'
    cases ed'
    refine ⟨_, rfl, ua, _, rfl, hua, rfl, _, _, rfl, _, _, rfl, _, _, rfl, _, _, rfl, rfl, ?_⟩
    refine ⟨_, rfl, p, E, dx, _, _, rfl, ob, T.cl, T.n6, rfl, _, rfl, as_, .ref ps[j], rfl, ?_, ?_⟩
    · rw [← valV_zip dn ej ep]
      exact DGet.k (k := Sum.inr d.x) es
    refine ⟨_, rfl, _, rfl, _, rfl, _, rfl, _, rfl, p, ps[j], wa, t, h, d, _, ws, who, it, rfl, ha, da, hwa, wl, cz, f3, fun a H1 sm1 hs1 => ?_⟩
    have wl2 : (chAll h.cs it ws d.chs).length = ws.length := chAll_len
    generalize chAll h.cs it ws d.chs = ws2 at *
    obtain ⟨dxq, ab, at_, ach, ar, _, oq, hb, _, _, ⟨xs, er, trs⟩⟩ := (da.same sm1).ex
    dsimp only [gName]
    refine seq_asg ?_
    refine lc_rows (ks := h.ks) (rs := d.rs) (ws := ws2) (who := who) (it := it) rfl rfl rfl rfl (by show 13 < 14; decide) oq DT.cl DT.nR rfl er trs hs1 (fun r hr' => ⟨fun s hs => inn_len wl2 ((f4 r hr').1 s hs), (f4 r hr').2⟩) f5 fun G H2 ys sm2 eG ty => ?_
    refine ⟨_, rfl, _, rfl, _, _, rfl, rfl, sz (by decide : 2 ≤ 1000), fun b hb => ?_⟩
    have s3 := same_new hb (.tup [.ref a, .int (n + 1)])
    refine ⟨_, rfl, G, _, rfl, .inl ⟨SqL.of (s3 _ _ eG), fun c hc => ?_⟩⟩
    have s4 := same_new hc (.tup ys)
    refine ⟨sz (by decide : 2 ≤ 1000), fun e he => ?_⟩
    have s5 := same_new he (.tup [.ref b, .ref c])
    refine k _ _ (sm1.trans (sm2.trans (s3.trans (s4.trans s5)))) (.tup (SqT.of upd_same) (.cons (.tup (same_sqt (s4.trans s5) (SqT.of upd_same)) (.cons (.tup (same_sqt (sm2.trans (s3.trans (s4.trans s5))) hs1) (tpa_of_ints _)) (.cons (.int _) .nil))) (.cons (.tup (same_sqt s5 (SqT.of upd_same)) (ty.same (s3.trans (s4.trans s5)))) .nil)))
/-! ### after -/
def spAfter (D E : Addr) (K : PySem.W.Frag) : Sp := fun vs H Q _ => ∃ (p : Addr) (t : Str) (h : HouseD) (v u : V) (ws : List Int) (n : Int) (m : MoveD) (s b : PyData), vs = [.ref p, v, u] ∧ HouseAt K D E H p t h ∧ (h.ds.map (·.x)).Nodup ∧ h.cs.length ≤ 3 ∧ Fits h.cs ws ∧ 0 ≤ n ∧ n ≤ h.day ∧ (∀ c ∈ h.cs, c.z ≠ 0) ∧ Tp K H v (standD ws n) ∧ Tp K H u m.d ∧ IsMv h m ∧ MayB h ws n m true ∧ Behind h ws n m s b ∧
  ∀ a H', Same H H' → Tp K H' a (.tuple [s, b]) → Q a H'
theorem scAfter : FnScope ["house", "stand", "move"] ["house", "stand", "move"] (defScope sAfter) := ⟨rfl, rfl, rfl, by decide +kernel, rfl, by decide +kernel, by decide +kernel⟩
theorem ok_after {f : Addr} {fd : FuncData} (F : Fun K "after" "after" sAfter f fd) (GS : DefOk P w K mg base "is_stand" 2 ["house", "value"] (spStand D E K)) (GM : DefOk P w K mg base "is_move" 3 ["house", "value"] (spIsMove D E K)) (GP : DefOk P w K mg base "is_possible" 2 ["house", "stand", "move"] (spPoss D E K)) (GB : DefOk P w K mg base "stand_behind" 3 ["house", "stand", "move"] (spBehind D E K)) :
    FnOk P w K mg base CX0 4 f fd ["house", "stand", "move"] (spAfter D E K) := by
  refine F.ok scAfter (fun vs H Q E h => ?_) (fun cdv A outer s H vs Q Ex hr h => ?_)
  · obtain ⟨p, t, h, v, u, ws, n, m, s, b, rfl, _⟩ := h
    rfl
  obtain ⟨p, t, h, v, u, ws, n, m, st, bk, rfl, ha, dn, c3, fit, n0, n1, cz, tv, tu, im, may, be, k⟩ := h
  have hr2 : Room 2 (A.deeper (envOfC "after" (defScope sAfter) s.heap.objs.size f cdv)) := hr.mono (by decide)
  refine ⟨_, pss_cons (ps_if (pt_not (pt_val (pe_D GS hr2 rfl (pa_cons (pv 0) (pa_cons (pv 1) pa_nil))))) pss_never pss_nil)
    (pss_cons (ps_if (PW.pt (pw_or (pt_not (pt_val (pe_D GM hr rfl (pa_cons (pv 0) (pa_cons (pv 2) pa_nil))))) (pw_or1 (pt_not (pt_val (pe_D GP hr2 rfl (pa_cons (pv 0) (pa_cons (pv 1) (pa_cons (pv 2) pa_nil))))))))) pss_never pss_nil)
    (pss_one (ps_ret (pe_D GB hr rfl (pa_cons (pv 0) (pa_cons (pv 1) (pa_cons (pv 2) pa_nil))))))), ?_⟩
  refine ⟨_, rfl, _, rfl, p, t, h, v, ws, n, rfl, ha, c3, tv, fit, n0, n1, fun H1 s1 => ⟨_, rfl, iteF ?_⟩⟩
  refine ⟨_, rfl, _, rfl, p, t, h, u, m, rfl, ha.same s1, dn, tu.same s1, im, fun H2 s2 => ⟨_, rfl, iteF ?_⟩⟩
  refine ⟨_, rfl, _, rfl, _, rfl, p, t, h, v, u, ws, n, m, true, rfl, (ha.same s1).same s2, dn, (tv.same s1).same s2, (tu.same s1).same s2, may, fun H3 s3 => ⟨_, rfl, iteF ?_⟩⟩
  have s03 := s1.trans (s2.trans s3)
  exact ⟨_, rfl, _, rfl, _, rfl, p, t, h, v, u, ws, n, m, st, bk, rfl, ha.same s03, dn, fit.1, cz, tv.same s03, tu.same s03, be, fun a H' s4 => k a H' (s03.trans s4)⟩
end
end Hx
set_option maxRecDepth 100000
set_option maxHeartbeats 8000000
/-! The law's own drawing. -/
namespace Hx
open PySem PySem.Spec PyProof.Rows L2
abbrev sPot : Stmt := top 46
abbrev sLTake : Stmt := top 47
abbrev sUnlike : Stmt := top 49
abbrev sText : Stmt := top 9999
abbrev sRight : Stmt := top 61
abbrev sLaw : Stmt := top 62
theorem Bar.new {p q : Addr} {H : Hp} (h : H q = none) (o : HO) : Bar p H (L2.upd H q o) := fun b u _ e => by rw [upd_ne (ne_of_none e h)]; exact e
/-- a pot: three numbers, the last one at most c -/
def Pot (H : Hp) (p : Addr) (c : Int) : Prop := ∃ A B C : Int, H p = some (.lst [.int A, .int B, .int C]) ∧ 0 ≤ A ∧ 0 ≤ B ∧ B < 2 ^ 61 ∧ 0 ≤ C ∧ C ≤ c
theorem op_powX {X : Cx} : OpR X (binaryOp .Pow) (rI (fun i j => 0 ≤ j ∧ (Builtin.Int.intBits i : Int) * j ≤ 2 ^ 27) fun i j => .int (i ^ j.toNat)) := opI fun _ _ _ _ _ _ _ hc q => PyProof.Rows.pow_int hc.1 hc.2 q

/-! ### take -/
def spLTake : Sp := fun vs H Q _ => ∃ (p : Addr) (c m : Int), vs = [.ref p, .int m] ∧ Pot H p c ∧ c ≤ 1900 ∧ 1 ≤ m ∧ m ≤ 1000 ∧ ∀ (d : Int) (H' : Hp), 0 ≤ d → d < m → Bar p H H' → Pot H' p (c + 1) → Q (.int d) H'
theorem scLTake : FnScope ["_law_pot", "_law_upto", "_law_digit", "_law_prime", "_law_mixed"] ["_law_pot", "_law_upto"] (defScope sLTake) := ⟨rfl, rfl, rfl, by decide +kernel, rfl, by decide +kernel, by decide +kernel⟩
def primes : List V := [.int 2147483647, .int 2147483629, .int 2147483587, .int 2147483579, .int 2147483563]
theorem a_prime {r : Int} (h0 : 0 ≤ r) (h5 : r < 5) : ∃ v : Int, atI primes r = some (.int v) ∧ 0 < v ∧ v < 2 ^ 32 := by
  have e : r = 0 ∨ r = 1 ∨ r = 2 ∨ r = 3 ∨ r = 4 := by omega
  rcases e with rfl | rfl | rfl | rfl | rfl
  · exact ⟨2147483647, rfl, by decide, by decide⟩
  · exact ⟨2147483629, rfl, by decide, by decide⟩
  · exact ⟨2147483587, rfl, by decide, by decide⟩
  · exact ⟨2147483579, rfl, by decide, by decide⟩
  · exact ⟨2147483563, rfl, by decide, by decide⟩
theorem square {C : Int} (h0 : 0 ≤ C) (h : C ≤ 2000) : 0 ≤ 60037 * C * C ∧ 60037 * C * C ≤ 60037 * 2000 * 2000 := by
  have a : 0 ≤ C * C := Int.mul_nonneg h0 h0
  have b : C * C ≤ 2000 * 2000 := Int.mul_le_mul h h h0 (by decide)
  have e : 60037 * C * C = 60037 * (C * C) := Int.mul_assoc _ _ _
  omega
section
variable {P : Program} {w : World} {K : PySem.W.Frag} {mg : Str → Option Value} {base : Heap}
theorem ok_ltake {f : Addr} {fd : FuncData} (F : Fun K "_law_take" "_law_take" sLTake f fd) (mi : mg "int" = none) : FnOk P w K mg base CX0 1 f fd ["_law_pot", "_law_upto"] spLTake := by
  refine F.ok scLTake (fun vs H Q E h => ?_) (fun cdv A outer s H vs Q E hr h => ?_)
  · obtain ⟨p, c, m, rfl, _⟩ := h
    rfl
  obtain ⟨p, c, m, rfl, ⟨A0, B0, C0, ep, hA, hB, hB2, hC, hCc⟩, hc, hm, hm2, q⟩ := h
  refine ⟨_, pss_cons (ps_if (pt_cmpR op_gt (pe_ix ix_list (pv 0) pe_int (fun _ _ => rfl)) pe_int (nomark _))
      (pss_cons (ps_set (i := 2) scLTake.nd rfl (.inl rfl) (pe_op op_mod (pe_callTy call_int1 rfl mi PyProof.Rows.Boot.«int» (pa_cons (pe_ix ix_list (pv 0) pe_int (fun _ _ => rfl)) pa_nil)) (pv 1)))
      (pss_cons (ps_asg (pe_op op_fdiv (pe_ix ix_list (pv 0) pe_int (fun _ _ => rfl)) (pv 1)) (pg_sub (pv 0) pe_int set_list))
      (pss_one (ps_ret (pv 2))))) pss_nil)
    (pss_cons (ps_asg (pe_op op_add (pe_ix ix_list (pv 0) pe_int (fun _ _ => rfl)) pe_int) (pg_sub (pv 0) pe_int set_list))
    (pss_cons (ps_set (i := 3) scLTake.nd rfl (.inl rfl) (pe_ix ix_list (pe_lst (pa_cons pe_int (pa_cons pe_int (pa_cons pe_int (pa_cons pe_int (pa_cons pe_int pa_nil))))))
        (pe_op op_mod (pe_callTy call_int1 rfl mi PyProof.Rows.Boot.«int» (pa_cons (pe_ix ix_list (pv 0) pe_int (fun _ _ => rfl)) pa_nil)) pe_int) (fun _ _ => rfl)))
    (pss_cons (ps_set (i := 4) scLTake.nd rfl (.inl rfl) (pe_op op_mod (pe_op op_pow (pe_callTy call_int1 rfl mi PyProof.Rows.Boot.«int» (pa_cons (pe_op op_add (pe_op op_add (pe_ix ix_list (pv 0) pe_int (fun _ _ => rfl))
        (pe_op op_mul (pe_op op_mul pe_int (pe_ix ix_list (pv 0) pe_int (fun _ _ => rfl))) (pe_ix ix_list (pv 0) pe_int (fun _ _ => rfl)))) pe_int) pa_nil)) pe_int) (pv 3)))
    (pss_one (ps_ret (pe_op op_mod (pe_op op_fdiv (pe_op op_mod (pe_callTy call_int1 rfl mi PyProof.Rows.Boot.«int» (pa_cons (pe_op op_mul (pv 4)
        (pe_op op_add (pe_op op_mod (pe_callTy call_int1 rfl mi PyProof.Rows.Boot.«int» (pa_cons (pv 4) pa_nil)) pe_int) (pe_op op_mul pe_int (pe_ix ix_list (pv 0) pe_int (fun _ _ => rfl))))) pa_nil)) pe_int) pe_int) (pv 1))))))), ?_⟩
  have sp : SqL K H p [.int A0, .int B0, .int C0] := SqL.of ep
  refine ⟨_, rfl, p, _, 0, _, rfl, rfl, sp, rfl, _, _, rfl, rfl, _, rfl, ?_⟩
  refine ite2 (fun pos => ?_) (fun _ => ?_)
  · refine ⟨_, rfl, p, _, 0, _, rfl, rfl, sp, rfl, .inl ⟨_, rfl, _, rfl, _, _, rfl, rfl, (by omega : (0 : Int) < m), ?_⟩⟩
    refine ⟨_, rfl, p, _, 0, _, rfl, rfl, sp, rfl, _, rfl, _, _, rfl, rfl, ⟨by omega, by omega⟩, _, rfl, p, _, 0, 0, rfl, rfl, ep, rfl, ?_⟩
    refine ⟨_, rfl, ?_⟩
    refine q (A0 % m) _ (Int.emod_nonneg _ (by omega)) (Int.emod_lt_of_pos _ (by omega)) (Bar.upd p H _) ⟨A0 / m, B0, C0, upd_same, Int.ediv_nonneg hA (by omega), hB, hB2, hC, by omega⟩
  · refine ⟨_, rfl, p, _, 2, _, rfl, rfl, sp, rfl, _, _, rfl, rfl, _, rfl, p, _, 2, 2, rfl, rfl, ep, rfl, ?_⟩
    have e1 : upd H p (.lst (([.int A0, .int B0, .int C0] : List V).set 2 (.int (C0 + 1)))) p = some (.lst [.int A0, .int B0, .int (C0 + 1)]) := upd_same
    generalize hH1 : upd H p (.lst (([.int A0, .int B0, .int C0] : List V).set 2 (.int (C0 + 1)))) = H1 at e1
    have o1 : Bar p H H1 := by rw [← hH1]; exact Bar.upd p H _
    obtain ⟨v, hv, v0, v1⟩ := a_prime (r := (C0 + 1) % 5) (Int.emod_nonneg _ (by decide)) (Int.emod_lt_of_pos _ (by decide))
    obtain ⟨q0, q1⟩ := square (C := C0 + 1) (by omega) (by omega)
    refine ⟨sz (by decide : 5 ≤ 1000), fun l hl => ?_⟩
    have nl : p ≠ l := ne_of_none e1 hl
    have e2 : upd H1 l (.lst primes) p = some (.lst [.int A0, .int B0, .int (C0 + 1)]) := by rw [upd_ne nl]; exact e1
    have s2 : SqL K (upd H1 l (.lst primes)) p [.int A0, .int B0, .int (C0 + 1)] := SqL.of e2
    have o2 : Bar p H (upd H1 l (.lst primes)) := o1.trans (Bar.new hl _)
    have s3 : SqL K (upd H1 l (.lst primes)) l primes := SqL.of upd_same
    refine ⟨_, rfl, p, _, 2, _, rfl, rfl, s2, rfl, .inl ⟨_, rfl, _, _, rfl, rfl, (by decide : (0 : Int) < 5), l, primes, _, _, rfl, rfl, s3, hv, ?_⟩⟩
    refine ⟨_, rfl, p, _, 1, _, rfl, rfl, s2, rfl, _, rfl, p, _, 2, _, rfl, rfl, s2, rfl, _, _, rfl, rfl, .inl ⟨by decide, by decide⟩, _, rfl, p, _, 2, _, rfl, rfl, s2, rfl, _, _, rfl, rfl, .inl ⟨by omega, by omega⟩,
      _, _, rfl, rfl, _, _, rfl, rfl, .inl ⟨_, rfl, _, _, rfl, rfl, ⟨by decide, by decide, by omega⟩, _, rfl, _, _, rfl, rfl, v0, ?_⟩⟩
    have m0 := Int.emod_nonneg ((B0 + 60037 * (C0 + 1) * (C0 + 1) + 59) ^ (3 : Int).toNat) (show v ≠ 0 by omega)
    have m1 := Int.emod_lt_of_pos ((B0 + 60037 * (C0 + 1) * (C0 + 1) + 59) ^ (3 : Int).toNat) v0
    refine ⟨_, rfl, _, rfl, .inl ⟨_, rfl, _, _, rfl, rfl, (by decide : (0 : Int) < 10037), _, rfl, p, _, 2, _, rfl, rfl, s2, rfl, _, _, rfl, rfl, .inl ⟨by decide, by decide⟩, _, _, rfl, rfl, _, _, rfl, rfl, .inl ⟨by omega, by omega⟩, .inl ⟨_, rfl,
      _, _, rfl, rfl, (by decide : (0 : Int) < 2305843009213693951), _, _, rfl, rfl, ⟨by decide, by decide⟩, _, rfl, _, _, rfl, rfl, (by omega : (0 : Int) < m), ?_⟩⟩⟩
    exact q _ _ (Int.emod_nonneg _ (by omega)) (Int.emod_lt_of_pos _ (by omega)) o2 ⟨A0, B0, C0 + 1, e2, hA, hB, hB2, by omega, by omega⟩
end
theorem Pot.mono {H : Hp} {p : Addr} {c c' : Int} (h : c ≤ c') : Pot H p c → Pot H p c' := fun ⟨A, B, C, e, a, b, b2, x, y⟩ => ⟨A, B, C, e, a, b, b2, x, by omega⟩
theorem Pot.new {H : Hp} {p q : Addr} {c : Int} (P : Pot H p c) (h : H q = none) (o : HO) : Pot (upd H q o) p c := by
  obtain ⟨A, B, C, e, r⟩ := P
  exact ⟨A, B, C, by rw [upd_ne (ne_of_none e h)]; exact e, r⟩
theorem Pot.ne {H : Hp} {p q : Addr} {c : Int} (P : Pot H p c) (h : H q = none) : q ≠ p := by
  obtain ⟨A, B, C, e, r⟩ := P
  exact (ne_of_none e h).symm
theorem bit_lo (b : Bool) : -(2 ^ 64) < (if b = true then (1 : Int) else 0) := by cases b <;> decide
theorem bit_hi (b : Bool) : (if b = true then (1 : Int) else 0) < 2 ^ 64 := by cases b <;> decide
theorem bit_nn (b : Bool) : 0 ≤ (if b = true then (1 : Int) else 0) := by cases b <;> decide
/-! ### pot_of -/
def spPot (K : PySem.W.Frag) : Sp := fun vs H Q _ => ∃ (a : Addr) (ns : List Int) (k : Int), vs = [.ref a, .int k] ∧ SqL K H a (ns.map V.int) ∧ 0 ≤ k ∧ k ≤ 3 ∧
  ∀ (p : Addr) (A B : Int), H p = none → 0 ≤ A → 0 ≤ B → B < 2 ^ 61 → Q (.ref p) (upd H p (.lst [.int A, .int B, .int 0]))
theorem scPot : FnScope ["_law_script", "_law_k", "_law_cell", "_law_own"] ["_law_script", "_law_k"] (defScope sPot) := ⟨rfl, rfl, rfl, by decide +kernel, rfl, by decide +kernel, by decide +kernel⟩
section
variable {P : Program} {w : World} {K : PySem.W.Frag} {mg : Str → Option Value} {base : Heap}
theorem ok_pot {f : Addr} {fd : FuncData} (F : Fun K "_law_pot_of" "_law_pot_of" sPot f fd) (ml : mg "len" = none) (mi : mg "int" = none) (ma : mg "abs" = none) : FnOk P w K mg base CX0 1 f fd ["_law_script", "_law_k"] (spPot K) := by
  refine F.ok scPot (fun vs H Q E h => ?_) (fun cdv A outer s H vs Q E hr h => ?_)
  · obtain ⟨a, ns, k, rfl, _⟩ := h
    rfl
  obtain ⟨a, ns, k, rfl, hS, k0, k3, q⟩ := h
  refine ⟨_, pss_cons (ps_set (i := 2) scPot.nd rfl (.inl rfl) (pe_ifExp (pt_cmpR op_lt (pv 1) (pe_callB call_len_seq rfl ml PySem.boot_len (pa_cons (pv 0) pa_nil)) (nomark _)) (pe_ix ix_list (pv 0) (pv 1) (fun _ _ => rfl)) (pe_op op_add (pe_op op_mul pe_int (pv 1)) pe_int)))
    (pss_cons (ps_set (i := 3) scPot.nd rfl (.inl rfl) (pe_op op_mul (pe_op op_mod (pe_callTy call_int1 rfl mi PyProof.Rows.Boot.«int» (pa_cons (pe_callB call_abs rfl ma PyProof.Rows.Boot.«abs» (pa_cons (pv 2) pa_nil)) pa_nil)) (pe_op op_powX (pe_op op_powX pe_int pe_int) pe_int))
      (pe_callTy call_int1 rfl mi PyProof.Rows.Boot.«int» (pa_cons (pe_cmpR op_ge (pe_callB call_abs rfl ma PyProof.Rows.Boot.«abs» (pa_cons (pv 2) pa_nil)) (pe_op op_powX pe_int pe_int) (nomark _)) pa_nil))))
    (pss_one (ps_ret (pe_lst (pa_cons (pv 3) (pa_cons (pe_op op_mod (pe_op op_add (pe_op op_add (pe_op op_mul (pe_op op_mod (pe_callTy call_int1 rfl mi PyProof.Rows.Boot.«int» (pa_cons (pv 2) pa_nil)) pe_int) pe_int)
      (pe_op op_mul (pe_op op_mul pe_int (pv 1)) (pv 1))) pe_int) pe_int) (pa_cons pe_int pa_nil))))))), ?_⟩
  have big : (0 : Int) < (10 ^ (60 : Int).toNat) ^ (5 : Int).toNat := by decide +kernel
  refine ⟨_, rfl, _, rfl, a, _, rfl, .inl hS, _, _, rfl, rfl, _, rfl, ite2 (fun c => ?_) (fun c => ?_)⟩
  · have c' : k < ((ns.map V.int).length : Nat) := of_decide_eq_true c
    rw [List.length_map] at c'
    have hk : k.toNat < ns.length := by omega
    have at_k := atI_nat (xs := ns.map V.int) (j := k.toNat) (v := .int ns[k.toNat]) (by rw [List.getElem?_map, List.getElem?_eq_getElem hk] <;> rfl)
    rw [show ((k.toNat : Nat) : Int) = k by omega] at at_k
    refine ⟨_, rfl, _, rfl, a, _, k, _, rfl, rfl, hS, at_k, ?_⟩
    generalize ns[k.toNat] = z
    refine ⟨_, rfl, _, rfl, .inl ⟨_, rfl, _, _, rfl, rfl, ⟨by decide, by decide +kernel⟩, _, _, rfl, rfl, ⟨by decide, by decide +kernel⟩, _, _, rfl, rfl, big, _, rfl, _, rfl, _, _, rfl, rfl, ⟨by decide, by decide +kernel⟩, _, _, rfl, rfl, .inr ⟨_, rfl, _, _, rfl, rfl, .inr ⟨bit_lo _, bit_hi _⟩, ?_⟩⟩⟩
    refine ⟨_, rfl, _, rfl, .inl ⟨_, rfl, _, _, rfl, rfl, (by decide : (0 : Int) < 2305843009213693951), _, _, rfl, rfl, .inr ⟨by decide, by decide⟩, _, rfl, _, _, rfl, rfl, .inl ⟨by decide, by decide⟩, _, rfl, _, _, rfl, rfl, .inl ⟨by omega, by omega⟩,
      _, _, rfl, rfl, _, _, rfl, rfl, _, _, rfl, rfl, (by decide : (0 : Int) < 2305843009213693921), sz (by decide : 3 ≤ 1000), fun p hp => ?_⟩⟩
    refine q p _ _ hp (Int.mul_nonneg (Int.emod_nonneg _ (Int.ne_of_gt big)) (bit_nn _)) (Int.emod_nonneg _ (by decide)) (Int.lt_trans (Int.emod_lt_of_pos _ (by decide)) (by decide))
  · refine ⟨_, rfl, _, _, rfl, rfl, .inl ⟨by decide, by decide⟩, _, _, rfl, rfl, ?_⟩
    generalize 47 * k + 19 = z
    refine ⟨_, rfl, _, rfl, .inl ⟨_, rfl, _, _, rfl, rfl, ⟨by decide, by decide +kernel⟩, _, _, rfl, rfl, ⟨by decide, by decide +kernel⟩, _, _, rfl, rfl, big, _, rfl, _, rfl, _, _, rfl, rfl, ⟨by decide, by decide +kernel⟩, _, _, rfl, rfl, .inr ⟨_, rfl, _, _, rfl, rfl, .inr ⟨bit_lo _, bit_hi _⟩, ?_⟩⟩⟩
    refine ⟨_, rfl, _, rfl, .inl ⟨_, rfl, _, _, rfl, rfl, (by decide : (0 : Int) < 2305843009213693951), _, _, rfl, rfl, .inr ⟨by decide, by decide⟩, _, rfl, _, _, rfl, rfl, .inl ⟨by decide, by decide⟩, _, rfl, _, _, rfl, rfl, .inl ⟨by omega, by omega⟩,
      _, _, rfl, rfl, _, _, rfl, rfl, _, _, rfl, rfl, (by decide : (0 : Int) < 2305843009213693921), sz (by decide : 3 ≤ 1000), fun p hp => ?_⟩⟩
    refine q p _ _ hp (Int.mul_nonneg (Int.emod_nonneg _ (Int.ne_of_gt big)) (bit_nn _)) (Int.emod_nonneg _ (by decide)) (Int.lt_trans (Int.emod_lt_of_pos _ (by decide)) (by decide))
end
end Hx
set_option maxRecDepth 100000
set_option maxHeartbeats 8000000
/-! So many of some names. -/
namespace Hx
open PySem PySem.Spec PyProof.Rows L2
def spUnlike (K : PySem.W.Frag) : Sp := fun vs H Q _ => ∃ (p l : Addr) (c : Int) (xs : List Str) (n : Nat), vs = [.ref p, .ref l, .int (n : Nat)] ∧ Pot H p c ∧ c ≤ 1700 ∧ (SqL K H l (xs.map V.str) ∨ SqT K H l (xs.map V.str)) ∧ xs.Nodup ∧ n ≤ xs.length ∧ xs.length ≤ 90 ∧
  ∀ (a : Addr) (ys : List Str) (H' : Hp), Bar p H H' → Pot H' p (c + (n : Nat)) → SqT K H' a (ys.map V.str) → ys.length = n → ys.Nodup → (∀ y ∈ ys, y ∈ xs) → Q (.ref a) H'
abbrev nUnlike : List Str := ["_law_pot", "_law_some", "_law_upmost", "_law_spare", "_law_found", "_law_turn"]
theorem scUnlike : FnScope nUnlike ["_law_pot", "_law_some", "_law_upmost"] (defScope sUnlike) := ⟨rfl, rfl, rfl, by decide +kernel, rfl, by decide +kernel, by decide +kernel⟩
theorem erase_perm {α : Type} : ∀ {xs : List α} {k : Nat} {y : α}, xs[k]? = some y → (y :: xs.eraseIdx k).Perm xs
  | [], _, _, h => by simp at h
  | x :: xs, 0, y, h => by
    obtain rfl : x = y := by simpa using h
    exact List.Perm.refl _
  | x :: xs, k + 1, y, h => by
    have ih := erase_perm (xs := xs) (k := k) (y := y) (by simpa using h)
    rw [List.eraseIdx_cons_succ]
    exact (List.Perm.swap x y _).trans (ih.cons x)
theorem map_erase {α β : Type} (f : α → β) : ∀ (xs : List α) (k : Nat), (xs.map f).eraseIdx k = (xs.eraseIdx k).map f
  | [], _ => by simp
  | x :: xs, 0 => rfl
  | x :: xs, k + 1 => by
    rw [List.map_cons, List.eraseIdx_cons_succ, List.eraseIdx_cons_succ, List.map_cons, map_erase f xs k]
theorem Pot.put {H : Hp} {p q : Addr} {c : Int} (P : Pot H p c) (h : q ≠ p) (o : HO) : Pot (upd H q o) p c := by
  obtain ⟨A, B, C, e, r⟩ := P
  exact ⟨A, B, C, by rw [upd_ne h.symm]; exact e, r⟩
theorem Bar.put {p q : Addr} {H H' : Hp} (b : Bar p H H') (h : H q = none) (o : HO) : Bar p H (L2.upd H' q o) := fun c u n e => by
  rw [upd_ne (ne_of_none e h)]
  exact b c u n e
theorem seq_ix {d : Int} {n : Nat} (h0 : 0 ≤ d) (h1 : d < (n : Nat)) : seqIndex? d n = some d.toNat := by
  unfold seqIndex?
  have c1 : ¬ d < 0 := by omega
  simp only [c1, if_false]
  rw [if_pos (by simp only [Bool.and_eq_true, decide_eq_true_eq]; exact ⟨h0, h1⟩)]
section
variable {P : Program} {w : World} {K : PySem.W.Frag} {mg : Str → Option Value} {base : Heap}
theorem ok_unlike {f : Addr} {fd : FuncData} (F : Fun K "_law_unlike" "_law_unlike" sUnlike f fd) (GT : DefOk P w K mg base "_law_take" 1 ["_law_pot", "_law_upto"] spLTake) (ml : mg "len" = none) (mr : mg "range" = none) (mli : mg "list" = none) (mtu : mg "tuple" = none) :
    FnOk P w K mg base CX0 2 f fd ["_law_pot", "_law_some", "_law_upmost"] (spUnlike K) := by
  refine F.ok scUnlike (fun vs H Q E h => ?_) (fun cdv A outer s H vs Q E hr h => ?_)
  · obtain ⟨p, l, c, xs, n, rfl, _⟩ := h
    rfl
  obtain ⟨p, l, c, xs, n, rfl, hp, hc, hl, nd, hn, few, k⟩ := h
  have ndS := scUnlike.nd
  refine ⟨_, pss_cons (ps_par (i := 3) (j := 4) rfl ndS rfl rfl (by decide) rfl rfl (pa_cons (pe_callTy call_list_of rfl mli PyProof.Rows.Boot.«list» (pa_cons (pv 1) pa_nil)) (pa_cons (pe_lst pa_nil) pa_nil)) rfl)
    (pss_cons (ps_for PassesOwn.never rfl (pi_range1 rfl mr (pa_cons (pv 2) pa_nil)) (pg_name (i := 5) ndS rfl (.inl rfl))
      (pss_one (ps_expr (pe_bm PySem.F.plainAttrs_list PySem.F.slot_list_append PySem.F.type_list_append mt_append (pv 4) (pa_cons (pe_bm PySem.F.plainAttrs_list PySem.F.slot_list_pop PySem.F.type_list_pop mt_popAt (pv 3)
        (pa_cons (pe_D GT hr rfl (pa_cons (pv 0) (pa_cons (pe_callB call_len_seq rfl ml PySem.boot_len (pa_cons (pv 3) pa_nil)) pa_nil))) pa_nil)) pa_nil)))))
    (pss_one (ps_ret (pe_callTy call_tuple_of rfl mtu PyProof.Rows.Boot.«tuple» (pa_cons (pv 4) pa_nil))))), ?_⟩
  refine ⟨_, rfl, l, _, rfl, hl, fun sA hs => ⟨sz (by decide : 0 ≤ 1000), fun fA hf => ⟨_, _, rfl, ?_⟩⟩⟩
  have hfH : H fA = none := by
    have : sA ≠ fA := fun z => by
      rw [← z, upd_same] at hf
      cases hf
    rw [upd_ne this.symm] at hf
    exact hf
  have nsf : sA ≠ fA := fun z => by
    rw [← z, upd_same] at hf
    cases hf
  have nsp := hp.ne hs
  have nfp := hp.ne hfH
  have p1 := (hp.put nsp (.lst (xs.map V.str))).put nfp (.lst [])
  have b1 : Bar p H (upd (upd H sA (.lst (xs.map V.str))) fA (.lst [])) := (Bar.new hs _).trans (Bar.new hf _)
  refine ⟨_, rfl, (n : Nat), rfl, by omega, by omega, ?_⟩
  have en : ((n : Nat) : Int).toNat = n := by omega
  rw [en]
  refine for_range (n := n) (fun i σ H' => ∃ (sp fo : List Str) (t5 : Option V), σ = [some (.ref p), some (.ref l), some (.int (n : Nat)), some (.ref sA), some (.ref fA), t5] ∧ H' sA = some (.lst (sp.map V.str)) ∧ H' fA = some (.lst (fo.map V.str)) ∧ (fo ++ sp).Perm xs ∧ fo.length = i ∧ Bar p H H' ∧ Pot H' p (c + (i : Nat)))
    ⟨xs, [], none, rfl, by rw [upd_ne nsf, upd_same], upd_same, List.Perm.refl _, rfl, b1, p1.mono (by omega)⟩ ?_ ?_
  · rintro i σ H' hi ⟨sp, fo, t5, rfl, es, ef, pm, lf, bar, pt⟩
    have lp := pm.length_eq
    rw [List.length_append] at lp
    have sp0 : 1 ≤ sp.length := by omega
    refine ⟨_, rfl, .inl ⟨rfl, _, SqL.of ef⟩, _, rfl, .inl ⟨rfl, _, SqL.of es⟩, _, rfl, _, rfl, sA, _, rfl, .inl (SqL.of es), p, c + (i : Nat), (sp.length : Nat), ?_, pt, by omega, by omega, by omega, ?_⟩
    · rw [List.length_map]
      rfl
    intro d H2 d0 d1 bar2 pt2
    have hd : d.toNat < sp.length := by omega
    have ed : ((d.toNat : Nat) : Int) = d := by omega
    have ey : sp[d.toNat]? = some sp[d.toNat] := List.getElem?_eq_getElem hd
    have es2 := bar2 sA _ nsp es
    have ef2 := bar2 fA _ nfp ef
    refine ⟨sA, sp.map V.str, d, d.toNat, .str sp[d.toNat], rfl, rfl, es2, by omega, by omega, ?_, by rw [List.getElem?_map, ey]; rfl, ?_⟩
    · rw [List.length_map]
      exact seq_ix d0 d1
    refine ⟨fA, fo.map V.str, _, rfl, rfl, ?_, ?_, ?_⟩
    · rw [upd_ne nsf.symm]
      exact ef2
    · rw [List.length_map]
      exact small1000 (by omega)
    · refine ⟨sp.eraseIdx d.toNat, fo ++ [sp[d.toNat]], _, rfl, ?_, ?_, ?_, ?_, ?_, ?_⟩
      · rw [upd_ne nsf, upd_same, map_erase]
      · rw [upd_same, List.map_append]
        rfl
      · rw [List.append_assoc]
        exact (List.Perm.append_left fo (erase_perm ey)).trans pm
      · rw [List.length_append, lf]
        rfl
      · exact ((bar.trans bar2).put hs _).put hfH _
      · exact ((pt2.put nsp _).put nfp _).mono (by omega)
  · rintro σ H' ⟨sp, fo, t5, rfl, es, ef, pm, lf, bar, pt⟩
    refine ⟨_, rfl, fA, _, rfl, .inl ⟨SqL.of ef, fun a ha => ?_⟩⟩
    have nd2 : (fo ++ sp).Nodup := pm.nodup_iff.mpr nd
    exact k a fo _ (bar.trans (Bar.new ha _)) (pt.new ha _) (SqT.of upd_same) lf (List.nodup_append.mp nd2).1 fun y hy => pm.mem_iff.mp (List.mem_append_left _ hy)
end
end Hx
set_option maxRecDepth 100000
set_option maxHeartbeats 1000000
/-! One of some. -/
namespace Hx
open PySem PySem.Spec PyProof.Rows L2
abbrev sOf : Stmt := top 48
abbrev sWordFor : Stmt := top 50
abbrev sWideDeed : Stmt := top 51
abbrev sWideHouse : Stmt := top 52
abbrev sPage : Stmt := top 53
def SqE (K : PySem.W.Frag) (H : Hp) (l : Addr) (xs : List V) : Prop := SqL K H l xs ∨ SqT K H l xs
def spOf (K : PySem.W.Frag) : Sp := fun vs H Q _ => ∃ (p l : Addr) (c : Int) (xs : List V), vs = [.ref p, .ref l] ∧ Pot H p c ∧ c ≤ 1800 ∧ SqE K H l xs ∧ 1 ≤ xs.length ∧ xs.length ≤ 900 ∧
  (∀ H', Bar p H H' → SqE K H' l xs) ∧ ∀ (i : Nat) (v : V) (H' : Hp), xs[i]? = some v → Bar p H H' → Pot H' p (c + 1) → Q v H'
theorem scOf : FnScope ["_law_pot", "_law_some"] ["_law_pot", "_law_some"] (defScope sOf) := ⟨rfl, rfl, rfl, by decide +kernel, rfl, by decide +kernel, by decide +kernel⟩
section
variable {P : Program} {w : World} {K : PySem.W.Frag} {mg : Str → Option Value} {base : Heap}
theorem ok_of {f : Addr} {fd : FuncData} (F : Fun K "_law_of" "_law_of" sOf f fd) (GT : DefOk P w K mg base "_law_take" 1 ["_law_pot", "_law_upto"] spLTake) (ml : mg "len" = none) : FnOk P w K mg base CX0 2 f fd ["_law_pot", "_law_some"] (spOf K) := by
  refine F.ok scOf (fun vs H Q E h => ?_) (fun cdv A outer s H vs Q E hr h => ?_)
  · obtain ⟨p, l, c, xs, rfl, _⟩ := h
    rfl
  obtain ⟨p, l, c, xs, rfl, hp, hc, hl, l1, l9, keep, k⟩ := h
  refine ⟨_, pss_one (ps_ret (pe_ix ix_seq (pv 1) (pe_D GT hr rfl (pa_cons (pv 0) (pa_cons (pe_callB call_len_seq rfl ml PySem.boot_len (pa_cons (pv 1) pa_nil)) pa_nil))) (fun _ _ => rfl))), ?_⟩
  have fin : ∀ (d : Int) (H' : Hp), 0 ≤ d → d < (xs.length : Nat) → Bar p H H' → Pot H' p (c + 1) → rIx K (.ref l) (.int d) H' Q := fun d H' d0 d1 b p1 => by
    have hd : d.toNat < xs.length := by omega
    have ed : ((d.toNat : Nat) : Int) = d := by omega
    have ey : xs[d.toNat]? = some xs[d.toNat] := List.getElem?_eq_getElem hd
    have ea := atI_nat (xs := xs) (j := d.toNat) ey
    rw [ed] at ea
    rcases keep H' b with q | q
    · exact .inl ⟨l, xs, d, _, rfl, rfl, q, ea, k _ _ _ ey b p1⟩
    · exact .inr (.inl ⟨l, xs, d, _, rfl, rfl, q, ea, k _ _ _ ey b p1⟩)
  refine ⟨_, rfl, _, rfl, _, rfl, l, xs, rfl, hl, p, c, (xs.length : Nat), rfl, hp, by omega, by omega, by omega, fun d H' d0 d1 b p1 => fin d H' d0 d1 b p1⟩
end
end Hx
set_option maxRecDepth 100000
set_option maxHeartbeats 1000000
/-! The text of the law's house. -/
namespace Hx
open PySem PySem.Spec PyProof.Rows L2
/-! ### readings that give a plain value, whatever the heap -/
def RdS (t : TE) (σ : L2.St) (v : V) : Prop := ∀ (H : Hp) (Q : VK), (∀ H', Same H H' → Q v H') → t σ H Q
def RdA (t : TA) (σ : L2.St) (vs : List V) : Prop := ∀ (H : Hp) (Q : List V → Hp → Prop), (∀ H', Same H H' → Q vs H') → t σ H Q
def rStrAdd : R2 := fun x y H Q => ∃ i j, x = .str i ∧ y = .str j ∧ i.length + j.length ≤ sizeLine ∧ Q (.str (i ++ j)) H
theorem op_addS {X : Cx} : OpR X (binaryOp .Add) rStrAdd := op_add_str
def rStrI : List V → Hp → VK → Prop := fun xs H Q => ∃ i, xs = [.int i] ∧ i.natAbs.log2 < 1920 ∧ Q (.str (numS i)) H
theorem call_strI {X : Cx} : CallR X (.type "str") rStrI := call_str_int
def rJoin (K : PySem.W.Frag) : V → List V → Hp → VK → Prop := fun x xs H Q => ∃ a p, ∃ ys : List Str, x = .str a ∧ xs = [.ref p] ∧ (SqL K H p (ys.map V.str) ∨ SqT K H p (ys.map V.str)) ∧ (ys.map (·.length)).sum + ys.length * a.length ≤ 16777216 ∧ Q (.str (Txt.join a ys)) H
theorem mt_joinK {X : Cx} : MtR X "str.join" (rJoin X.K) := mt_join
section
variable {K : PySem.W.Frag} {σ : L2.St} {ta tb : TE} {ts : TA} {v : V} {vs : List V} {x y : Str}
theorem rd_var {i : Nat} (e : σ[i]? = some (some v)) : RdS (tVar i) σ v := fun H Q k => ⟨v, e, k H (Same.refl H)⟩
theorem rd_c : RdS (tC v) σ v := fun H Q k => k H (Same.refl H)
theorem rd_add (ha : RdS ta σ (.str x)) (hb : RdS tb σ (.str y)) (l : x.length + y.length ≤ 1000) : RdS (tOp rStrAdd ta tb) σ (.str (x ++ y)) := fun H Q k => by
  refine ha H _ fun H1 s1 => hb H1 _ fun H2 s2 => ⟨x, y, rfl, rfl, sz l, k H2 (s1.trans s2)⟩
theorem rd_num {i : Int} (ha : RdS ta σ (.int i)) (h0 : 0 ≤ i) (h1 : i < 10) : RdS (tCB rStrI (tCons ta tNil)) σ (.str (numS i)) := fun H Q k => by
  refine ha H _ fun H1 s1 => ⟨i, rfl, ?_, k H1 s1⟩
  have e : i = 0 ∨ i = 1 ∨ i = 2 ∨ i = 3 ∨ i = 4 ∨ i = 5 ∨ i = 6 ∨ i = 7 ∨ i = 8 ∨ i = 9 := by omega
  rcases e with rfl | rfl | rfl | rfl | rfl | rfl | rfl | rfl | rfl | rfl <;> decide +kernel
theorem rda_nil : RdA tNil σ [] := fun H Q k => k H (Same.refl H)
theorem rda_cons (ha : RdS ta σ v) (hr : RdA ts σ vs) : RdA (tCons ta ts) σ (v :: vs) := fun H Q k => ha H _ fun H1 s1 => hr H1 _ fun H2 s2 => k H2 (s1.trans s2)
theorem rd_lst {H : Hp} {Q : VK} (ha : RdA ts σ vs) (l : vs.length ≤ 900) (k : ∀ p H', Same H H' → H' p = some (.lst vs) → Q (.ref p) H') : tLst ts σ H Q := ha H _ fun H1 s1 => ⟨sz (by omega), fun p hp => k p _ (s1.trans (same_new hp _)) upd_same⟩
theorem rd_tup {H : Hp} {Q : VK} (ha : RdA ts σ vs) (l : vs.length ≤ 900) (k : ∀ p H', Same H H' → H' p = some (.tup vs) → Q (.ref p) H') : tTup ts σ H Q := ha H _ fun H1 s1 => ⟨sz (by omega), fun p hp => k p _ (s1.trans (same_new hp _)) upd_same⟩
theorem rd_join {a : Str} {ys : List Str} (ha : RdA ts σ (ys.map V.str)) (l : ys.length ≤ 900) (l2 : (ys.map (·.length)).sum + ys.length * a.length ≤ 1000) : RdS (tBM K "str" (rJoin K) (tC (.str a)) (tCons (tLst ts) tNil)) σ (.str (Txt.join a ys)) := fun H Q k =>
  ⟨rfl, rd_lst ha (by rw [List.length_map]; exact l) fun p H1 s1 e => ⟨a, p, ys, rfl, rfl, .inl (SqL.of e), Nat.le_trans l2 (by decide), k H1 s1⟩⟩
theorem rd_catl {i : Nat} {l : Addr} {xs : List V} {H : Hp} {Q : VK} (e : σ[i]? = some (some (.ref l))) (hl : H l = some (.lst xs)) (ha : RdA ts σ vs) (n1 : xs.length ≤ 400) (n2 : vs.length ≤ 400) (k : ∀ p H', Same H H' → H' p = some (.lst (xs ++ vs)) → Q (.ref p) H') : tOp rCat (tVar i) (tLst ts) σ H Q :=
  ⟨_, e, rd_lst ha (by omega) fun p H1 s1 e1 => ⟨l, p, xs, vs, rfl, rfl, s1 _ _ hl, e1, sz (by omega), fun q hq => k q _ (s1.trans (same_new hq _)) upd_same⟩⟩
end
/-! ### the lines -/
theorem str_assoc (a b c : Str) : a ++ b ++ c = a ++ (b ++ c) := TL.ext_tl (by rw [TL.tl_append, TL.tl_append, TL.tl_append, TL.tl_append, List.append_assoc])
theorem len_add (a b : Str) : (a ++ b).length = a.length + b.length := by rw [TL.len_tl, TL.tl_append, List.length_append, ← TL.len_tl, ← TL.len_tl]

section
variable {σ : L2.St} {H : Hp} {Q : VK} {rest : TS} {Z : Ends}
theorem go_cb {r : List V → Hp → VK → Prop} {ta : TA} (h : ta σ H fun vs H1 => r vs H1 Q) : tCB r ta σ H Q := h
theorem go_cons {a : TE} {b : TA} {q : List V → Hp → Prop} (h : a σ H fun x H1 => b σ H1 fun xs H2 => q (x :: xs) H2) : tCons a b σ H q := h
theorem go_nil {q : List V → Hp → Prop} (h : q [] H) : tNil σ H q := h
theorem go_lst {ta : TA} (h : ta σ H fun vs H1 => vs.length ≤ sizeLine ∧ ∀ p, H1 p = none → Q (.ref p) (upd H1 p (.lst vs))) : tLst ta σ H Q := h
theorem go_tup {ta : TA} (h : ta σ H fun vs H1 => vs.length ≤ sizeLine ∧ ∀ p, H1 p = none → Q (.ref p) (upd H1 p (.tup vs))) : tTup ta σ H Q := h
theorem go_op {r : R2} {a b : TE} (h : a σ H fun x H1 => b σ H1 fun y H2 => r x y H2 Q) : tOp r a b σ H Q := h
theorem go_test {t : TE} {q : Bool → Hp → Prop} (h : t σ H fun x H' => ∃ k, x = V.bl k ∧ q k H') : tTest t σ H q := h
theorem seq_if {c : TT} {t : TS} (h : c σ H fun b H1 => if b = true then t { nx := rest Z, rt := Z.rt, bk := Z.bk, ct := Z.ct } σ H1 else rest Z σ H1) : tSeq (tIfS c t tNext) rest Z σ H := h
theorem go_call {sp : Sp} {ta : TA} (h : ta σ H fun vs H1 => sp (vs ++ []) H1 Q E0) : tCall sp [] E0 ta σ H Q := h
theorem go_dget {td ty : TE} (h : td σ H fun x H1 => ty σ H1 fun y H2 => ∃ a v, x = .ref a ∧ DGet H2 a y (some v) ∧ Q v H2) : tDGet td ty σ H Q := h
theorem seq_set {te : TE} {g : TG} (h : te σ H fun x H1 => g x σ H1 (rest Z)) : tSeq (tAsg te g) rest Z σ H := h
end

end Hx
set_option maxRecDepth 100000
set_option maxHeartbeats 1000000
/-! A word for a row or a change. -/
namespace Hx
open PySem PySem.Spec PyProof.Rows L2
section
variable {K : PySem.W.Frag} {H H' : Hp} {p : Addr} {c : Int}
theorem Pot.same (s : Same H H') (h : Pot H p c) : Pot H' p c := by
  obtain ⟨A, B, C, e, r⟩ := h
  exact ⟨A, B, C, s _ _ e, r⟩
theorem Pot.off (h : Pot H p c) {q : Addr} {xs : List V} (e : H q = some (.lst (xs))) (n : ∀ v ∈ xs, ∃ t, v = .str t) : q ≠ p := fun z => by
  obtain ⟨A, B, C, ep, _⟩ := h
  rw [z, ep] at e
  cases e
  obtain ⟨t, et⟩ := n (.int A) (List.mem_cons_self ..)
  cases et
theorem sqt_pot (hp : Pot H p c) (b : Bar p H H') {a : Addr} {xs : List V} (h : SqT K H a xs) : SqT K H' a xs := by
  obtain ⟨A, B, C, ep, _⟩ := hp
  rcases h with (h | ⟨o, h⟩) | h
  · exact .inl (.inl (b _ _ (fun z => by rw [z, ep] at h; cases h) h))
  · exact .inl (.inr ⟨o, b _ _ (fun z => by rw [z, ep] at h; cases h) h⟩)
  · exact .inr h
theorem Tp.pot (hp : Pot H p c) (b : Bar p H H') {v : V} {d : PyData} (h : Tp K H v d) : Tp K H' v d := h.map (sqt_pot hp b)
theorem TpAll.pot (hp : Pot H p c) (b : Bar p H H') {v : List V} {d : List PyData} (h : TpAll K H v d) : TpAll K H' v d := h.map (sqt_pot hp b)
end
/-- the hall, while deeds are drawn -/
structure HallAt (K : PySem.W.Frag) (H : Hp) (hd : Addr) (people : List Str) (cs : List CellD) (ks : List KindD) : Prop where
  ex : ∃ (kvs : List (Key × V)) (pa ca ka : Addr), H hd = some (.dK kvs) ∧ valV kvs (Sum.inr "people") = some (.ref pa) ∧ valV kvs (Sum.inr "cells") = some (.ref ca) ∧ valV kvs (Sum.inr "kinds") = some (.ref ka) ∧
    SqT K H pa (people.map V.str) ∧ Tp K H (.ref ca) (.tuple (cs.map CellD.d)) ∧ Tp K H (.ref ka) (.tuple (ks.map KindD.d))
section
variable {K : PySem.W.Frag} {H H' : Hp} {p hd : Addr} {c : Int} {people : List Str} {cs : List CellD} {ks : List KindD}
theorem HallAt.pot (hp : Pot H p c) (b : Bar p H H') (h : HallAt K H hd people cs ks) : HallAt K H' hd people cs ks := by
  obtain ⟨kvs, pa, ca, ka, e, e1, e2, e3, h1, h2, h3⟩ := h.ex
  obtain ⟨A, B, C, ep, _⟩ := id hp
  exact ⟨kvs, pa, ca, ka, b _ _ (fun z => by rw [z, ep] at e; cases e) e, e1, e2, e3, sqt_pot hp b h1, h2.pot hp b, h3.pot hp b⟩
theorem HallAt.same (s : Same H H') (h : HallAt K H hd people cs ks) : HallAt K H' hd people cs ks := by
  obtain ⟨kvs, pa, ca, ka, e, e1, e2, e3, h1, h2, h3⟩ := h.ex
  exact ⟨kvs, pa, ca, ka, s _ _ e, e1, e2, e3, same_sqt s h1, h2.same s, h3.same s⟩
theorem dget_at {kvs : List (Key × V)} {x : Str} {v : V} (e : H hd = some (.dK kvs)) (ev : valV kvs (Sum.inr x) = some v) : DGet H hd (.str x) (some v) := by
  have := DGet.k (k := Sum.inr x) e
  rw [ev] at this
  exact this
end
def szV : Option Int → V
  | none => .non
  | some z => .int z
def wordOk (people : List Str) (cs : List CellD) (pick : Int) (z : Option Int) (s : Src) : Prop := match z with
  | none => s.person? people
  | some z => s.fits cs z pick
def spWord (K : PySem.W.Frag) : Sp := fun vs H Q _ => ∃ (p hd : Addr) (c pick : Int) (z : Option Int) (people : List Str) (cs : List CellD) (ks : List KindD), vs = [.ref p, .ref hd, .int pick, szV z] ∧ Pot H p c ∧ c ≤ 1700 ∧ HallAt K H hd people cs ks ∧ people.length ≤ 3 ∧ (∀ x ∈ people, x ≠ "who") ∧ cs.length ≤ 3 ∧
  1 ≤ pick ∧ pick < 5 ∧ (∀ y, z = some y → 2 ≤ y ∧ y < 5) ∧ ∀ (s : Src) (H' : Hp), Bar p H H' → Pot H' p (c + 2) → wordOk people cs pick z s → Q (.str (s.w cs)) H'
abbrev nWord : List Str := ["_law_pot", "_law_hall", "_law_pick", "_law_size", "_law_some", "_law_name", "_law_upmost", "_law_first"]
theorem scWord : FnScope nWord ["_law_pot", "_law_hall", "_law_pick", "_law_size"] (defScope sWordFor) := ⟨rfl, rfl, rfl, by decide +kernel, rfl, by decide +kernel, by decide +kernel⟩
end Hx
set_option maxRecDepth 100000
set_option maxHeartbeats 1000000
namespace Hx
open PySem PySem.Spec PyProof.Rows L2
theorem log_small {i : Int} (h0 : 0 ≤ i) (h1 : i < 10) : i.natAbs.log2 < 1920 := by
  have e : i = 0 ∨ i = 1 ∨ i = 2 ∨ i = 3 ∨ i = 4 ∨ i = 5 ∨ i = 6 ∨ i = 7 ∨ i = 8 ∨ i = 9 := by omega
  rcases e with rfl | rfl | rfl | rfl | rfl | rfl | rfl | rfl | rfl | rfl <;> decide +kernel
/-- the words that fit, of cells -/
def wordsOf (cs : List CellD) (z : Int) : List V := (cs.filter fun c : CellD => decide (c.z ≤ z)).map fun c : CellD => V.str c.x
theorem wordsOf_app (a b : List CellD) (z : Int) : wordsOf (a ++ b) z = wordsOf a z ++ wordsOf b z := by
  unfold wordsOf
  rw [List.filter_append, List.map_append]
theorem wordsOf_yes {c : CellD} {z : Int} (h : c.z ≤ z) : wordsOf [c] z = [V.str c.x] := by simp [wordsOf, h]
theorem wordsOf_no {c : CellD} {z : Int} (h : ¬ c.z ≤ z) : wordsOf [c] z = [] := by simp [wordsOf, h]
theorem wordsOf_len (cs : List CellD) (z : Int) : (wordsOf cs z).length ≤ cs.length := by
  unfold wordsOf
  rw [List.length_map]
  exact List.length_filter_le _ _
theorem words_at {cs : List CellD} {z : Int} {v : V} (h : v ∈ wordsOf cs z) : ∃ (j : Nat) (c : CellD), cs[j]? = some c ∧ c.z ≤ z ∧ v = .str c.x := by
  obtain ⟨c, hc, rfl⟩ := List.mem_map.mp h
  obtain ⟨h1, h2⟩ := List.mem_filter.mp hc
  obtain ⟨j, hj⟩ := List.getElem?_of_mem h1
  exact ⟨j, c, hj, of_decide_eq_true h2, rfl⟩
theorem word_cell {cs : List CellD} {j : Nat} {c : CellD} (h : cs[j]? = some c) : (Src.cell j).w cs = c.x := by
  show (cs[j]?.map (·.x)).getD Str.empty = c.x
  rw [h]
  rfl
section
variable {K : PySem.W.Frag} {σ : L2.St} {H : Hp} {Q : VK} {hd : Addr} {people : List Str} {cs : List CellD} {ks : List KindD}
theorem lc_words {z : Int} (e1 : σ[1]? = some (some (.ref hd))) (e3 : σ[3]? = some (some (.int z))) (hl : σ.length = 8) (ha : HallAt K H hd people cs ks) (c3 : cs.length ≤ 3)
    (k : ∀ G H', Same H H' → H' G = some (.lst (wordsOf cs z)) → Q (.ref G) H') :
    tLc (iTup K (tDGet (tVar 1) (tC (.str "cells")))) (gTup K 3 (gCons (gName 5) (gCons (gName 6) (gCons (gName 7) gNil)))) (tTest (tOp (rI0 fun i j => .bl (decide (i ≤ j))) (tVar 6) (tVar 3))) (tVar 5) [5, 6, 7] σ H Q := by
  obtain ⟨kvs, pa, ca, ka, e, _, ec, _, _, hc, _⟩ := ha.ex
  obtain ⟨ca', xs, eca, hs, hx⟩ := tp_tup hc
  have eca : ca = ca' := V.ref.inj eca
  subst eca
  have ln := hx.length
  rw [List.length_map] at ln
  refine ⟨_, e1, hd, .ref ca, rfl, dget_at e ec, ca, rfl, ⟨_, hs⟩, fun G hG => lc_tup (xs := xs) (fun i H' => Same H H' ∧ H' G = some (.lst (wordsOf (cs.take i) z))) ⟨same_new hG _, upd_same⟩ (fun i H' _ q => same_sqt q.1 hs) ?_ ?_⟩
  · rintro i x H1 hi ⟨sm, eG⟩
    obtain ⟨d, ed, tp⟩ := hx.get hi
    rw [List.getElem?_map] at ed
    obtain ⟨c, es, rfl⟩ : ∃ c, cs[i]? = some c ∧ d = c.d := by
      cases q : cs[i]? with
      | none => rw [q] at ed; cases ed
      | some c => rw [q] at ed; exact ⟨c, rfl, (Option.some.inj ed).symm⟩
    obtain ⟨a, ys, rfl, ha, hy⟩ := tp_tup (tp.same sm)
    cases hy with
    | cons t1 h2 => cases h2 with
      | cons t2 h3 => cases h3 with
        | cons t3 h4 => cases h4 with
          | nil =>
            cases t1
            cases t2
            cases t3
            generalize eσ : (((wipe σ [5, 6, 7]).set 5 (some (V.str c.x))).set 6 (some (V.int c.z))).set 7 (some (V.int c.i)) = σ1
            have l1 : (wipe σ [5, 6, 7]).length = 8 := by rw [wipe_length, hl]
            have w1 : wipe σ1 [5, 6, 7] = wipe σ [5, 6, 7] := by
              rw [← eσ]
              refine wipe_of (fun m hm => ?_) (by simp [wipe_length])
              have h1 : 5 ≠ m := fun z => hm (by rw [← z]; simp)
              have h2 : 6 ≠ m := fun z => hm (by rw [← z]; simp)
              have h3 : 7 ≠ m := fun z => hm (by rw [← z]; simp)
              rw [List.getElem?_set_ne h3, List.getElem?_set_ne h2, List.getElem?_set_ne h1, wipe_get, if_neg hm]
            have f5 : σ1[5]? = some (some (V.str c.x)) := by
              rw [← eσ, List.getElem?_set_ne (by decide), List.getElem?_set_ne (by decide), List.getElem?_set_self (by omega)]
            have f6 : σ1[6]? = some (some (V.int c.z)) := by
              rw [← eσ, List.getElem?_set_ne (by decide), List.getElem?_set_self (by rw [List.length_set]; omega)]
            have f3 : σ1[3]? = some (some (V.int z)) := by
              rw [← eσ, List.getElem?_set_ne (by decide), List.getElem?_set_ne (by decide), List.getElem?_set_ne (by decide), wipe_get, if_neg (by decide)]
              exact e3
            refine ⟨a, _, rfl, ha, rfl, _, _, rfl, _, _, rfl, _, _, rfl, rfl, ?_⟩
            show wipe ((((wipe σ [5, 6, 7]).set 5 (some (V.str c.x))).set 6 (some (V.int c.z))).set 7 (some (V.int c.i))) [5, 6, 7] = wipe σ [5, 6, 7] ∧ _
            rw [eσ]
            refine ⟨w1, _, f6, _, f3, _, _, rfl, rfl, _, rfl, ?_⟩
            have et : cs.take (i + 1) = cs.take i ++ [c] := by rw [List.take_add_one, es]; rfl
            by_cases h : c.z ≤ z
            · rw [decide_eq_true h]
              refine iteT ⟨_, f5, _, eG, ?_, same_grow hG sm, ?_⟩
              · refine small1000 ?_
                have := wordsOf_len (cs.take i) z
                rw [List.length_take] at this
                omega
              · rw [upd_same, et, wordsOf_app, wordsOf_yes h]
            · rw [decide_eq_false h]
              refine iteF ⟨sm, ?_⟩
              rw [eG, et, wordsOf_app, wordsOf_no h, List.append_nil]
  · rintro H' ⟨sm, eG⟩
    rw [ln, List.take_length] at eG
    exact k G H' sm eG
end
section
variable {K : PySem.W.Frag} {σ : L2.St} {H H3 : Hp} {Q : VK} {p q : Addr} {c pick : Int} {z : Option Int} {people : List Str} {cs : List CellD}
theorem word_done {L : List V} {c0 : Int} (hq : H3 q = some (.lst L)) (h1 : 1 ≤ L.length) (h9 : L.length ≤ 900) (all : ∀ v ∈ L, ∃ s : Src, wordOk people cs pick z s ∧ v = .str (s.w cs)) (b : Bar p H H3) (hp : Pot H3 p c0) (hc : c0 ≤ c + 1) (hcc : c ≤ 1700)
    (k : ∀ (s : Src) (H' : Hp), Bar p H H' → Pot H' p (c + 2) → wordOk people cs pick z s → Q (.str (s.w cs)) H') : spOf K [.ref p, .ref q] H3 Q E0 := by
  have nq : q ≠ p := hp.off hq fun v hv => by
    obtain ⟨s, _, e⟩ := all v hv
    exact ⟨_, e⟩
  refine ⟨p, q, c0, L, rfl, hp, by omega, .inl (SqL.of hq), h1, h9, fun H' b => .inl (SqL.of (b _ _ nq hq)), fun i v H' ev b2 p2 => ?_⟩
  obtain ⟨s, ok, rfl⟩ := all v (List.mem_of_getElem? ev)
  exact k s H' (b.trans b2) (p2.mono (by omega)) ok
end
section
variable {P : Program} {w : World} {K : PySem.W.Frag} {mg : Str → Option Value} {base : Heap}
theorem ok_word {f : Addr} {fd : FuncData} (F : Fun K "_law_word_for" "_law_word_for" sWordFor f fd) (GT : DefOk P w K mg base "_law_take" 1 ["_law_pot", "_law_upto"] spLTake) (GO : DefOk P w K mg base "_law_of" 2 ["_law_pot", "_law_some"] (spOf K)) (mli : mg "list" = none) (mst : mg "str" = none) (mi : mg "int" = none) :
    FnOk P w K mg base CX0 3 f fd ["_law_pot", "_law_hall", "_law_pick", "_law_size"] (spWord K) := by
  refine F.ok scWord (fun vs H Q E h => ?_) (fun cdv A outer s H vs Q E hr h => ?_)
  · obtain ⟨p, hd, c, pick, z, people, cs, ks, rfl, _⟩ := h
    rfl
  obtain ⟨p, hd, c, pick, z, people, cs, ks, rfl, hp, hc, ha, p3, pw, c3, k1, k5, hz, k⟩ := h
  have nd := scWord.nd
  have hr1 : Room 1 (A.deeper (envOfC "_law_word_for" (defScope sWordFor) s.heap.objs.size f cdv)) := hr.mono (by decide)
  refine ⟨_, pss_cons (ps_if (pt_cmpR op_isN (pv 3) pe_non (nomark _)) (pss_one (ps_ret (pe_D GO hr rfl (pa_cons (pv 0) (pa_cons (pe_op op_cat (pe_lst (pa_cons pe_str (pa_cons pe_str pa_nil))) (pe_callTy call_list_of rfl mli PyProof.Rows.Boot.«list» (pa_cons (pe_dget (hu_of hr) (pv 1) pe_str (fun _ _ => rfl)) pa_nil))) pa_nil))))) pss_nil)
    (pss_cons (ps_set (i := 4) nd rfl (.inl rfl) (pe_op op_cat (pe_lst (pa_cons (pe_callTy call_strI rfl mst PyProof.Rows.Boot.«str» (pa_cons (pe_D GT hr1 rfl (pa_cons (pv 0) (pa_cons (pv 3) pa_nil))) pa_nil)) pa_nil))
      (pe_lc (own := [("_law_name", 5), ("_law_upmost", 6), ("_law_first", 7)]) (g := gTup K 3 (gCons (gName 5) (gCons (gName 6) (gCons (gName 7) gNil)))) (tt := tTest (tOp (rI0 fun i j => .bl (decide (i ≤ j))) (tVar 6) (tVar 3))) rfl nd (pi_tupK K (pe_dget (hu_of hr) (pv 1) pe_str (fun _ _ => rfl))) (blkOk_by (N := nWord) (sc := defScope sWordFor) (by decide +kernel))
        (fun _ _ _ _ _ => pg_tupK K (pgs_cons (pg_name (i := 5) nd rfl (Or.inl rfl)) (pgs_cons (pg_name (i := 6) nd rfl (Or.inl rfl)) (pgs_cons (pg_name (i := 7) nd rfl (Or.inl rfl)) pgs_nil)))) (fun _ _ _ _ _ => pts_one (pt_cmpR op_le (pv 6) (pv 3) (nomark _))) (fun _ _ _ _ _ => pv 5))))
    (pss_one (ps_ret (pe_D GO hr rfl (pa_cons (pv 0) (pa_cons (pe_ifExp (pt_cmpR op_le (pv 2) (pv 3) (nomark _)) (pe_op op_cat (pv 4) (pe_op op_rep (pe_lst (pa_cons pe_str pa_nil)) (pe_op op_add pe_int (pe_callTy call_int1 rfl mi PyProof.Rows.Boot.«int» (pa_cons (pe_cmpR op_gt (pv 2) pe_int (nomark _)) pa_nil))))) (pv 4)) pa_nil)))))), ?_⟩
  cases z with
  | none =>
    have e : decide (szV none = V.non) = true := decide_eq_true rfl
    refine seq_if (go_test (go_op ⟨_, rfl, rfl, _, rfl, ?_⟩))
    rw [e]
    refine iteT (go_call ⟨_, rfl, go_cons (go_op (go_lst ⟨sz (by decide : 2 ≤ 1000), fun a ha1 => ?_⟩))⟩)
    obtain ⟨kvs, pa, ca, ka, e, ep, _, _, hpa, _, _⟩ := (ha.same (same_new ha1 (.lst [V.str "who", V.str "who"]))).ex
    refine ⟨_, rfl, hd, .ref pa, rfl, dget_at e ep, pa, _, rfl, .inr hpa, fun b hb => ?_⟩
    have hb0 : H b = none := by
      have : a ≠ b := fun z => by rw [← z, upd_same] at hb; cases hb
      rw [upd_ne this.symm] at hb
      exact hb
    have nab : a ≠ b := fun z => by rw [← z, upd_same] at hb; cases hb
    refine ⟨a, b, [V.str "who", V.str "who"], people.map V.str, rfl, rfl, by rw [upd_ne nab, upd_same], upd_same, sz (by rw [List.length_map]; show 2 + people.length ≤ 1000; omega), fun d hd' => ?_⟩
    generalize eH : upd (upd (upd H a (.lst [V.str "who", V.str "who"])) b (.lst (people.map V.str))) d (.lst ([V.str "who", V.str "who"] ++ people.map V.str)) = H1
    have s1 : Same H H1 := by
      rw [← eH]
      exact (same_new ha1 _).trans ((same_new hb _).trans (same_new hd' _))
    have ed : H1 d = some (.lst ([V.str "who", V.str "who"] ++ people.map V.str)) := by
      rw [← eH]
      exact upd_same
    refine word_done (c0 := c) (z := none) ed (by simp) (by rw [List.length_append, List.length_map]; show 2 + people.length ≤ 900; omega) (fun v hv => ?_) (Bar.of s1) (hp.same s1) (by omega) hc k
    rcases List.mem_append.mp hv with h | h
    · have h : v = V.str "who" := by simpa using h
      exact ⟨.who, trivial, h⟩
    · obtain ⟨y, hy, rfl⟩ := List.mem_map.mp h
      exact ⟨.person y, ⟨hy, pw y hy⟩, rfl⟩
  | some z =>
    obtain ⟨z2, z5⟩ := hz z rfl
    have e : decide (szV (some z) = V.non) = false := decide_eq_false (fun q => by cases q)
    refine seq_if (go_test (go_op ⟨_, rfl, rfl, _, rfl, ?_⟩))
    rw [e]
    refine iteF (seq_set (go_op (go_lst (go_cons (go_cb (go_cons (go_call ⟨_, rfl, _, rfl, p, c, z, rfl, hp, by omega, by omega, by omega, fun dg H1 d0 d1 b1 p1 => ?_⟩)))))))
    refine ⟨dg, rfl, log_small d0 (by omega), sz (by decide : 1 ≤ 1000), fun a ha1 => ?_⟩
    have hal := (ha.pot hp b1).same (same_new ha1 (.lst [V.str (numS dg)]))
    refine lc_words rfl rfl rfl hal c3 fun G H2 s2 eG => ?_
    have ea := s2 a _ upd_same
    have lw := wordsOf_len cs z
    refine ⟨a, G, [V.str (numS dg)], wordsOf cs z, rfl, rfl, ea, eG, sz (by show 1 + (wordsOf cs z).length ≤ 1000; omega), fun g hg => ?_⟩
    have s3 := same_new hg (.lst ([V.str (numS dg)] ++ wordsOf cs z))
    have eg : (upd H2 g (.lst ([V.str (numS dg)] ++ wordsOf cs z))) g = some (.lst ([V.str (numS dg)] ++ wordsOf cs z)) := upd_same (H := H2)
    generalize upd H2 g (.lst ([V.str (numS dg)] ++ wordsOf cs z)) = H3 at s3 eg
    have sH : Same H1 H3 := (same_new ha1 _).trans (s2.trans s3)
    have all : ∀ v ∈ [V.str (numS dg)] ++ wordsOf cs z, ∃ s : Src, wordOk people cs pick (some z) s ∧ v = .str (s.w cs) := fun v hv => by
      rcases List.mem_append.mp hv with h | h
      · have h : v = V.str (numS dg) := by simpa using h
        exact ⟨.num dg, ⟨d0, d1, by omega⟩, h⟩
      · obtain ⟨j, c, ej, cz, rfl⟩ := words_at h
        exact ⟨.cell j, ⟨c, ej, cz⟩, by rw [word_cell ej]⟩
    refine go_call ⟨_, rfl, go_cons ?_⟩
    refine ⟨_, rfl, _, rfl, pick, z, rfl, rfl, _, rfl, ?_⟩
    by_cases h : pick ≤ z
    · rw [decide_eq_true h]
      refine iteT (go_op ⟨_, rfl, go_op (go_lst ⟨sz (by decide : 1 ≤ 1000), fun m hm => ?_⟩)⟩)
      refine ⟨_, rfl, pick, 1, rfl, rfl, .inr ⟨_, rfl, 1, _, rfl, rfl, m, _, [V.str "it"], rfl, rfl, upd_same, ?_, ?_, ?_, fun n hn => ?_⟩⟩
      · split <;> decide
      · split <;> decide
      · refine Nat.le_trans ?_ (sz (by decide : 2 ≤ 1000))
        split <;> decide
      generalize er : (List.replicate (1 + if decide (1 < pick) = true then (1 : Int) else 0).toNat [V.str "it"]).flatten = reps
      have hr : ∀ v ∈ reps, v = V.str "it" := fun v hv => by
        rw [← er] at hv
        obtain ⟨l, hl, hv⟩ := List.mem_flatten.mp hv
        rw [List.eq_of_mem_replicate hl] at hv
        simpa using hv
      have lr : reps.length ≤ 2 := by
        rw [← er]
        split <;> decide
      have s4 := same_new hm (.lst [V.str "it"])
      have s5 := same_new hn (.lst reps)
      refine ⟨g, n, [V.str (numS dg)] ++ wordsOf cs z, reps, rfl, rfl, s5 _ _ (s4 _ _ eg), upd_same, sz (by rw [List.length_append]; show 1 + (wordsOf cs z).length + reps.length ≤ 1000; omega), fun q hq => ?_⟩
      have s6 := same_new hq (.lst ([V.str (numS dg)] ++ wordsOf cs z ++ reps))
      have sA := sH.trans (s4.trans (s5.trans s6))
      refine word_done (c0 := c + 1) (z := some z) upd_same (by simp) (by simp; omega) (fun v hv => ?_) (b1.trans (Bar.of sA)) (p1.same sA) (by omega) hc k
      rcases List.mem_append.mp hv with h1 | h1
      · exact all v h1
      · exact ⟨.it, h, hr v h1⟩
    · rw [decide_eq_false h]
      refine iteF ⟨_, rfl, ?_⟩
      exact word_done (c0 := c + 1) (z := some z) eg (by simp) (by simp; omega) all (b1.trans (Bar.of sH)) (p1.same sH) (by omega) hc k
end
end Hx
set_option maxRecDepth 100000
set_option maxHeartbeats 1000000
/-! A drawn deed. -/
namespace Hx
open PySem PySem.Spec PyProof.Rows L2
theorem op_catAK {X : Cx} (K : PySem.W.Frag) (h : X.K = K := by rfl) : OpR X (binaryOp .Add) (rCatA K) := by
  subst h
  exact op_catA
def cellX (cs : List CellD) (j : Nat) : Str := (cs[j]?.map (·.x)).getD Str.empty
def kindX (ks : List KindD) (j : Nat) : Str := (ks[j]?.map (·.x)).getD Str.empty
def TestD.l (cs : List CellD) (t : TestD) : PyData := .tuple [.str (cellX cs t.j), .str (sign t.same), .int t.v]
def ChangeD.l (cs : List CellD) (t : ChangeD) : PyData := .tuple [.str (verb t.add), .str (cellX cs t.j), .str (t.s.w cs)]
def RowD.l (cs : List CellD) (ks : List KindD) (r : RowD) : PyData := .tuple [.str (kindX ks r.j), .tuple (r.ss.map fun s => .str (s.w cs))]
/-- the deed as the law has it; ys are its people -/
def DeedD.l (cs : List CellD) (ks : List KindD) (d : DeedD) (ys : List Str) : PyData := .tuple [.str d.x, .tuple (ys.map PyData.str), .tuple (d.ts.map (TestD.l cs)), .int d.pick, .tuple (d.chs.map (ChangeD.l cs)), .tuple (d.rs.map (RowD.l cs ks))]
/-- the people that are written -/
def byWr (people ys : List Str) : Option (List Str) := if ys = people then none else some ys
def spWide (K : PySem.W.Frag) : Sp := fun vs H Q _ => ∃ (p hd : Addr) (c : Int) (x : Str) (people : List Str) (cs : List CellD) (ks : List KindD), vs = [.ref p, .ref hd, .str x] ∧ Pot H p c ∧ c ≤ 1500 ∧ HallAt K H hd people cs ks ∧ 1 ≤ people.length ∧ people.length ≤ 3 ∧ people.Nodup ∧ (∀ x ∈ people, x ≠ "who") ∧ 1 ≤ cs.length ∧ CellsOk cs ∧ ks.length ≤ 3 ∧ (∀ k ∈ ks, k.ok) ∧
  nameB x = true ∧ ∀ (v : V) (d : DeedD) (ys : List Str) (H' : Hp), Bar p H H' → Pot H' p (c + 45) → d.x = x → d.by_ = byWr people ys → 1 ≤ ys.length → ys.length ≤ 3 → ys.Nodup → (∀ y ∈ ys, y ∈ people) → d.ok people cs ks → Tp K H' v (d.l cs ks ys) → Q v H'
abbrev nWide : List Str := ["_law_pot", "_law_hall", "_law_deed", "_law_by", "_law_tests", "_law_pick", "_law_changes_here", "_law_rows", "_law_turn", "_law_name", "_law_size", "_law_first", "_law_word", "_law_kind", "_law_fields", "_law_lot", "_law_field"]
theorem scWide : FnScope nWide ["_law_pot", "_law_hall", "_law_deed"] (defScope sWideDeed) := ⟨rfl, rfl, rfl, by decide +kernel, rfl, by decide +kernel, by decide +kernel⟩
end Hx
set_option maxRecDepth 100000
set_option maxHeartbeats 1000000
namespace Hx
open PySem PySem.Spec PyProof.Rows L2
def stW (p hd : Addr) (x : Str) (aB aT : Addr) (pick : Int) (aC aR : Addr) (t8 t9 t10 t11 t12 t13 t14 t15 t16 : Option V) : L2.St := [some (.ref p), some (.ref hd), some (.str x), some (.ref aB), some (.ref aT), some (.int pick), some (.ref aC), some (.ref aR), t8, t9, t10, t11, t12, t13, t14, t15, t16]
structure WS (K : PySem.W.Frag) (H : Hp) (p hd : Addr) (c : Int) (people : List Str) (cs : List CellD) (ks : List KindD) (aB aT aC aR : Addr) (ys : List Str) (ts : List TestD) (chs : List ChangeD) (rs : List RowD) : Prop where
  pot : Pot H p c
  hall : HallAt K H hd people cs ks
  by_ : SqT K H aB (ys.map V.str)
  ts : Tp K H (.ref aT) (.tuple (ts.map (TestD.l cs)))
  chs : Tp K H (.ref aC) (.tuple (chs.map (ChangeD.l cs)))
  rs : Tp K H (.ref aR) (.tuple (rs.map (RowD.l cs ks)))
section
variable {K : PySem.W.Frag} {H H' : Hp} {p hd : Addr} {c c' : Int} {people : List Str} {cs : List CellD} {ks : List KindD} {aB aT aC aR : Addr} {ys : List Str} {ts : List TestD} {chs : List ChangeD} {rs : List RowD}
theorem WS.bar (h : WS K H p hd c people cs ks aB aT aC aR ys ts chs rs) (b : Bar p H H') (hp : Pot H' p c') : WS K H' p hd c' people cs ks aB aT aC aR ys ts chs rs :=
  ⟨hp, h.hall.pot h.pot b, sqt_pot h.pot b h.by_, h.ts.pot h.pot b, h.chs.pot h.pot b, h.rs.pot h.pot b⟩
theorem WS.same (h : WS K H p hd c people cs ks aB aT aC aR ys ts chs rs) (s : Same H H') : WS K H' p hd c people cs ks aB aT aC aR ys ts chs rs := h.bar (Bar.of s) (h.pot.same s)
abbrev xHall (s : Str) : TE := tDGet (tVar 1) (tC (.str s))
abbrev xI (n : Int) : TE := tC (.int n)
abbrev xTk (t : TE) : TE := tCall spLTake [] E0 (tCons (tVar 0) (tCons t tNil))
abbrev rAddI : R2 := rI0 fun i j => V.int (i + j)
variable {σ : L2.St} {Q : VK} {rest : TS} {Z : Ends}
abbrev xOf (K : PySem.W.Frag) (l : TE) : TE := tCall (spOf K) [] E0 (tCons (tVar 0) (tCons l tNil))
/-- a number is drawn -/
theorem rd_tk {t : TE} {n : Int} (e0 : σ[0]? = some (some (.ref p))) (ht : ∀ Q : VK, Q (.int n) H → t σ H Q) (hp : Pot H p c) (hc : c ≤ 1800) (n1 : 1 ≤ n) (n9 : n ≤ 900) (k : ∀ d H', 0 ≤ d → d < n → Bar p H H' → Pot H' p (c + 1) → Q (.int d) H') : xTk t σ H Q :=
  go_call ⟨_, e0, go_cons (ht _ ⟨p, c, n, rfl, hp, by omega, n1, by omega, k⟩)⟩
/-- one of some written things -/
theorem rd_of {ta : TA} {xs : List V} (e0 : σ[0]? = some (some (.ref p))) (ht : RdA ta σ xs) (l1 : 1 ≤ xs.length) (l9 : xs.length ≤ 90) (l3 : xs.length ≠ 3) (hp : Pot H p c) (hc : c ≤ 1800) (k : ∀ (i : Nat) (v : V) (H' : Hp), xs[i]? = some v → Bar p H H' → Pot H' p (c + 1) → Q v H') : xOf K (tLst ta) σ H Q := by
  refine go_call ⟨_, e0, go_cons (rd_lst ht (by omega) fun a H1 s1 ea => ?_)⟩
  have p1 := hp.same s1
  have na : a ≠ p := fun z => by
    obtain ⟨A, B, C, ep, _⟩ := p1
    rw [z, ep] at ea
    cases ea
    exact l3 rfl
  exact ⟨p, a, c, xs, rfl, p1, hc, .inl (SqL.of ea), l1, by omega, fun H' b => .inl (SqL.of (b _ _ na ea)), fun i v H' ev b p2 => k i v H' ev ((Bar.of s1).trans b) p2⟩
/-- one of what stands in the hall -/
theorem rd_hall {x : Str} {a : Addr} {xs : List V} (e0 : σ[0]? = some (some (.ref p))) (e1 : σ[1]? = some (some (.ref hd))) (hd' : DGet H hd (.str x) (some (.ref a))) (hx : SqT K H a xs) (l1 : 1 ≤ xs.length) (l9 : xs.length ≤ 90) (hp : Pot H p c) (hc : c ≤ 1800) (k : ∀ (i : Nat) (v : V) (H' : Hp), xs[i]? = some v → Bar p H H' → Pot H' p (c + 1) → Q v H') : xOf K (xHall x) σ H Q :=
  go_call ⟨_, e0, go_cons (go_dget ⟨_, e1, hd, _, rfl, hd', p, a, c, xs, rfl, hp, hc, .inr hx, l1, by omega, fun H' b => .inr (sqt_pot hp b hx), k⟩)⟩
theorem HallAt.peo (h : HallAt K H hd people cs ks) : ∃ a, DGet H hd (.str "people") (some (.ref a)) ∧ SqT K H a (people.map V.str) := by
  obtain ⟨kvs, pa, ca, ka, e, e1, e2, e3, h1, h2, h3⟩ := h.ex
  exact ⟨pa, dget_at e e1, h1⟩
theorem HallAt.cel (h : HallAt K H hd people cs ks) : ∃ a xs, DGet H hd (.str "cells") (some (.ref a)) ∧ SqT K H a xs ∧ TpAll K H xs (cs.map CellD.d) := by
  obtain ⟨kvs, pa, ca, ka, e, e1, e2, e3, h1, h2, h3⟩ := h.ex
  obtain ⟨a, xs, ea, hs, hx⟩ := tp_tup h2
  have ea : ca = a := V.ref.inj ea
  subst ea
  exact ⟨ca, xs, dget_at e e2, hs, hx⟩
theorem HallAt.kin (h : HallAt K H hd people cs ks) : ∃ a xs, DGet H hd (.str "kinds") (some (.ref a)) ∧ SqT K H a xs ∧ TpAll K H xs (ks.map KindD.d) := by
  obtain ⟨kvs, pa, ca, ka, e, e1, e2, e3, h1, h2, h3⟩ := h.ex
  obtain ⟨a, xs, ea, hs, hx⟩ := tp_tup h3
  have ea : ka = a := V.ref.inj ea
  subst ea
  exact ⟨ka, xs, dget_at e e3, hs, hx⟩
/-- a cell is drawn and taken apart -/
theorem rd_cell {i j m : Nat} (e0 : σ[0]? = some (some (.ref p))) (e1 : σ[1]? = some (some (.ref hd))) (ha : HallAt K H hd people cs ks) (c1 : 1 ≤ cs.length) (c3 : cs.length ≤ 3) (hp : Pot H p c) (hc : c ≤ 1800)
    (k : ∀ (q : Nat) (cd : CellD) (H' : Hp), cs[q]? = some cd → Bar p H H' → Pot H' p (c + 1) → rest Z (((σ.set i (some (.str cd.x))).set j (some (.int cd.z))).set m (some (.int cd.i))) H') :
    tSeq (tAsg (xOf K (xHall "cells")) (gTup K 3 (gCons (gName i) (gCons (gName j) (gCons (gName m) gNil))))) rest Z σ H := by
  obtain ⟨a, xs, hg, hs, hx⟩ := ha.cel
  have ln := hx.length
  rw [List.length_map] at ln
  refine seq_set (rd_hall e0 e1 hg hs (by omega) (by omega) hp hc fun q v H' ev b p2 => ?_)
  obtain ⟨d, ed, tp⟩ := hx.get ev
  rw [List.getElem?_map] at ed
  obtain ⟨cd, es, rfl⟩ : ∃ cd, cs[q]? = some cd ∧ d = cd.d := by
    cases e : cs[q]? with
    | none => rw [e] at ed; cases ed
    | some cd => rw [e] at ed; exact ⟨cd, rfl, (Option.some.inj ed).symm⟩
  obtain ⟨t, us, rfl, ht, hu⟩ := tp_tup (tp.pot hp b)
  cases hu with
  | cons t1 h2 => cases h2 with
    | cons t2 h3 => cases h3 with
      | cons t3 h4 => cases h4 with
        | nil =>
          cases t1
          cases t2
          cases t3
          exact ⟨t, _, rfl, ht, rfl, _, _, rfl, _, _, rfl, _, _, rfl, rfl, k q cd H' es b p2⟩
end
end Hx
set_option maxRecDepth 100000
set_option maxHeartbeats 1000000
namespace Hx
open PySem PySem.Spec PyProof.Rows L2
abbrev rLenE (K : PySem.W.Frag) : List V → Hp → VK → Prop := fun xs H Q => ∃ p ys, xs = [.ref p] ∧ (SqL K H p ys ∨ SqT K H p ys) ∧ Q (.int (ys.length : Nat)) H
abbrev w1 (K : PySem.W.Frag) : TS := tAsg (tTup (tCons (xHall "people") (tCons (tTup tNil) (tCons (xOf K (tLst (tCons (xI 1) (tCons (xI 1) (tCons (xI 2) (tCons (xI 3) (tCons (xI 4) tNil))))))) (tCons (tTup tNil) (tCons (tTup tNil) tNil)))))) (gTup K 5 (gCons (gName 3) (gCons (gName 4) (gCons (gName 5) (gCons (gName 6) (gCons (gName 7) gNil))))))
abbrev w2 (K : PySem.W.Frag) : TS := tIfS (tTest (tOp rEq (xTk (xI 2)) (xI 0))) (tAsg (tCall (spUnlike K) [] E0 (tCons (tVar 0) (tCons (xHall "people") (tCons (tOp rAddI (xI 1) (xTk (tCB (rLenE K) (tCons (xHall "people") tNil)))) tNil)))) (gName 3)) tNext
abbrev w3 (K : PySem.W.Frag) : TS := tFor (iRng1 (tCons (xTk (xI 3)) tNil)) (gName 8) (tSeq (tAsg (xOf K (xHall "cells")) (gTup K 3 (gCons (gName 9) (gCons (gName 10) (gCons (gName 11) gNil)))))
  (tAsg (tOp (rCatA K) (tVar 4) (tTup (tCons (tTup (tCons (tVar 9) (tCons (xOf K (tLst (tCons (tC (.str "=")) (tCons (tC (.str "!=")) tNil)))) (tCons (xTk (tVar 10)) tNil)))) tNil))) (gName 4)))
section
variable {K : PySem.W.Frag} {H : Hp} {p hd : Addr} {c : Int} {people : List Str} {cs : List CellD} {ks : List KindD} {x : Str} {rest : TS} {Z : Ends}
theorem segW1 (hp : Pot H p c) (hc : c ≤ 1700) (ha : HallAt K H hd people cs ks)
    (k : ∀ (aB aT aC aR : Addr) (pick : Int) (H' : Hp), 1 ≤ pick → pick < 5 → Bar p H H' → WS K H' p hd (c + 1) people cs ks aB aT aC aR people [] [] [] → rest Z (stW p hd x aB aT pick aC aR none none none none none none none none none) H') :
    tSeq (w1 K) rest Z (start nWide [V.ref p, V.ref hd, V.str x]) H := by
  obtain ⟨pa, hg, hpa⟩ := ha.peo
  refine seq_set (go_tup (go_cons (go_dget ⟨_, rfl, hd, .ref pa, rfl, hg, ?_⟩)))
  refine go_cons (go_tup ⟨sz (by decide : 0 ≤ 1000), fun a1 h1 => ?_⟩)
  have s1 := same_new h1 (.tup [])
  have e1 : SqT K (upd H a1 (.tup [])) a1 [] := SqT.of upd_same
  generalize upd H a1 (.tup []) = H1 at s1 e1
  refine go_cons (rd_of (K := K) (p := p) (c := c) (xs := [.int 1, .int 1, .int 2, .int 3, .int 4]) rfl (rda_cons rd_c (rda_cons rd_c (rda_cons rd_c (rda_cons rd_c (rda_cons rd_c rda_nil))))) (by decide) (by decide) (by decide) (hp.same s1) (by omega) fun i v H2 ev b2 p2 => ?_)
  obtain ⟨pick, k1, k5, rfl⟩ : ∃ n : Int, 1 ≤ n ∧ n < 5 ∧ v = .int n := by
    have hv := List.mem_of_getElem? ev
    simp only [List.mem_cons, List.not_mem_nil, or_false] at hv
    rcases hv with rfl | rfl | rfl | rfl | rfl
    · exact ⟨1, by decide, by decide, rfl⟩
    · exact ⟨1, by decide, by decide, rfl⟩
    · exact ⟨2, by decide, by decide, rfl⟩
    · exact ⟨3, by decide, by decide, rfl⟩
    · exact ⟨4, by decide, by decide, rfl⟩
  refine go_cons (go_tup ⟨sz (by decide : 0 ≤ 1000), fun a3 h3 => ?_⟩)
  have s3 := same_new h3 (.tup [])
  have e3 : SqT K (upd H2 a3 (.tup [])) a3 [] := SqT.of upd_same
  generalize upd H2 a3 (.tup []) = H3 at s3 e3
  refine go_cons (go_tup ⟨sz (by decide : 0 ≤ 1000), fun a4 h4 => ?_⟩)
  have s4 := same_new h4 (.tup [])
  have e4 : SqT K (upd H3 a4 (.tup [])) a4 [] := SqT.of upd_same
  generalize upd H3 a4 (.tup []) = H4 at s4 e4
  refine ⟨sz (by decide : 5 ≤ 1000), fun a5 h5 => ?_⟩
  have s5 := same_new h5 (.tup [.ref pa, .ref a1, .int pick, .ref a3, .ref a4])
  have e5 : SqT K (upd H4 a5 (.tup [.ref pa, .ref a1, .int pick, .ref a3, .ref a4])) a5 [.ref pa, .ref a1, .int pick, .ref a3, .ref a4] := SqT.of upd_same
  generalize upd H4 a5 (.tup [.ref pa, .ref a1, .int pick, .ref a3, .ref a4]) = H5 at s5 e5
  refine ⟨a5, _, rfl, e5, rfl, _, _, rfl, _, _, rfl, _, _, rfl, _, _, rfl, _, _, rfl, rfl, ?_⟩
  have s25 := s3.trans (s4.trans s5)
  have p1 := hp.same s1
  have b15 : Bar p H1 H5 := b2.trans (Bar.of s25)
  have b05 : Bar p H H5 := (Bar.of s1).trans b15
  exact k pa a1 a3 a4 pick H5 k1 k5 b05 ⟨p2.same s25, ha.pot hp b05, sqt_pot hp b05 hpa, .tup (sqt_pot p1 b15 e1) .nil, .tup (same_sqt (s4.trans s5) e3) .nil, .tup (same_sqt s5 e4) .nil⟩
theorem segW2 {aB aT aC aR : Addr} {pick : Int} {ts : List TestD} {chs : List ChangeD} {rs : List RowD} (ws : WS K H p hd c people cs ks aB aT aC aR people ts chs rs) (hc : c ≤ 1600) (p1 : 1 ≤ people.length) (p3 : people.length ≤ 3) (pn : people.Nodup)
    (k : ∀ (aB : Addr) (ys : List Str) (H' : Hp), 1 ≤ ys.length → ys.length ≤ 3 → ys.Nodup → (∀ y ∈ ys, y ∈ people) → Bar p H H' → WS K H' p hd (c + 6) people cs ks aB aT aC aR ys ts chs rs → rest Z (stW p hd x aB aT pick aC aR none none none none none none none none none) H') :
    tSeq (w2 K) rest Z (stW p hd x aB aT pick aC aR none none none none none none none none none) H := by
  refine seq_if (go_test (go_op (rd_tk (p := p) (c := c) (n := 2) rfl (fun _ q => q) ws.pot (by omega) (by decide) (by decide) fun d H1 d0 d1 b1 q1 => ?_)))
  have w1 := ws.bar b1 q1
  refine ⟨rfl, _, rfl, ?_⟩
  by_cases e : d = 0
  · rw [decide_eq_true (by rw [e])]
    refine iteT ?_
    obtain ⟨pa, hg, hpa⟩ := w1.hall.peo
    show tCall (spUnlike K) [] E0 _ _ _ _
    refine go_call ⟨_, rfl, go_cons (go_dget ⟨_, rfl, hd, .ref pa, rfl, hg, go_cons (go_op ?_)⟩)⟩
    refine rd_tk (p := p) (c := c + 1) (n := (people.length : Nat)) (t := tCB (rLenE K) (tCons (xHall "people") tNil)) rfl (fun Q q => ?_) w1.pot (by omega) (by omega) (by omega) fun m H2 m0 m1 b2 q2 => ?_
    · refine go_cb (go_cons (go_dget ⟨_, rfl, hd, .ref pa, rfl, hg, pa, _, rfl, .inr hpa, ?_⟩))
      rw [List.length_map]
      exact q
    have w2 := w1.bar b2 q2
    have hpa2 := sqt_pot w1.pot b2 hpa
    refine ⟨1, m, rfl, rfl, ?_⟩
    have em : ((1 + m.toNat : Nat) : Int) = 1 + m := by omega
    refine ⟨p, pa, c + 1 + 1, people, 1 + m.toNat, (by show [V.ref p, V.ref pa, V.int (1 + m)] = [V.ref p, V.ref pa, V.int ((1 + m.toNat : Nat) : Int)]; rw [em]), w2.pot, by omega, .inr hpa2, pn, by omega, by omega, fun a ys H3 b3 q3 hys ly nd sub => ?_⟩
    have w3 := w2.bar b3 (q3.mono (by omega : c + 1 + 1 + ((1 + m.toNat : Nat) : Int) ≤ c + 6))
    exact k a ys H3 (by omega) (by omega) nd sub (b1.trans (b2.trans b3)) ⟨w3.pot, w3.hall, hys, w3.ts, w3.chs, w3.rs⟩
  · rw [decide_eq_false (fun z => e (V.int.inj z))]
    exact iteF (k aB people H1 p1 p3 pn (fun _ h => h) b1 (w1.bar (Bar.of (Same.refl H1)) (q1.mono (by omega))))
end
end Hx
set_option maxRecDepth 100000
set_option maxHeartbeats 1000000
namespace Hx
open PySem PySem.Spec PyProof.Rows L2
theorem set_go {te : TE} {g : TG} {Z : Ends} {σ : L2.St} {H : Hp} (h : te σ H fun x H1 => g x σ H1 Z.nx) : tAsg te g Z σ H := h
def FIt (J : It) (g : TG) (tb rest : TS) (Z : Ends) (σ : L2.St) (H1 : Hp) : Prop := ∃ W : Nat → Nat → L2.St → Hp → Prop, (∃ m, W 0 m σ H1) ∧ ∀ (i m : Nat) (σ : L2.St) (H : Hp), W i m σ H → (J.stop i H ∧ rest Z σ H) ∨ (J.go i H ∧ ∃ N : L2.St → Hp → Prop, (∀ σ' H', N σ' H' → ∃ m', m' < m ∧ W (i + 1) m' σ' H') ∧ ∀ (x : V) (H' : Hp), J.yld i H x H' → g x σ H' fun σ2 H2 => tb { nx := N, rt := Z.rt, bk := rest Z, ct := N } σ2 H2)
theorem seq_range {te : TE} {g : TG} {tb rest : TS} {Z : Ends} {σ : L2.St} {H : Hp} (h : te σ H fun x H1 => ∃ j, [x] = [V.int j] ∧ -2 ^ 62 ≤ j ∧ j < 2 ^ 62 ∧ FIt (Itr 0 j.toNat) g tb rest Z σ H1) : tSeq (tFor (iRng1 (tCons te tNil)) g tb) rest Z σ H := h
theorem fit_range {n : Nat} {g : TG} {tb rest : TS} {Z : Ends} {σ : L2.St} {H : Hp} (Pv : Nat → L2.St → Hp → Prop) (h0 : Pv 0 σ H) (hs : ∀ (i : Nat) (σ : L2.St) (H : Hp), i < n → Pv i σ H → g (V.int (0 + (i : Nat))) σ H fun σ2 H2 => tb { nx := Pv (i + 1), rt := Z.rt, bk := rest Z, ct := Pv (i + 1) } σ2 H2) (hd : ∀ σ H, Pv n σ H → rest Z σ H) : FIt (Itr 0 n) g tb rest Z σ H :=
  for_range (D := { nx := rest Z, rt := Z.rt, bk := Z.bk, ct := Z.ct }) Pv h0 hs hd
/-- one more behind a tuple -/
theorem rd_catA {K : PySem.W.Frag} {H : Hp} {a b : Addr} {u : V} {ds : List PyData} {d : PyData} {Q : VK} (ta : Tp K H (.ref a) (.tuple ds)) (hb : SqT K H b [u]) (tu : Tp K H u d) (few : ds.length ≤ 900) (k : ∀ r H', Same H H' → Tp K H' (.ref r) (.tuple (ds ++ [d])) → Q (.ref r) H') : rCatA K (.ref a) (.ref b) H Q := by
  obtain ⟨a', xs, ea, ha, hx⟩ := tp_tup ta
  have ea : a = a' := V.ref.inj ea
  subst ea
  have ln := hx.length
  refine ⟨a, b, xs, [u], rfl, rfl, ha, hb, sz (by show xs.length + 1 ≤ 1000; omega), fun e => ?_, (fun _ z => by cases z), fun _ _ r hr => ?_⟩
  · subst e
    have : ds = [] := by
      cases ds with
      | nil => rfl
      | cons _ _ => cases ln
    subst this
    exact k b H (Same.refl H) (.tup hb (.cons tu .nil))
  · have s := same_new hr (.tup (xs ++ [u]))
    exact k r _ s (.tup (SqT.of upd_same) (TpAll.append (hx.same s) (.cons (tu.same s) .nil)))
theorem cellX_at {cs : List CellD} {q : Nat} {cd : CellD} (h : cs[q]? = some cd) : cellX cs q = cd.x := by
  unfold cellX
  rw [h]
  rfl
section
variable {K : PySem.W.Frag} {H : Hp} {p hd : Addr} {c : Int} {people : List Str} {cs : List CellD} {ks : List KindD} {x : Str} {rest : TS} {Z : Ends}
theorem segW3 {aB aT aC aR : Addr} {pick : Int} {ys : List Str} {chs : List ChangeD} {rs : List RowD} (ws : WS K H p hd c people cs ks aB aT aC aR ys [] chs rs) (hc : c ≤ 1700) (c1 : 1 ≤ cs.length) (co : CellsOk cs)
    (k : ∀ (aT : Addr) (ts : List TestD) (t8 t9 t10 t11 : Option V) (H' : Hp), ts.length ≤ 2 → (∀ t ∈ ts, t.ok cs) → Bar p H H' → WS K H' p hd (c + 8) people cs ks aB aT aC aR ys ts chs rs → rest Z (stW p hd x aB aT pick aC aR t8 t9 t10 t11 none none none none none) H') :
    tSeq (w3 K) rest Z (stW p hd x aB aT pick aC aR none none none none none none none none none) H := by
  refine seq_range (rd_tk (p := p) (c := c) (n := 3) rfl (fun _ q => q) ws.pot (by omega) (by decide) (by decide) fun d H1 d0 d1 b1 q1 => ⟨d, rfl, by omega, by omega, ?_⟩)
  have w1 := ws.bar b1 q1
  refine fit_range (n := d.toNat) (fun i σ H' => ∃ (aT : Addr) (ts : List TestD) (t8 t9 t10 t11 : Option V), σ = stW p hd x aB aT pick aC aR t8 t9 t10 t11 none none none none none ∧ ts.length = i ∧ (∀ t ∈ ts, t.ok cs) ∧ Bar p H H' ∧ WS K H' p hd (c + 1 + 3 * (i : Nat)) people cs ks aB aT aC aR ys ts chs rs)
    ⟨aT, [], _, _, _, _, rfl, rfl, (fun t ht => by cases ht), b1, w1.bar (Bar.of (Same.refl _)) (q1.mono (by omega))⟩ ?_ ?_
  · rintro i σ H2 hi ⟨aT, ts, t8, t9, t10, t11, rfl, lt, ok, b2, w2⟩
    show tSeq (tAsg (xOf K (xHall "cells")) (gTup K 3 (gCons (gName 9) (gCons (gName 10) (gCons (gName 11) gNil))))) _ _ (stW p hd x aB aT pick aC aR (some (.int (0 + (i : Nat)))) t9 t10 t11 none none none none none) H2
    refine rd_cell (p := p) (hd := hd) (c := c + 1 + 3 * (i : Nat)) rfl rfl w2.hall c1 co.1 w2.pot (by omega) fun q cd H3 eq b3 q3 => ?_
    have w3 := w2.bar b3 q3
    have cok := co.2.1 cd (List.mem_of_getElem? eq)
    obtain ⟨_, _, z2, z5, _, _⟩ := cok
    show tAsg _ _ _ (stW p hd x aB aT pick aC aR (some (.int (0 + (i : Nat)))) (some (.str cd.x)) (some (.int cd.z)) (some (.int cd.i)) none none none none none) H3
    refine set_go (go_op ⟨_, rfl, go_tup (go_cons (go_tup (go_cons ⟨_, rfl, go_cons ?_⟩)))⟩)
    refine rd_of (K := K) (p := p) (c := c + 1 + 3 * (i : Nat) + 1) (xs := [.str "=", .str "!="]) rfl (rda_cons rd_c (rda_cons rd_c rda_nil)) (by decide) (by decide) (by decide) w3.pot (by omega) fun m v H4 ev b4 q4 => ?_
    obtain ⟨same, rfl⟩ : ∃ s : Bool, v = .str (sign s) := by
      have hv := List.mem_of_getElem? ev
      simp only [List.mem_cons, List.not_mem_nil, or_false] at hv
      rcases hv with rfl | rfl
      · exact ⟨true, rfl⟩
      · exact ⟨false, rfl⟩
    have w4 := w3.bar b4 q4
    refine go_cons (rd_tk (p := p) (c := c + 1 + 3 * (i : Nat) + 1 + 1) (n := cd.z) (t := tVar 10) rfl (fun _ q => ⟨_, rfl, q⟩) w4.pot (by omega) (by omega) (by omega) fun n H5 n0 n1 b5 q5 => ⟨sz (by decide : 3 ≤ 1000), fun u hu => ⟨sz (by decide : 1 ≤ 1000), fun o ho => ?_⟩⟩)
    have w5 := w4.bar b5 q5
    have s6 := same_new hu (.tup [.str cd.x, .str (sign same), .int n])
    have e6 : SqT K (upd H5 u (.tup [.str cd.x, .str (sign same), .int n])) u [.str cd.x, .str (sign same), .int n] := SqT.of upd_same
    generalize upd H5 u (.tup [.str cd.x, .str (sign same), .int n]) = H6 at s6 e6 ho
    have s7 := same_new ho (.tup [.ref u])
    have e7 : SqT K (upd H6 o (.tup [.ref u])) o [.ref u] := SqT.of upd_same
    generalize upd H6 o (.tup [.ref u]) = H7 at s7 e7
    have w7 := w5.same (s6.trans s7)
    have tu : Tp K H7 (.ref u) (TestD.l cs ⟨q, same, n⟩) := by
      unfold TestD.l
      rw [cellX_at eq]
      exact .tup (same_sqt s7 e6) (.cons (.str _) (.cons (.str _) (.cons (.int _) .nil)))
    refine rd_catA w7.ts e7 tu (by rw [List.length_map]; omega) fun r H8 s8 tr => ?_
    have w8 := w7.same s8
    have er : ts.map (TestD.l cs) ++ [TestD.l cs ⟨q, same, n⟩] = (ts ++ [(⟨q, same, n⟩ : TestD)]).map (TestD.l cs) := by
      rw [List.map_append]
      rfl
    rw [er] at tr
    refine ⟨r, ts ++ [(⟨q, same, n⟩ : TestD)], _, _, _, _, rfl, by rw [List.length_append, lt]; rfl, fun t ht => ?_, ?_, ?_⟩
    · rcases List.mem_append.mp ht with ht | ht
      · exact ok t ht
      · rw [List.mem_singleton.mp ht]
        exact ⟨cd, eq, n0, n1⟩
    · exact b2.trans (b3.trans (b4.trans (b5.trans (Bar.of (s6.trans (s7.trans s8))))))
    · exact ⟨w8.pot.mono (by omega), w8.hall, w8.by_, tr, w8.chs, w8.rs⟩
  · rintro σ H2 ⟨aT, ts, t8, t9, t10, t11, rfl, lt, ok, b2, w2⟩
    exact k aT ts t8 t9 t10 t11 H2 (by omega) ok b2 (w2.bar (Bar.of (Same.refl _)) (w2.pot.mono (by omega)))
end
end Hx
set_option maxRecDepth 100000
set_option maxHeartbeats 1000000
namespace Hx
open PySem PySem.Spec PyProof.Rows L2
abbrev xWord (K : PySem.W.Frag) : TE := tCall (spWord K) [] E0 (tCons (tVar 0) (tCons (tVar 1) (tCons (tVar 5) (tCons (tVar 10) tNil))))
abbrev w4 (K : PySem.W.Frag) : TS := tFor (iRng1 (tCons (xTk (xI 4)) tNil)) (gName 8) (tSeq (tAsg (xOf K (xHall "cells")) (gTup K 3 (gCons (gName 9) (gCons (gName 10) (gCons (gName 11) gNil)))))
  (tSeq (tAsg (xWord K) (gName 12)) (tAsg (tOp (rCatA K) (tVar 6) (tTup (tCons (tTup (tCons (xOf K (tLst (tCons (tC (.str "set")) (tCons (tC (.str "add")) tNil)))) (tCons (tVar 9) (tCons (tVar 12) tNil)))) tNil))) (gName 6))))
section
variable {K : PySem.W.Frag} {H : Hp} {p hd : Addr} {c : Int} {people : List Str} {cs : List CellD} {ks : List KindD} {x : Str} {rest : TS} {Z : Ends}
theorem rd_word {σ : L2.St} {pick : Int} {z : Option Int} {Q : VK} (e0 : σ[0]? = some (some (.ref p))) (e1 : σ[1]? = some (some (.ref hd))) (e5 : σ[5]? = some (some (.int pick))) (e10 : σ[10]? = some (some (szV z))) (hp : Pot H p c) (hc : c ≤ 1700) (ha : HallAt K H hd people cs ks) (p3 : people.length ≤ 3) (pw : ∀ x ∈ people, x ≠ "who") (c3 : cs.length ≤ 3)
    (k1 : 1 ≤ pick) (k5 : pick < 5) (hz : ∀ y, z = some y → 2 ≤ y ∧ y < 5) (k : ∀ (s : Src) (H' : Hp), Bar p H H' → Pot H' p (c + 2) → wordOk people cs pick z s → Q (.str (s.w cs)) H') : xWord K σ H Q :=
  go_call ⟨_, e0, _, e1, _, e5, _, e10, p, hd, c, pick, z, people, cs, ks, rfl, hp, hc, ha, p3, pw, c3, k1, k5, hz, k⟩
theorem segW4 {aB aT aC aR : Addr} {pick : Int} {ys : List Str} {ts : List TestD} {rs : List RowD} {t8 t9 t10 t11 : Option V} (ws : WS K H p hd c people cs ks aB aT aC aR ys ts [] rs) (hc : c ≤ 1650) (p3 : people.length ≤ 3) (pw : ∀ x ∈ people, x ≠ "who") (c1 : 1 ≤ cs.length) (co : CellsOk cs) (k1 : 1 ≤ pick) (k5 : pick < 5)
    (k : ∀ (aC : Addr) (chs : List ChangeD) (t8 t9 t10 t11 t12 : Option V) (H' : Hp), chs.length ≤ 3 → (∀ t ∈ chs, t.ok cs pick) → Bar p H H' → WS K H' p hd (c + 14) people cs ks aB aT aC aR ys ts chs rs → rest Z (stW p hd x aB aT pick aC aR t8 t9 t10 t11 t12 none none none none) H') :
    tSeq (w4 K) rest Z (stW p hd x aB aT pick aC aR t8 t9 t10 t11 none none none none none) H := by
  refine seq_range (rd_tk (p := p) (c := c) (n := 4) rfl (fun _ q => q) ws.pot (by omega) (by decide) (by decide) fun d H1 d0 d1 b1 q1 => ⟨d, rfl, by omega, by omega, ?_⟩)
  have w1 := ws.bar b1 q1
  refine fit_range (n := d.toNat) (fun i σ H' => ∃ (aC : Addr) (chs : List ChangeD) (t8 t9 t10 t11 t12 : Option V), σ = stW p hd x aB aT pick aC aR t8 t9 t10 t11 t12 none none none none ∧ chs.length = i ∧ (∀ t ∈ chs, t.ok cs pick) ∧ Bar p H H' ∧ WS K H' p hd (c + 1 + 4 * (i : Nat)) people cs ks aB aT aC aR ys ts chs rs)
    ⟨aC, [], _, _, _, _, _, rfl, rfl, (fun t ht => by cases ht), b1, w1.bar (Bar.of (Same.refl _)) (q1.mono (by omega))⟩ ?_ ?_
  · rintro i σ H2 hi ⟨aC, chs, t8, t9, t10, t11, t12, rfl, lt, ok, b2, w2⟩
    show tSeq (tAsg (xOf K (xHall "cells")) (gTup K 3 (gCons (gName 9) (gCons (gName 10) (gCons (gName 11) gNil))))) _ _ (stW p hd x aB aT pick aC aR (some (.int (0 + (i : Nat)))) t9 t10 t11 t12 none none none none) H2
    refine rd_cell (p := p) (hd := hd) (c := c + 1 + 4 * (i : Nat)) rfl rfl w2.hall c1 co.1 w2.pot (by omega) fun q cd H3 eq b3 q3 => ?_
    have w3 := w2.bar b3 q3
    obtain ⟨_, _, z2, z5, _, _⟩ := co.2.1 cd (List.mem_of_getElem? eq)
    show tSeq (tAsg (xWord K) (gName 12)) _ _ (stW p hd x aB aT pick aC aR (some (.int (0 + (i : Nat)))) (some (.str cd.x)) (some (.int cd.z)) (some (.int cd.i)) t12 none none none none) H3
    refine seq_set (rd_word (p := p) (hd := hd) (pick := pick) (z := some cd.z) (c := c + 1 + 4 * (i : Nat) + 1) rfl rfl rfl rfl w3.pot (by omega) w3.hall p3 pw co.1 k1 k5 (fun y e => by cases e; exact ⟨z2, z5⟩) fun s H4 b4 q4 sok => ?_)
    have w4 := w3.bar b4 q4
    show tAsg _ _ _ (stW p hd x aB aT pick aC aR (some (.int (0 + (i : Nat)))) (some (.str cd.x)) (some (.int cd.z)) (some (.int cd.i)) (some (.str (s.w cs))) none none none none) H4
    refine set_go (go_op ⟨_, rfl, go_tup (go_cons (go_tup (go_cons ?_)))⟩)
    refine rd_of (K := K) (p := p) (c := c + 1 + 4 * (i : Nat) + 1 + 2) (xs := [.str "set", .str "add"]) rfl (rda_cons rd_c (rda_cons rd_c rda_nil)) (by decide) (by decide) (by decide) w4.pot (by omega) fun m v H5 ev b5 q5 => ?_
    obtain ⟨add, rfl⟩ : ∃ s : Bool, v = .str (verb s) := by
      have hv := List.mem_of_getElem? ev
      simp only [List.mem_cons, List.not_mem_nil, or_false] at hv
      rcases hv with rfl | rfl
      · exact ⟨false, rfl⟩
      · exact ⟨true, rfl⟩
    refine ⟨_, rfl, _, rfl, sz (by decide : 3 ≤ 1000), fun u hu => ⟨sz (by decide : 1 ≤ 1000), fun o ho => ?_⟩⟩
    have w5 := w4.bar b5 q5
    have s6 := same_new hu (.tup [.str (verb add), .str cd.x, .str (s.w cs)])
    have e6 : SqT K (upd H5 u (.tup [.str (verb add), .str cd.x, .str (s.w cs)])) u [.str (verb add), .str cd.x, .str (s.w cs)] := SqT.of upd_same
    generalize upd H5 u (.tup [.str (verb add), .str cd.x, .str (s.w cs)]) = H6 at s6 e6 ho
    have s7 := same_new ho (.tup [.ref u])
    have e7 : SqT K (upd H6 o (.tup [.ref u])) o [.ref u] := SqT.of upd_same
    generalize upd H6 o (.tup [.ref u]) = H7 at s7 e7
    have w7 := w5.same (s6.trans s7)
    have tu : Tp K H7 (.ref u) (ChangeD.l cs ⟨add, q, s⟩) := by
      unfold ChangeD.l
      rw [cellX_at eq]
      exact .tup (same_sqt s7 e6) (.cons (.str _) (.cons (.str _) (.cons (.str _) .nil)))
    refine rd_catA w7.chs e7 tu (by rw [List.length_map]; omega) fun r H8 s8 tr => ?_
    have w8 := w7.same s8
    have er : chs.map (ChangeD.l cs) ++ [ChangeD.l cs ⟨add, q, s⟩] = (chs ++ [(⟨add, q, s⟩ : ChangeD)]).map (ChangeD.l cs) := by
      rw [List.map_append]
      rfl
    rw [er] at tr
    refine ⟨r, chs ++ [(⟨add, q, s⟩ : ChangeD)], _, _, _, _, _, rfl, by rw [List.length_append, lt]; rfl, fun t ht => ?_, ?_, ?_⟩
    · rcases List.mem_append.mp ht with ht | ht
      · exact ok t ht
      · rw [List.mem_singleton.mp ht]
        exact ⟨cd, eq, sok⟩
    · exact b2.trans (b3.trans (b4.trans (b5.trans (Bar.of (s6.trans (s7.trans s8))))))
    · exact ⟨w8.pot.mono (by omega), w8.hall, w8.by_, w8.ts, tr, w8.rs⟩
  · rintro σ H2 ⟨aC, chs, t8, t9, t10, t11, t12, rfl, lt, ok, b2, w2⟩
    exact k aC chs t8 t9 t10 t11 t12 H2 (by omega) ok b2 (w2.bar (Bar.of (Same.refl _)) (w2.pot.mono (by omega)))
end
end Hx
set_option maxRecDepth 100000
set_option maxHeartbeats 1000000
namespace Hx
open PySem PySem.Spec PyProof.Rows L2
theorem lay_all {ds : List PyData} (h : ∀ d ∈ ds, d.canLay0 = true) : PyData.canLayAll0 ds = true := by
  induction ds with
  | nil => rfl
  | cons d ds ih =>
    simp only [PyData.canLayAll0, Bool.and_eq_true]
    exact ⟨h d (List.mem_cons_self ..), ih fun e he => h e (List.mem_cons_of_mem _ he)⟩
theorem dep_all {n : Nat} : ∀ {ds : List PyData}, (∀ d ∈ ds, d.depth ≤ n) → PyData.depthAll ds ≤ n
  | [], _ => Nat.zero_le _
  | d :: ds, h => by
    simp only [PyData.depthAll]
    exact Nat.max_le.mpr ⟨h d (List.mem_cons_self ..), dep_all fun e he => h e (List.mem_cons_of_mem _ he)⟩
theorem field_lay {f : FieldD} (h : f.ok) : f.d.canLay0 = true ∧ f.d.depth ≤ 1 := by
  obtain ⟨h1, h2⟩ := h
  have hs : PyData.strOk f.x = true := name_str h1
  unfold FieldD.d
  cases f.z with
  | none => exact ⟨by simp [PyData.canLay0, PyData.canLayAll0, hs], by simp [PyData.depth, PyData.depthAll]⟩
  | some z => exact ⟨by simp [PyData.canLay0, PyData.canLayAll0, hs], by simp [PyData.depth, PyData.depthAll]⟩
theorem kind_lay {k : KindD} (h : k.ok) : k.d.canLay0 = true ∧ k.d.depth ≤ 3 := by
  obtain ⟨h1, _, _, h4⟩ := h
  have hs : PyData.strOk k.x = true := name_str h1
  unfold KindD.d
  have a : PyData.canLayAll0 (k.fs.map FieldD.d) = true := lay_all fun d hd => by
    obtain ⟨f, hf, rfl⟩ := List.mem_map.mp hd
    exact (field_lay (h4 f hf)).1
  have b : PyData.depthAll (k.fs.map FieldD.d) ≤ 1 := dep_all fun d hd => by
    obtain ⟨f, hf, rfl⟩ := List.mem_map.mp hd
    exact (field_lay (h4 f hf)).2
  refine ⟨by simp [PyData.canLay0, PyData.canLayAll0, hs, a], ?_⟩
  simp only [PyData.depth, PyData.depthAll]
  omega
theorem kinds_shaped {ks : List KindD} (h : ∀ k ∈ ks, k.ok) : SeqAt.shaped (.tuple (ks.map KindD.d)) = true := by
  have a : PyData.canLayAll0 (ks.map KindD.d) = true := lay_all fun d hd => by
    obtain ⟨f, hf, rfl⟩ := List.mem_map.mp hd
    exact (kind_lay (h f hf)).1
  have b : PyData.depthAll (ks.map KindD.d) ≤ 3 := dep_all fun d hd => by
    obtain ⟨f, hf, rfl⟩ := List.mem_map.mp hd
    exact (kind_lay (h f hf)).2
  have e : PyData.canLay0 (.tuple (ks.map KindD.d)) = true := by simp [PyData.canLay0, a]
  unfold SeqAt.shaped
  rw [e, Bool.true_and]
  refine decide_eq_true ?_
  simp only [PyData.depth]
  omega
theorem kinds_none {ks : List KindD} : PyData.eqv (.tuple (ks.map KindD.d)) (.tuple []) = decide (ks = []) := by
  cases ks with
  | nil => simp [PyData.eqv, PyData.eqvAll]
  | cons k ks => simp [PyData.eqv, PyData.eqvAll]
abbrev xLot (K : PySem.W.Frag) : TE := tLc (iTup K (tVar 14)) (gTup K 2 (gCons (gName 16) (gCons (gName 10) gNil))) tYes (xWord K) [16, 10]
abbrev w5 (K : PySem.W.Frag) : TS := tFor (iRng1 (tCons (tIf (tTest (tOp (rNeD K) (xHall "kinds") (tTup tNil))) (xTk (xI 3)) (xI 0)) tNil)) (gName 8) (tSeq (tAsg (xOf K (xHall "kinds")) (gTup K 2 (gCons (gName 13) (gCons (gName 14) gNil))))
  (tSeq (tAsg (xLot K) (gName 15)) (tAsg (tOp (rCatA K) (tVar 7) (tTup (tCons (tTup (tCons (tVar 13) (tCons (tCB (rTupOf K) (tCons (tVar 15) tNil)) tNil))) tNil))) (gName 7))))
section
variable {K : PySem.W.Frag} {H : Hp} {p hd : Addr} {c : Int} {people : List Str} {cs : List CellD} {ks : List KindD} {x : Str} {rest : TS} {Z : Ends}
theorem lc_lot {σ : L2.St} {pick : Int} {Q : VK} {af : Addr} {xs : List V} {fs : List FieldD} (hl : σ.length = 17) (e0 : σ[0]? = some (some (.ref p))) (e1 : σ[1]? = some (some (.ref hd))) (e5 : σ[5]? = some (some (.int pick))) (e14 : σ[14]? = some (some (.ref af))) (hs : SqT K H af xs) (hx : TpAll K H xs (fs.map FieldD.d)) (f3 : fs.length ≤ 3) (fok : ∀ f ∈ fs, f.ok)
    (hp : Pot H p c) (hc : c ≤ 1690) (ha : HallAt K H hd people cs ks) (p3 : people.length ≤ 3) (pw : ∀ x ∈ people, x ≠ "who") (c3 : cs.length ≤ 3) (k1 : 1 ≤ pick) (k5 : pick < 5)
    (k : ∀ (G : Addr) (ss : List Src) (H' : Hp), Bar p H H' → Pot H' p (c + 6) → ss.length = fs.length → H' G = some (.lst (ss.map fun s => .str (s.w cs))) → (∀ (i : Nat) (f : FieldD) (s : Src), fs[i]? = some f → ss[i]? = some s → srcOk people cs pick f s) → Q (.ref G) H') :
    xLot K σ H Q := by
  have ln := hx.length
  rw [List.length_map] at ln
  refine ⟨_, e14, af, rfl, ⟨_, hs⟩, fun G hG => lc_tup (xs := xs) (fun j H' => Bar p H H' ∧ Pot H' p (c + 2 * (j : Nat)) ∧ ∃ ss : List Src, ss.length = j ∧ H' G = some (.lst (ss.map fun s => .str (s.w cs))) ∧ (∀ (i : Nat) (f : FieldD) (s : Src), fs[i]? = some f → ss[i]? = some s → srcOk people cs pick f s)) ⟨Bar.new hG _, (hp.new hG _).mono (by omega), [], rfl, upd_same, fun i f s _ e => by simp at e⟩ (fun i H' _ q => sqt_pot hp q.1 hs) ?_ ?_⟩
  · rintro j v H1 hj ⟨b1, q1, ss, ls, eG, sok⟩
    have nG : G ≠ p := fun z => by
      obtain ⟨A, B, C, ep, _⟩ := hp
      rw [← z, hG] at ep
      cases ep
    have hjl : j < xs.length := (List.getElem?_eq_some_iff.mp hj).1
    obtain ⟨d, ed, tp⟩ := hx.get hj
    rw [List.getElem?_map] at ed
    obtain ⟨f, es, rfl⟩ : ∃ f, fs[j]? = some f ∧ d = f.d := by
      cases e : fs[j]? with
      | none => rw [e] at ed; cases ed
      | some f => rw [e] at ed; exact ⟨f, rfl, (Option.some.inj ed).symm⟩
    obtain ⟨t, us, rfl, ht, hu⟩ := tp_tup (tp.pot hp b1)
    have eu : us = [.str f.x, szV f.z] := by
      cases hu with
      | cons t1 h2 => cases h2 with
        | cons t2 h3 => cases h3 with
          | nil =>
            cases t1
            cases ez : f.z with
            | none => rw [ez] at t2; cases t2; rfl
            | some z => rw [ez] at t2; cases t2; rfl
    subst eu
    have l1 : (wipe σ [16, 10]).length = 17 := by rw [wipe_length, hl]
    generalize eσ : ((wipe σ [16, 10]).set 16 (some (V.str f.x))).set 10 (some (szV f.z)) = σ1
    have w1 : wipe σ1 [16, 10] = wipe σ [16, 10] := by
      rw [← eσ]
      refine wipe_of (fun m hm => ?_) (by simp [wipe_length])
      have h1 : 16 ≠ m := fun z => hm (by rw [← z]; simp)
      have h2 : 10 ≠ m := fun z => hm (by rw [← z]; simp)
      rw [List.getElem?_set_ne h2, List.getElem?_set_ne h1, wipe_get, if_neg hm]
    have g : ∀ {m : Nat} {v : V}, 16 ≠ m → 10 ≠ m → σ[m]? = some (some v) → σ1[m]? = some (some v) := fun {m v} h1 h2 e => by
      rw [← eσ, List.getElem?_set_ne h2, List.getElem?_set_ne h1, wipe_get, if_neg (by simp [h1.symm, h2.symm])]
      exact e
    have f10 : σ1[10]? = some (some (szV f.z)) := by
      rw [← eσ, List.getElem?_set_self (by rw [List.length_set]; omega)]
    refine ⟨t, _, rfl, ht, rfl, _, _, rfl, _, _, rfl, rfl, ?_⟩
    show wipe (((wipe σ [16, 10]).set 16 (some (V.str f.x))).set 10 (some (szV f.z))) [16, 10] = wipe σ [16, 10] ∧ _
    rw [eσ]
    refine ⟨w1, yes ?_⟩
    refine rd_word (p := p) (hd := hd) (pick := pick) (z := f.z) (c := c + 2 * (j : Nat)) (g (by decide) (by decide) e0) (g (by decide) (by decide) e1) (g (by decide) (by decide) e5) f10 q1 (by omega) (ha.pot hp b1) p3 pw c3 k1 k5 (fun y e => (fok f (List.mem_of_getElem? es)).2 y e) fun s H2 b2 q2 ok2 => ?_
    refine ⟨_, b2 _ _ nG eG, ?_, (b1.trans b2).put hG _, ((q2.put nG _).mono (by omega)), ss ++ [s], by rw [List.length_append, ls]; rfl, ?_, ?_⟩
    · rw [List.length_map]
      exact small1000 (by omega)
    · rw [upd_same, List.map_append]
      rfl
    · intro i f' s' ef es'
      by_cases hi : i < ss.length
      · rw [List.getElem?_append_left hi] at es'
        exact sok i f' s' ef es'
      · have ei : i = j := by
          have := (List.getElem?_eq_some_iff.mp es').1
          rw [List.length_append] at this
          simp at this
          omega
        subst ei
        rw [List.getElem?_append_right (by omega), ls, Nat.sub_self] at es'
        rw [es] at ef
        cases ef
        cases es'
        exact ok2
  · rintro H' ⟨b1, q1, ss, ls, eG, sok⟩
    rw [ln] at ls q1
    exact k G ss H' b1 (q1.mono (by omega)) ls eG sok
end
end Hx
set_option maxRecDepth 100000
set_option maxHeartbeats 1000000
namespace Hx
open PySem PySem.Spec PyProof.Rows L2
theorem go_tif {c : TT} {ta tb : TE} {σ : L2.St} {H : Hp} {Q : VK} (h : c σ H fun b H1 => if b = true then ta σ H1 Q else tb σ H1 Q) : tIf c ta tb σ H Q := h
theorem tpa_words {K : PySem.W.Frag} {H : Hp} {α : Type} (f : α → Str) : ∀ ss : List α, TpAll K H (ss.map fun s => V.str (f s)) (ss.map fun s => PyData.str (f s))
  | [] => .nil
  | s :: ss => .cons (.str _) (tpa_words f ss)
theorem kindX_at {ks : List KindD} {q : Nat} {kd : KindD} (h : ks[q]? = some kd) : kindX ks q = kd.x := by
  unfold kindX
  rw [h]
  rfl
section
variable {K : PySem.W.Frag} {H : Hp} {p hd : Addr} {c : Int} {people : List Str} {cs : List CellD} {ks : List KindD} {x : Str} {rest : TS} {Z : Ends}
theorem rd_kind {σ : L2.St} {i j : Nat} (e0 : σ[0]? = some (some (.ref p))) (e1 : σ[1]? = some (some (.ref hd))) (ha : HallAt K H hd people cs ks) (k1 : 1 ≤ ks.length) (k3 : ks.length ≤ 3) (hp : Pot H p c) (hc : c ≤ 1800)
    (k : ∀ (q : Nat) (kd : KindD) (af : Addr) (us : List V) (H' : Hp), ks[q]? = some kd → SqT K H' af us → TpAll K H' us (kd.fs.map FieldD.d) → Bar p H H' → Pot H' p (c + 1) → rest Z ((σ.set i (some (.str kd.x))).set j (some (.ref af))) H') :
    tSeq (tAsg (xOf K (xHall "kinds")) (gTup K 2 (gCons (gName i) (gCons (gName j) gNil)))) rest Z σ H := by
  obtain ⟨a, xs, hg, hs, hx⟩ := ha.kin
  have ln := hx.length
  rw [List.length_map] at ln
  refine seq_set (rd_hall e0 e1 hg hs (by omega) (by omega) hp hc fun q v H' ev b p2 => ?_)
  obtain ⟨d, ed, tp⟩ := hx.get ev
  rw [List.getElem?_map] at ed
  obtain ⟨kd, es, rfl⟩ : ∃ kd, ks[q]? = some kd ∧ d = kd.d := by
    cases e : ks[q]? with
    | none => rw [e] at ed; cases ed
    | some kd => rw [e] at ed; exact ⟨kd, rfl, (Option.some.inj ed).symm⟩
  obtain ⟨t, us, rfl, ht, hu⟩ := tp_tup (tp.pot hp b)
  cases hu with
  | cons t1 h2 => cases h2 with
    | cons t2 h3 => cases h3 with
      | nil =>
        cases t1
        obtain ⟨af, ws, rfl, hf, hw⟩ := tp_tup t2
        exact ⟨t, _, rfl, ht, rfl, _, _, rfl, _, _, rfl, rfl, k q kd af ws H' es hf hw b p2⟩
theorem segW5 {aB aT aC aR : Addr} {pick : Int} {ys : List Str} {ts : List TestD} {chs : List ChangeD} {t8 t9 t10 t11 t12 : Option V} (ws : WS K H p hd c people cs ks aB aT aC aR ys ts chs []) (hc : c ≤ 1650) (p3 : people.length ≤ 3) (pw : ∀ x ∈ people, x ≠ "who") (co : CellsOk cs) (k3 : ks.length ≤ 3) (ko : ∀ k ∈ ks, k.ok) (k1 : 1 ≤ pick) (k5 : pick < 5)
    (k : ∀ (aR : Addr) (rs : List RowD) (t8 t9 t10 t11 t12 t13 t14 t15 : Option V) (H' : Hp), rs.length ≤ 2 → (∀ t ∈ rs, t.ok people cs ks pick) → Bar p H H' → WS K H' p hd (c + 16) people cs ks aB aT aC aR ys ts chs rs → rest Z (stW p hd x aB aT pick aC aR t8 t9 t10 t11 t12 t13 t14 t15 none) H') :
    tSeq (w5 K) rest Z (stW p hd x aB aT pick aC aR t8 t9 t10 t11 t12 none none none none) H := by
  have loop : ∀ (n : Nat) (H1 : Hp), n ≤ 2 → (ks = [] → n = 0) → Bar p H H1 → WS K H1 p hd (c + 1) people cs ks aB aT aC aR ys ts chs [] →
      FIt (Itr 0 n) (gName 8) (tSeq (tAsg (xOf K (xHall "kinds")) (gTup K 2 (gCons (gName 13) (gCons (gName 14) gNil)))) (tSeq (tAsg (xLot K) (gName 15)) (tAsg (tOp (rCatA K) (tVar 7) (tTup (tCons (tTup (tCons (tVar 13) (tCons (tCB (rTupOf K) (tCons (tVar 15) tNil)) tNil))) tNil))) (gName 7)))) rest Z (stW p hd x aB aT pick aC aR t8 t9 t10 t11 t12 none none none none) H1 := fun n H1 hn ne b1 w1 => by
    refine fit_range (n := n) (fun i σ H' => ∃ (aR : Addr) (rs : List RowD) (t8 t13 t14 t15 : Option V), σ = stW p hd x aB aT pick aC aR t8 t9 t10 t11 t12 t13 t14 t15 none ∧ rs.length = i ∧ (∀ t ∈ rs, t.ok people cs ks pick) ∧ Bar p H H' ∧ WS K H' p hd (c + 1 + 7 * (i : Nat)) people cs ks aB aT aC aR ys ts chs rs)
      ⟨aR, [], _, _, _, _, rfl, rfl, (fun t ht => by cases ht), b1, w1.bar (Bar.of (Same.refl _)) (w1.pot.mono (by omega))⟩ ?_ ?_
    · rintro i σ H2 hi ⟨aR, rs, t8, t13, t14, t15, rfl, lt, ok, b2, w2⟩
      have kn : 1 ≤ ks.length := by
        cases ks with
        | nil => have := ne rfl; omega
        | cons _ _ => simp
      show tSeq (tAsg (xOf K (xHall "kinds")) (gTup K 2 (gCons (gName 13) (gCons (gName 14) gNil)))) _ _ (stW p hd x aB aT pick aC aR (some (.int (0 + (i : Nat)))) t9 t10 t11 t12 t13 t14 t15 none) H2
      refine rd_kind (p := p) (hd := hd) (c := c + 1 + 7 * (i : Nat)) rfl rfl w2.hall kn k3 w2.pot (by omega) fun q kd af us H3 eq hf hu b3 q3 => ?_
      have w3 := w2.bar b3 q3
      obtain ⟨_, f3, _, fok⟩ := ko kd (List.mem_of_getElem? eq)
      show tSeq (tAsg (xLot K) (gName 15)) _ _ (stW p hd x aB aT pick aC aR (some (.int (0 + (i : Nat)))) t9 t10 t11 t12 (some (.str kd.x)) (some (.ref af)) t15 none) H3
      refine seq_set (lc_lot (p := p) (hd := hd) (pick := pick) (c := c + 1 + 7 * (i : Nat) + 1) rfl rfl rfl rfl rfl hf hu f3 fok w3.pot (by omega) w3.hall p3 pw co.1 k1 k5 fun G ss H4 b4 q4 ls eG sok => ?_)
      have w4 := w3.bar b4 q4
      show tAsg _ _ _ (stW p hd x aB aT pick aC aR (some (.int (0 + (i : Nat)))) t9 t10 t11 t12 (some (.str kd.x)) (some (.ref af)) (some (.ref G)) none) H4
      refine set_go (go_op ⟨_, rfl, go_tup (go_cons (go_tup (go_cons ⟨_, rfl, go_cons (go_cb ⟨_, rfl, G, _, rfl, .inl ⟨SqL.of eG, fun l hl => ⟨sz (by decide : 2 ≤ 1000), fun u hu => ⟨sz (by decide : 1 ≤ 1000), fun o ho => ?_⟩⟩⟩⟩)⟩)))⟩)
      have s5 := same_new hl (.tup (ss.map fun s => V.str (s.w cs)))
      have e5 : SqT K (upd H4 l (.tup (ss.map fun s => V.str (s.w cs)))) l (ss.map fun s => V.str (s.w cs)) := SqT.of upd_same
      generalize upd H4 l (.tup (ss.map fun s => V.str (s.w cs))) = H5 at s5 e5 hu ho
      have s6 := same_new hu (.tup [.str kd.x, .ref l])
      have e6 : SqT K (upd H5 u (.tup [.str kd.x, .ref l])) u [.str kd.x, .ref l] := SqT.of upd_same
      generalize upd H5 u (.tup [.str kd.x, .ref l]) = H6 at s6 e6 ho
      have s7 := same_new ho (.tup [.ref u])
      have e7 : SqT K (upd H6 o (.tup [.ref u])) o [.ref u] := SqT.of upd_same
      generalize upd H6 o (.tup [.ref u]) = H7 at s7 e7
      have w7 := w4.same (s5.trans (s6.trans s7))
      have tu : Tp K H7 (.ref u) (RowD.l cs ks ⟨q, ss⟩) := by
        unfold RowD.l
        rw [kindX_at eq]
        exact .tup (same_sqt s7 e6) (.cons (.str _) (.cons (.tup (same_sqt (s6.trans s7) e5) (tpa_words (Src.w cs) ss)) .nil))
      refine rd_catA w7.rs e7 tu (by rw [List.length_map]; omega) fun r H8 s8 tr => ?_
      have w8 := w7.same s8
      have er : rs.map (RowD.l cs ks) ++ [RowD.l cs ks ⟨q, ss⟩] = (rs ++ [(⟨q, ss⟩ : RowD)]).map (RowD.l cs ks) := by
        rw [List.map_append]
        rfl
      rw [er] at tr
      refine ⟨r, rs ++ [(⟨q, ss⟩ : RowD)], _, _, _, _, rfl, by rw [List.length_append, lt]; rfl, fun t ht => ?_, ?_, ?_⟩
      · rcases List.mem_append.mp ht with ht | ht
        · exact ok t ht
        · rw [List.mem_singleton.mp ht]
          exact ⟨kd, eq, ls, f3, sok⟩
      · exact b2.trans (b3.trans (b4.trans (Bar.of (s5.trans (s6.trans (s7.trans s8))))))
      · exact ⟨w8.pot.mono (by omega), w8.hall, w8.by_, w8.ts, w8.chs, tr⟩
    · rintro σ H2 ⟨aR, rs, t8, t13, t14, t15, rfl, lt, ok, b2, w2⟩
      exact k aR rs t8 t9 t10 t11 t12 t13 t14 t15 H2 (by omega) ok b2 (w2.bar (Bar.of (Same.refl _)) (w2.pot.mono (by omega)))
  obtain ⟨ak, xk, hg, hs, hx⟩ := ws.hall.kin
  refine seq_range (go_tif (go_test (go_op (go_dget ⟨_, rfl, hd, .ref ak, rfl, hg, go_tup ⟨sz (by decide : 0 ≤ 1000), fun a ha => ?_⟩⟩))))
  have s1 := same_new ha (.tup [])
  have w1 := ws.same s1
  refine ⟨.tuple (ks.map KindD.d), .tuple [], Tp.dp (.tup (same_sqt s1 hs) (hx.same s1)), .tup (SqT.of upd_same) .nil, kinds_shaped ko, by decide +kernel, _, rfl, ?_⟩
  rw [kinds_none]
  by_cases e : ks = []
  · rw [decide_eq_true e]
    exact iteF ⟨0, rfl, by decide, by decide, loop 0 _ (by decide) (fun _ => rfl) (Bar.of s1) (w1.bar (Bar.of (Same.refl _)) (w1.pot.mono (by omega)))⟩
  · rw [decide_eq_false e]
    refine iteT (rd_tk (p := p) (c := c) (n := 3) rfl (fun _ q => q) w1.pot (by omega) (by decide) (by decide) fun d H1 d0 d1 b1 q1 => ⟨d, rfl, by omega, by omega, ?_⟩)
    exact loop d.toNat H1 (by omega) (fun z => absurd z e) ((Bar.of s1).trans b1) (w1.bar b1 q1)
end
end Hx
set_option maxRecDepth 100000
set_option maxHeartbeats 1000000
namespace Hx
open PySem PySem.Spec PyProof.Rows L2
section
variable {P : Program} {w : World} {K : PySem.W.Frag} {mg : Str → Option Value} {base : Heap}
theorem ok_wide {f : Addr} {fd : FuncData} (F : Fun K "_law_wide_deed" "_law_wide_deed" sWideDeed f fd) (GT : DefOk P w K mg base "_law_take" 1 ["_law_pot", "_law_upto"] spLTake) (GO : DefOk P w K mg base "_law_of" 2 ["_law_pot", "_law_some"] (spOf K)) (GU : DefOk P w K mg base "_law_unlike" 2 ["_law_pot", "_law_some", "_law_upmost"] (spUnlike K))
    (GW : DefOk P w K mg base "_law_word_for" 3 ["_law_pot", "_law_hall", "_law_pick", "_law_size"] (spWord K)) (ml : mg "len" = none) (mr : mg "range" = none) (mtu : mg "tuple" = none) :
    FnOk P w K mg base CX0 4 f fd ["_law_pot", "_law_hall", "_law_deed"] (spWide K) := by
  refine F.ok scWide (fun vs H Q E h => ?_) (fun cdv A outer s H vs Q E hr h => ?_)
  · obtain ⟨p, hd, c, x, people, cs, ks, rfl, _⟩ := h
    rfl
  obtain ⟨p, hd, c, x, people, cs, ks, rfl, hp, hc, ha, p1, p3, pn, pw, c1, co, k3, ko, hx, k⟩ := h
  have nd := scWide.nd
  have hr1 : Room 1 (A.deeper (envOfC "_law_wide_deed" (defScope sWideDeed) s.heap.objs.size f cdv)) := hr.mono (by decide)
  have hr2 : Room 2 (A.deeper (envOfC "_law_wide_deed" (defScope sWideDeed) s.heap.objs.size f cdv)) := hr.mono (by decide)
  have hu : (A.deeper (envOfC "_law_wide_deed" (defScope sWideDeed) s.heap.objs.size f cdv)).units + 64 < cLine := hr.units
  refine ⟨_, (pss_cons (ps_asg (pe_tup (pa_cons (pe_dget (hu_of hr) (pv 1) pe_str (fun _ _ => rfl)) (pa_cons (pe_tup pa_nil) (pa_cons (pe_D GO hr2 rfl (pa_cons (pv 0) (pa_cons (pe_lst (pa_cons pe_int (pa_cons pe_int (pa_cons pe_int (pa_cons pe_int (pa_cons pe_int pa_nil)))))) pa_nil))) (pa_cons (pe_tup pa_nil) (pa_cons (pe_tup pa_nil) pa_nil))))))
      (pg_tupK K (pgs_cons (pg_name (i := 3) nd rfl (.inl rfl)) (pgs_cons (pg_name (i := 4) nd rfl (.inl rfl)) (pgs_cons (pg_name (i := 5) nd rfl (.inr rfl)) (pgs_cons (pg_name (i := 6) nd rfl (.inl rfl)) (pgs_cons (pg_name (i := 7) nd rfl (.inl rfl)) pgs_nil)))))))
    (pss_cons (ps_if (pt_cmpR op_eq (pe_D GT hr1 rfl (pa_cons (pv 0) (pa_cons pe_int pa_nil))) pe_int (nomark _)) (pss_one (ps_set (i := 3) nd rfl (.inl rfl) (pe_D GU hr2 rfl (pa_cons (pv 0) (pa_cons (pe_dget (hu_of hr) (pv 1) pe_str (fun _ _ => rfl)) (pa_cons (pe_op op_add pe_int (pe_D GT hr1 rfl (pa_cons (pv 0) (pa_cons (pe_callB call_len_seq rfl ml PySem.boot_len (pa_cons (pe_dget (hu_of hr) (pv 1) pe_str (fun _ _ => rfl)) pa_nil)) pa_nil)))) pa_nil)))))) pss_nil)
    (pss_cons (ps_for PassesOwn.never rfl (pi_range1 rfl mr (pa_cons (pe_D GT hr1 rfl (pa_cons (pv 0) (pa_cons pe_int pa_nil))) pa_nil)) (pg_name (i := 8) nd rfl (.inl rfl))
      (pss_cons (ps_asg (pe_D GO hr2 rfl (pa_cons (pv 0) (pa_cons (pe_dget (hu_of hr) (pv 1) pe_str (fun _ _ => rfl)) pa_nil))) (pg_tupK K (pgs_cons (pg_name (i := 9) nd rfl (.inl rfl)) (pgs_cons (pg_name (i := 10) nd rfl (.inl rfl)) (pgs_cons (pg_name (i := 11) nd rfl (.inl rfl)) pgs_nil)))))
      (pss_one (ps_set (i := 4) nd rfl (.inl rfl) (pe_op (op_catAK K) (pv 4) (pe_tup (pa_cons (pe_tup (pa_cons (pv 9) (pa_cons (pe_D GO hr2 rfl (pa_cons (pv 0) (pa_cons (pe_lst (pa_cons pe_str (pa_cons pe_str pa_nil))) pa_nil))) (pa_cons (pe_D GT hr1 rfl (pa_cons (pv 0) (pa_cons (pv 10) pa_nil))) pa_nil)))) pa_nil)))))))
    (pss_cons (ps_for PassesOwn.never rfl (pi_range1 rfl mr (pa_cons (pe_D GT hr1 rfl (pa_cons (pv 0) (pa_cons pe_int pa_nil))) pa_nil)) (pg_name (i := 8) nd rfl (.inl rfl))
      (pss_cons (ps_asg (pe_D GO hr2 rfl (pa_cons (pv 0) (pa_cons (pe_dget (hu_of hr) (pv 1) pe_str (fun _ _ => rfl)) pa_nil))) (pg_tupK K (pgs_cons (pg_name (i := 9) nd rfl (.inl rfl)) (pgs_cons (pg_name (i := 10) nd rfl (.inl rfl)) (pgs_cons (pg_name (i := 11) nd rfl (.inl rfl)) pgs_nil)))))
      (pss_cons (ps_set (i := 12) nd rfl (.inl rfl) (pe_D GW hr rfl (pa_cons (pv 0) (pa_cons (pv 1) (pa_cons (pv 5) (pa_cons (pv 10) pa_nil))))))
      (pss_one (ps_set (i := 6) nd rfl (.inl rfl) (pe_op (op_catAK K) (pv 6) (pe_tup (pa_cons (pe_tup (pa_cons (pe_D GO hr2 rfl (pa_cons (pv 0) (pa_cons (pe_lst (pa_cons pe_str (pa_cons pe_str pa_nil))) pa_nil))) (pa_cons (pv 9) (pa_cons (pv 12) pa_nil)))) pa_nil))))))))
    (pss_cons (ps_for PassesOwn.never rfl (pi_range1 rfl mr (pa_cons (pe_ifExp (pt_cmpR (op_neD hu) (pe_dget (hu_of hr) (pv 1) pe_str (fun _ _ => rfl)) (pe_tup pa_nil) (nomark _)) (pe_D GT hr1 rfl (pa_cons (pv 0) (pa_cons pe_int pa_nil))) pe_int) pa_nil)) (pg_name (i := 8) nd rfl (.inl rfl))
      (pss_cons (ps_asg (pe_D GO hr2 rfl (pa_cons (pv 0) (pa_cons (pe_dget (hu_of hr) (pv 1) pe_str (fun _ _ => rfl)) pa_nil))) (pg_tupK K (pgs_cons (pg_name (i := 13) nd rfl (.inl rfl)) (pgs_cons (pg_name (i := 14) nd rfl (.inl rfl)) pgs_nil))))
      (pss_cons (ps_setLc (i := 15) (own := [("_law_field", 16), ("_law_size", 10)]) (g := gTup K 2 (gCons (gName 16) (gCons (gName 10) gNil))) (tt := tYes) rfl nd rfl rfl (sw_true rfl rfl rfl (by decide +kernel)) (pi_tupK K (pv 14)) (blkOk_by (N := nWide) (sc := defScope sWideDeed) (by decide +kernel)) (fun _ _ _ _ _ => pg_tupK K (pgs_cons (pg_name (i := 16) nd rfl (Or.inl rfl)) (pgs_cons (pg_name (i := 10) nd rfl (Or.inl rfl)) pgs_nil))) (fun _ _ _ _ _ => pts_nil)
        (fun _ _ _ _ _ => pe_D GW hr rfl (pa_cons (pv 0) (pa_cons (pv 1) (pa_cons (pv 5) (pa_cons (pv 10) pa_nil))))))
      (pss_one (ps_set (i := 7) nd rfl (.inl rfl) (pe_op (op_catAK K) (pv 7) (pe_tup (pa_cons (pe_tup (pa_cons (pv 13) (pa_cons (pe_callTy (call_tuple_ofK K) rfl mtu PyProof.Rows.Boot.«tuple» (pa_cons (pv 15) pa_nil)) pa_nil))) pa_nil))))))))
    (pss_one (ps_ret (pe_tup (pa_cons (pv 2) (pa_cons (pv 3) (pa_cons (pv 4) (pa_cons (pv 5) (pa_cons (pv 6) (pa_cons (pv 7) pa_nil)))))))))))))), ?_⟩
  refine segW1 hp (by omega) ha fun aB aT aC aR pick H1 k1 k5 b1 w1 => ?_
  refine segW2 w1 (by omega) p1 p3 pn fun aB ys H2 y1 y3 ynd ysub b2 w2 => ?_
  refine segW3 w2 (by omega) c1 co fun aT ts t8 t9 t10 t11 H3 lt tok b3 w3 => ?_
  refine segW4 w3 (by omega) p3 pw c1 co k1 k5 fun aC chs t8 t9 t10 t11 t12 H4 lc cok b4 w4 => ?_
  refine segW5 w4 (by omega) p3 pw co k3 ko k1 k5 fun aR rs t8 t9 t10 t11 t12 t13 t14 t15 H5 lr rok b5 w5 => ?_
  refine ⟨_, rfl, _, rfl, _, rfl, _, rfl, _, rfl, _, rfl, sz (by decide : 6 ≤ 1000), fun a ha => ?_⟩
  have s6 := same_new ha (.tup [.str x, .ref aB, .ref aT, .int pick, .ref aC, .ref aR])
  have w6 := w5.same s6
  refine k _ ⟨x, byWr people ys, ts, pick, chs, rs⟩ ys _ (b1.trans (b2.trans (b3.trans (b4.trans (b5.trans (Bar.of s6)))))) (w6.pot.mono (by omega)) rfl rfl y1 y3 ynd ysub ?_ ?_
  · refine ⟨hx, ?_, lt, tok, k1, k5, lc, cok, lr, rok⟩
    unfold byWr
    split
    · trivial
    · exact ⟨y1, y3, ynd, ysub⟩
  · exact .tup (SqT.of upd_same) (.cons (.str _) (.cons (.tup w6.by_ (tpa_words (fun y => y) ys)) (.cons w6.ts (.cons (.int _) (.cons w6.chs (.cons w6.rs .nil))))))
end
end Hx
set_option maxRecDepth 100000
set_option maxHeartbeats 1000000
/-! A dict is brought up to another. -/
namespace Hx
open PySem PySem.Spec PyProof.Rows L2
def rDUpd : V → List V → Hp → VK → Prop := fun x vs H Q => ∃ (d o : Addr) (kvs more : List (Key × V)), x = .ref d ∧ vs = [.ref o] ∧ H d = some (.dK kvs) ∧ H o = some (.dK more) ∧ d ≠ o ∧ kvs.length + more.length ≤ sizeLine ∧ Q .non (upd H d (.dK (mergeK kvs more)))
theorem mt_dupd {X : Cx} : MtR X "dict.update" rDUpd := by
  intro pins s σ H x vs v us Q I rx rv h
  obtain ⟨d, o, kvs, more, rfl, rfl, ed, eo, ne, len, q⟩ := h
  cases rx
  cases rv with
  | cons r1 r2 =>
    cases r1
    cases r2
    obtain ⟨z, hd, ks, rel, dd⟩ := dk_of I.hok ed
    obtain ⟨z2, hd2, ms, rel2, dd2⟩ := dk_of I.hok eo
    refine call_meetsIn PySem.F.slot_dict_update dd.typeIs PySem.F.entry_dict_update (PySem.F.args_dict_update_2 _ _) (meets_dict_update (mixKind X.prog X.w) d o ne hd2) ⟨ks, ms, dd, dd2, (by rw [← rel.length, ← rel2.length]; exact len), fun h' dd' _ hs => ?_⟩
    have he : ∃ q, h'.get? d = some q := let ⟨q, _, _, hq, _⟩ := dd'; ⟨q, hq⟩
    have hz : (mergeK kvs more).length ≤ sizeLine := Nat.le_trans (length_mergeK more kvs) len
    exact ⟨.non, _, d_write I (by rw [ed]; exact True.intro) hs he (dk_new hz hd (rel2.merge rel) dd'), rfl, q⟩
end Hx
set_option maxRecDepth 100000
set_option maxHeartbeats 1000000
/-! A drawn house. -/
namespace Hx
open PySem PySem.Spec PyProof.Rows L2
abbrev nWH : List Str := ["_law_pot", "_law_people", "_law_hall", "_law_cells", "_law_kinds", "_law_deeds", "_law_name", "_law_size", "_law_fields", "_law_field"]
theorem scWH : FnScope nWH ["_law_pot"] (defScope sWideHouse) := ⟨rfl, rfl, rfl, by decide +kernel, rfl, by decide +kernel, by decide +kernel⟩
def kv5 (pa ca ka da : Addr) (day : Int) : List (Key × V) := [(Sum.inr "people", .ref pa), (Sum.inr "cells", .ref ca), (Sum.inr "kinds", .ref ka), (Sum.inr "day", .int day), (Sum.inr "deeds", .ref da)]
/-- the hall, whole -/
structure FullHall (K : PySem.W.Frag) (H : Hp) (hd : Addr) (h : HouseD) (yss : List (List Str)) : Prop where
  ex : ∃ (kvs : List (Key × V)) (pa ca ka da : Addr), H hd = some (.dK kvs) ∧ valV kvs (Sum.inr "people") = some (.ref pa) ∧ valV kvs (Sum.inr "cells") = some (.ref ca) ∧ valV kvs (Sum.inr "kinds") = some (.ref ka) ∧ valV kvs (Sum.inr "day") = some (.int h.day) ∧ valV kvs (Sum.inr "deeds") = some (.ref da) ∧
    SqT K H pa (h.people.map V.str) ∧ Tp K H (.ref ca) (.tuple (h.cs.map CellD.d)) ∧ Tp K H (.ref ka) (.tuple (h.ks.map KindD.d)) ∧ Tp K H (.ref da) (.tuple (List.zipWith (DeedD.l h.cs h.ks) h.ds yss))
  kv : ∃ (pa ca ka da : Addr), H hd = some (.dK (kv5 pa ca ka da h.day))
/-- the deeds and the people drawn for each -/
def Drawn (people : List Str) (ds : List DeedD) (yss : List (List Str)) : Prop := yss.length = ds.length ∧ ∀ (i : Nat) (d : DeedD) (ys : List Str), ds[i]? = some d → yss[i]? = some ys → d.by_ = byWr people ys ∧ ys.Nodup ∧ (∀ y ∈ ys, y ∈ people) ∧ 1 ≤ ys.length ∧ ys.length ≤ 9
def spWH (K : PySem.W.Frag) : Sp := fun vs H Q _ => ∃ (p : Addr) (c : Int), vs = [.ref p] ∧ Pot H p c ∧ c ≤ 1000 ∧ ∀ (hd : Addr) (h : HouseD) (yss : List (List Str)) (H' : Hp), Bar p H H' → Pot H' p (c + 240) → h.Ok → (h.ks.map (·.x)).Nodup → Drawn h.people h.ds yss → FullHall K H' hd h yss → Q (.ref hd) H'
end Hx
set_option maxRecDepth 100000
set_option maxHeartbeats 1000000
namespace Hx
open PySem PySem.Spec PyProof.Rows L2
abbrev xUn (K : PySem.W.Frag) (tl tn : TE) : TE := tCall (spUnlike K) [] E0 (tCons (tVar 0) (tCons tl (tCons tn tNil)))
abbrev xUp (m : Int) : TE := tOp rAddI (xI 1) (xTk (xI m))
section
variable {K : PySem.W.Frag} {H : Hp} {p : Addr} {c : Int} {σ : L2.St} {Q : VK}
/-- a number from lo to hi is drawn -/
def NumT (σ : L2.St) (p : Addr) (c : Int) (lo hi : Nat) (tn : TE) : Prop := ∀ (H1 : Hp) (Q1 : VK), Pot H1 p c → (∀ (n : Nat) (H2 : Hp), lo ≤ n → n ≤ hi → Bar p H1 H2 → Pot H2 p (c + 1) → Q1 (.int (n : Nat)) H2) → tn σ H1 Q1
theorem num_up {m : Nat} (e0 : σ[0]? = some (some (.ref p))) (hc : c ≤ 1800) (m1 : 1 ≤ m) (m9 : m ≤ 9) : NumT σ p c 1 m (xUp (m : Nat)) := fun H1 Q1 hp k => by
  refine go_op (rd_tk (p := p) (c := c) (n := (m : Nat)) e0 (fun _ q => q) hp hc (by omega) (by omega) fun d H2 d0 d1 b q => ⟨1, d, rfl, rfl, ?_⟩)
  have e : 1 + d = ((1 + d.toNat : Nat) : Int) := by omega
  show Q1 (.int (1 + d)) H2
  rw [e]
  exact k (1 + d.toNat) H2 (by omega) (by omega) b q
theorem num_tk {m : Nat} (e0 : σ[0]? = some (some (.ref p))) (hc : c ≤ 1800) (m9 : m ≤ 9) : NumT σ p c 0 m (xTk (xI ((m + 1 : Nat) : Int))) := fun H1 Q1 hp k => by
  refine rd_tk (p := p) (c := c) (n := ((m + 1 : Nat) : Int)) e0 (fun _ q => q) hp hc (by omega) (by omega) fun d H2 d0 d1 b q => ?_
  have e : d = ((d.toNat : Nat) : Int) := by omega
  rw [e]
  exact k d.toNat H2 (by omega) (by omega) b q
/-- so many of some names -/
theorem rd_un {tl tn : TE} {xs : List Str} {lo hi : Nat} (e0 : σ[0]? = some (some (.ref p))) (ht : ∀ Q1 : VK, (∀ a H1, Same H H1 → H1 a = some (.lst (xs.map V.str)) → Q1 (.ref a) H1) → tl σ H Q1) (nd : xs.Nodup) (l9 : xs.length ≤ 90) (lh : hi ≤ xs.length) (h9 : hi ≤ 4) (hp : Pot H p c) (hc : c ≤ 1600) (hn : NumT σ p c lo hi tn)
    (k : ∀ (a : Addr) (ys : List Str) (H' : Hp), Bar p H H' → Pot H' p (c + 5) → SqT K H' a (ys.map V.str) → lo ≤ ys.length → ys.length ≤ hi → ys.Nodup → (∀ y ∈ ys, y ∈ xs) → Q (.ref a) H') : xUn K tl tn σ H Q := by
  refine go_call ⟨_, e0, go_cons (ht _ fun l H1 s1 el => go_cons (hn _ _ (hp.same s1) fun n H2 n0 n1 b2 p2 => ?_))⟩
  have nl : l ≠ p := (hp.same s1).off el fun v hv => by
    obtain ⟨y, _, rfl⟩ := List.mem_map.mp hv
    exact ⟨y, rfl⟩
  refine ⟨p, l, c + 1, xs, n, rfl, p2, by omega, .inl (SqL.of (b2 _ _ nl el)), nd, by omega, l9, fun a ys H' b3 p3 hy ly yn ysub => ?_⟩
  exact k a ys H' ((Bar.of s1).trans (b2.trans b3)) (p3.mono (by omega)) hy (by omega) (by omega) yn ysub
end
def stH (p l1 hd lc lk ld : Addr) (t6 t7 t8 t9 : Option V) : L2.St := [some (.ref p), some (.ref l1), some (.ref hd), some (.ref lc), some (.ref lk), some (.ref ld), t6, t7, t8, t9]
def pNames : List Str := ["a", "b", "ann", "it", "night", "people", "abcdefgh"]
abbrev tStrs : List Str → TA
  | [] => tNil
  | s :: r => tCons (tC (.str s)) (tStrs r)
abbrev u1 : TS := tAsg (tLst (tCons (tC (.str "a")) (tCons (tC (.str "b")) (tCons (tC (.str "ann")) (tCons (tC (.str "it")) (tCons (tC (.str "night")) (tCons (tC (.str "people")) (tCons (tC (.str "abcdefgh")) tNil)))))))) (gName 1)
abbrev u2 (K : PySem.W.Frag) : TS := tAsg (tTup (tCons (tDisp [(tC (.str "people"), xUn K (tVar 1) (xUp 3))]) (tCons (tLst tNil) (tCons (tLst tNil) (tCons (tLst tNil) tNil))))) (gTup K 4 (gCons (gName 2) (gCons (gName 3) (gCons (gName 4) (gCons (gName 5) gNil)))))
/-- the hall and the three lists, while the house is drawn -/
structure WH (K : PySem.W.Frag) (H : Hp) (p hd lc lk ld : Addr) (c : Int) (people : List Str) (cs : List CellD) (ks : List KindD) (xc xk : List V) (pa : Addr) : Prop where
  pot : Pot H p c
  hall : H hd = some (.dK [(Sum.inr "people", V.ref pa)])
  peo : SqT K H pa (people.map V.str)
  ec : H lc = some (.lst xc)
  tc : TpAll K H xc (cs.map CellD.d)
  ek : H lk = some (.lst xk)
  tk : TpAll K H xk (ks.map KindD.d)
  ed : H ld = some (.lst [])
  n1 : lc ≠ lk
  n2 : lc ≠ ld
  n3 : lk ≠ ld
  nc : lc ≠ p
  nk : lk ≠ p
  nd : ld ≠ p
section
variable {K : PySem.W.Frag} {H H' : Hp} {p hd lc lk ld l1 pa : Addr} {c c' : Int} {people : List Str} {cs : List CellD} {ks : List KindD} {xc xk : List V} {rest : TS} {Z : Ends}
theorem WH.bar (h : WH K H p hd lc lk ld c people cs ks xc xk pa) (b : Bar p H H') (hp : Pot H' p c') : WH K H' p hd lc lk ld c' people cs ks xc xk pa := by
  obtain ⟨A, B, C, ep, _⟩ := id h.pot
  exact ⟨hp, b _ _ (fun z => by rw [← z, h.hall] at ep; cases ep) h.hall, sqt_pot h.pot b h.peo, b _ _ h.nc h.ec, h.tc.pot h.pot b, b _ _ h.nk h.ek, h.tk.pot h.pot b, b _ _ h.nd h.ed, h.n1, h.n2, h.n3, h.nc, h.nk, h.nd⟩
theorem WH.same (h : WH K H p hd lc lk ld c people cs ks xc xk pa) (s : Same H H') : WH K H' p hd lc lk ld c people cs ks xc xk pa := h.bar (Bar.of s) (h.pot.same s)
theorem fresh_back (b : Bar p H H') (hp : Pot H' p c) {l : Addr} (h : H' l = none) : H l = none ∧ l ≠ p := by
  have n : l ≠ p := fun z => by
    obtain ⟨A, B, C, ep, _⟩ := hp
    rw [← z, h] at ep
    cases ep
  refine ⟨?_, n⟩
  cases e : H l with
  | none => rfl
  | some o =>
    have := b l o n e
    rw [h] at this
    cases this
theorem sqt_dk {d a : Addr} {kvs : List (Key × V)} {xs : List V} {o : HO} (e : H d = some (.dK kvs)) (h : SqT K H a xs) : SqT K (upd H d o) a xs := by
  rcases h with (h | ⟨u, h⟩) | h
  · exact .inl (.inl (by rw [upd_ne (fun z => by rw [z, e] at h; cases h)]; exact h))
  · exact .inl (.inr ⟨u, by rw [upd_ne (fun z => by rw [z, e] at h; cases h)]; exact h⟩)
  · exact .inr h
theorem segH1 (hp : Pot H p c) (hc : c ≤ 1500) (k : ∀ (l1 hd lc lk ld pa : Addr) (people : List Str) (H' : Hp), H hd = none → H lc = none → H lk = none → H ld = none → Bar p H H' → 1 ≤ people.length → people.length ≤ 3 → people.Nodup → (∀ y ∈ people, y ∈ pNames) → WH K H' p hd lc lk ld (c + 5) people [] [] [] [] pa → rest Z (stH p l1 hd lc lk ld none none none none) H') :
    tSeq u1 (tSeq (u2 K) rest) Z (start nWH [V.ref p]) H := by
  refine seq_set (rd_lst (vs := pNames.map V.str) (rda_cons rd_c (rda_cons rd_c (rda_cons rd_c (rda_cons rd_c (rda_cons rd_c (rda_cons rd_c (rda_cons rd_c rda_nil))))))) (by decide) fun l1 H1 s1 e1 => ?_)
  show tSeq (u2 K) rest Z [some (.ref p), some (.ref l1), none, none, none, none, none, none, none, none] H1
  refine seq_set (go_tup (go_cons fun hd hhd => ?_))
  have s2 := same_new hhd (.dK [])
  show xUn K (tVar 1) (xUp 3) _ (upd H1 hd (.dK [])) _
  refine rd_un (K := K) (p := p) (c := c) (xs := pNames) (lo := 1) (hi := 3) rfl (fun Q1 q => ⟨_, rfl, q l1 _ (Same.refl _) (s2 _ _ e1)⟩) (by decide +kernel) (by decide) (by decide) (by decide) (hp.same (s1.trans s2)) (by omega) (num_up (m := 3) rfl (by omega) (by decide) (by decide)) fun pa people H3 b3 p3 hy y1 y3 yn ysub => ?_
  have nhd : hd ≠ p := fun z => by
    obtain ⟨A, B, C, ep, _⟩ := hp.same s1
    rw [← z, hhd] at ep
    cases ep
  have ehd := b3 hd _ nhd upd_same
  refine ⟨ehd, [(Sum.inr "people", V.ref pa)], rfl, by show 1 ≤ 15; decide, ?_⟩
  have b03 : Bar p H H3 := (Bar.of (s1.trans s2)).trans b3
  have h0 := fresh_back (Bar.of s1) (hp.same s1) hhd
  have b04 : Bar p H (upd H3 hd (.dK [(Sum.inr "people", V.ref pa)])) := b03.put h0.1 _
  have p4 : Pot (upd H3 hd (.dK [(Sum.inr "people", V.ref pa)])) p (c + 5) := p3.put nhd _
  have y4 : SqT K (upd H3 hd (.dK [(Sum.inr "people", V.ref pa)])) pa (people.map V.str) := sqt_dk ehd hy
  have e4 : (upd H3 hd (.dK [(Sum.inr "people", V.ref pa)])) hd = some (.dK [(Sum.inr "people", V.ref pa)]) := upd_same
  show tCons (tLst tNil) (tCons (tLst tNil) (tCons (tLst tNil) tNil)) _ (upd H3 hd (.dK [(Sum.inr "people", V.ref pa)])) _
  generalize upd H3 hd (.dK [(Sum.inr "people", V.ref pa)]) = H4 at b04 p4 y4 e4
  refine go_cons (go_lst ⟨sz (by decide : 0 ≤ 1000), fun lc hlc => go_cons (go_lst ⟨sz (by decide : 0 ≤ 1000), fun lk hlk => go_cons (go_lst ⟨sz (by decide : 0 ≤ 1000), fun ld hld => ⟨sz (by decide : 4 ≤ 1000), fun t ht => ?_⟩⟩)⟩)⟩)
  have s5 := same_new hlc (.lst [])
  have e5 : (upd H4 lc (.lst [])) lc = some (.lst []) := upd_same
  generalize upd H4 lc (.lst []) = H5 at s5 e5 hlk hld ht
  have s6 := same_new hlk (.lst [])
  have e6 : (upd H5 lk (.lst [])) lk = some (.lst []) := upd_same
  have n56 : lc ≠ lk := fun z => by rw [← z, e5] at hlk; cases hlk
  generalize upd H5 lk (.lst []) = H6 at s6 e6 hld ht
  have s7 := same_new hld (.lst [])
  have e7 : (upd H6 ld (.lst [])) ld = some (.lst []) := upd_same
  have n57 : lc ≠ ld := fun z => by rw [← z, s6 _ _ e5] at hld; cases hld
  have n67 : lk ≠ ld := fun z => by rw [← z, e6] at hld; cases hld
  generalize upd H6 ld (.lst []) = H7 at s7 e7 ht
  have s8 := same_new ht (.tup [.ref hd, .ref lc, .ref lk, .ref ld])
  have e8 : SqT K (upd H7 t (.tup [.ref hd, .ref lc, .ref lk, .ref ld])) t [.ref hd, .ref lc, .ref lk, .ref ld] := SqT.of upd_same
  generalize upd H7 t (.tup [.ref hd, .ref lc, .ref lk, .ref ld]) = H8 at s8 e8
  have t7 := s7.trans s8
  have t6 := s6.trans t7
  have t5 := s5.trans t6
  have f1 := fresh_back b04 p4 hlc
  have f2 := fresh_back (b04.trans (Bar.of s5)) (p4.same s5) hlk
  have f3 := fresh_back (b04.trans (Bar.of (s5.trans s6))) (p4.same (s5.trans s6)) hld
  refine ⟨t, _, rfl, e8, rfl, _, _, rfl, _, _, rfl, _, _, rfl, _, _, rfl, rfl, ?_⟩
  exact k l1 hd lc lk ld pa people H8 h0.1 f1.1 f2.1 f3.1 (b04.trans (Bar.of t5)) y1 y3 yn ysub ⟨p4.same t5, t5 _ _ e4, same_sqt t5 y4, t6 _ _ e5, .nil, t7 _ _ e6, .nil, s8 _ _ e7, n56, n57, n67, f1.2, f2.2, f3.2⟩
end
end Hx
set_option maxRecDepth 100000
set_option maxHeartbeats 1000000
namespace Hx
open PySem PySem.Spec PyProof.Rows L2
section
variable {K : PySem.W.Frag} {g : TG} {tb rest : TS} {Z : Ends} {σ : L2.St} {H : Hp}
theorem seq_tup {te : TE} (h : te σ H fun x H1 => ∃ a, x = V.ref a ∧ (∃ xs, SqT K H1 a xs) ∧ FIt (Itt K a) g tb rest Z σ H1) : tSeq (tFor (iTup K te) g tb) rest Z σ H := h
theorem fit_tup {a : Addr} {xs : List V} (Pv : Nat → L2.St → Hp → Prop) (h0 : Pv 0 σ H) (hl : ∀ (i : Nat) (σ : L2.St) (H : Hp), i ≤ xs.length → Pv i σ H → SqT K H a xs) (hs : ∀ (i : Nat) (x : V) (σ : L2.St) (H : Hp), xs[i]? = some x → Pv i σ H → g x σ H fun σ2 H2 => tb { nx := Pv (i + 1), rt := Z.rt, bk := rest Z, ct := Pv (i + 1) } σ2 H2) (hd : ∀ σ H, Pv xs.length σ H → rest Z σ H) : FIt (Itt K a) g tb rest Z σ H :=
  for_tup (D := { nx := rest Z, rt := Z.rt, bk := Z.bk, ct := Z.ct }) Pv h0 hl hs hd
/-- one more at a list's end -/
theorem drop_append {i : Nat} {l : Addr} {xs : List V} {ta : TE} (ei : σ[i]? = some (some (.ref l))) (el : H l = some (.lst xs)) (h : ta σ H fun u H1 => H1 l = some (.lst xs) ∧ xs.length < sizeLine ∧ Z.nx σ (upd H1 l (.lst (xs ++ [u])))) : (∀ (Q1 Q2 : VK), (∀ u H1, Q1 u H1 → Q2 u H1) → ta σ H Q1 → ta σ H Q2) → tDrop (tBM K "list" rAppend (tVar i) (tCons ta tNil)) Z σ H := fun mono => by
  refine ⟨_, ei, .inl ⟨rfl, _, SqL.of el⟩, ?_⟩
  refine mono _ _ (fun u H1 q => ?_) h
  exact ⟨l, xs, u, rfl, rfl, q.1, q.2.1, q.2.2⟩
end
def cNames : List Str := ["c", "x", "who", "day", "set", "zzzzzzzz"]
theorem cNames_ok : ∀ x ∈ cNames, nameB x = true ∧ x ≠ "it" := by decide +kernel
abbrev xApp (K : PySem.W.Frag) (i : Nat) (ta : TE) : TS := tDrop (tBM K "list" rAppend (tVar i) (tCons ta tNil))
abbrev u3 (K : PySem.W.Frag) : TS := tFor (iTup K (xUn K (tLst (tCons (tC (.str "c")) (tCons (tC (.str "x")) (tCons (tC (.str "who")) (tCons (tC (.str "day")) (tCons (tC (.str "set")) (tCons (tC (.str "zzzzzzzz")) tNil))))))) (xUp 3))) (gName 6)
  (tSeq (tAsg (tOp rAddI (xI 2) (xTk (xI 3))) (gName 7)) (xApp K 3 (tTup (tCons (tVar 6) (tCons (tVar 7) (tCons (xTk (tVar 7)) tNil))))))
section
variable {K : PySem.W.Frag} {H : Hp} {p hd lc lk ld l1 pa : Addr} {c c' : Int} {people : List Str} {cs : List CellD} {ks : List KindD} {xc xk : List V} {rest : TS} {Z : Ends}
theorem WH.growC (h : WH K H p hd lc lk ld c people cs ks xc xk pa) {u : V} {cd : CellD} (tu : Tp K H u cd.d) : WH K (upd H lc (.lst (xc ++ [u]))) p hd lc lk ld c people (cs ++ [cd]) ks (xc ++ [u]) xk pa :=
  ⟨h.pot.put h.nc _, by rw [upd_ne (fun z => by have := h.hall; rw [z, h.ec] at this; cases this)]; exact h.hall, sqt_lst h.ec h.peo, upd_same, by rw [List.map_append]; exact TpAll.append (h.tc.lst h.ec) (.cons (tu.lst h.ec) .nil), by rw [upd_ne h.n1.symm]; exact h.ek, h.tk.lst h.ec, by rw [upd_ne h.n2.symm]; exact h.ed, h.n1, h.n2, h.n3, h.nc, h.nk, h.nd⟩
theorem segH2 (wh : WH K H p hd lc lk ld c people [] [] [] [] pa) (hc : c ≤ 1500)
    (k : ∀ (cs : List CellD) (xc : List V) (t6 t7 : Option V) (H' : Hp), 1 ≤ cs.length → cs.length ≤ 3 → (cs.map (·.x)).Nodup → (∀ cd ∈ cs, cd.ok) → (∀ q o, q ≠ p → q ≠ lc → H q = some o → H' q = some o) → WH K H' p hd lc lk ld (c + 11) people cs [] xc [] pa → rest Z (stH p l1 hd lc lk ld t6 t7 none none) H') :
    tSeq (u3 K) rest Z (stH p l1 hd lc lk ld none none none none) H := by
  refine seq_tup (rd_un (K := K) (p := p) (c := c) (xs := cNames) (lo := 1) (hi := 3) rfl (fun Q1 q => rd_lst (vs := cNames.map V.str) (rda_cons rd_c (rda_cons rd_c (rda_cons rd_c (rda_cons rd_c (rda_cons rd_c (rda_cons rd_c rda_nil)))))) (by decide) fun a H1 s e => q a H1 s e) (by decide +kernel) (by decide) (by decide) (by decide) wh.pot (by omega) (num_up (m := 3) rfl (by omega) (by decide) (by decide)) fun a ys H1 b1 p1 hy y1 y3 yn ysub => ⟨a, rfl, ⟨_, hy⟩, ?_⟩)
  have w1 := wh.bar b1 p1
  refine fit_tup (xs := ys.map V.str) (fun i σ H' => ∃ (cs : List CellD) (xc : List V) (t6 t7 : Option V), σ = stH p l1 hd lc lk ld t6 t7 none none ∧ cs.map (·.x) = ys.take i ∧ (∀ cd ∈ cs, cd.ok) ∧ (∀ q o, q ≠ p → q ≠ lc → H1 q = some o → H' q = some o) ∧ SqT K H' a (ys.map V.str) ∧ WH K H' p hd lc lk ld (c + 5 + 2 * (i : Nat)) people cs [] xc [] pa)
    ⟨[], [], _, _, rfl, rfl, (fun cd h => by cases h), (fun _ _ _ _ e => e), hy, w1.bar (Bar.of (Same.refl _)) (w1.pot.mono (by omega))⟩ (fun i σ H' _ z => by obtain ⟨_, _, _, _, _, _, _, _, s, _⟩ := z; exact s) ?_ ?_
  · rintro i v σ H2 hi ⟨cs, xc, t6, t7, rfl, ec, ok, fr, sa, w2⟩
    obtain ⟨y, ey, rfl⟩ := str_at hi
    have il : i < ys.length := (List.getElem?_eq_some_iff.mp ey).1
    have lcs : cs.length = i := by
      have := congrArg List.length ec
      rw [List.length_map, List.length_take] at this
      omega
    have lx : xc.length = i := by
      have := w2.tc.length
      rw [List.length_map] at this
      omega
    show tSeq (tAsg (tOp rAddI (xI 2) (xTk (xI 3))) (gName 7)) _ _ (stH p l1 hd lc lk ld (some (.str y)) t7 none none) H2
    refine seq_set (go_op (rd_tk (p := p) (c := c + 5 + 2 * (i : Nat)) (n := 3) rfl (fun _ q => q) w2.pot (by omega) (by decide) (by decide) fun d H3 d0 d1 b3 q3 => ⟨2, d, rfl, rfl, ?_⟩))
    have w3 := w2.bar b3 q3
    show tDrop (tBM K "list" rAppend (tVar 3) _) _ (stH p l1 hd lc lk ld (some (.str y)) (some (.int (2 + d))) none none) H3
    refine ⟨_, rfl, .inl ⟨rfl, _, SqL.of w3.ec⟩, go_cons (go_tup ⟨_, rfl, _, rfl, go_cons ?_⟩)⟩
    refine rd_tk (p := p) (c := c + 5 + 2 * (i : Nat) + 1) (n := 2 + d) (t := tVar 7) rfl (fun _ q => ⟨_, rfl, q⟩) w3.pot (by omega) (by omega) (by omega) fun n H4 n0 n1 b4 q4 => ⟨sz (by decide : 3 ≤ 1000), fun u hu => ?_⟩
    have w4 := w3.bar b4 q4
    have s5 := same_new hu (.tup [.str y, .int (2 + d), .int n])
    have e5 : SqT K (upd H4 u (.tup [.str y, .int (2 + d), .int n])) u [.str y, .int (2 + d), .int n] := SqT.of upd_same
    show tNil _ (upd H4 u (.tup [.str y, .int (2 + d), .int n])) _
    generalize upd H4 u (.tup [.str y, .int (2 + d), .int n]) = H5 at s5 e5
    have w5 := w4.same s5
    have tu : Tp K H5 (.ref u) (CellD.d ⟨y, 2 + d, n⟩) := .tup e5 (.cons (.str _) (.cons (.int _) (.cons (.int _) .nil)))
    refine ⟨lc, xc, .ref u, rfl, rfl, w5.ec, small1000 (by omega), ?_⟩
    have w6 := w5.growC tu
    have b25 : Bar p H2 H5 := b3.trans (b4.trans (Bar.of s5))
    refine ⟨cs ++ [(⟨y, 2 + d, n⟩ : CellD)], xc ++ [.ref u], _, _, rfl, ?_, fun cd h => ?_, fun q o h1 h2 e => ?_, ?_, w6.bar (Bar.of (Same.refl _)) (w6.pot.mono (by omega))⟩
    · rw [List.map_append, ec, List.take_add_one, ey]
      rfl
    · rcases List.mem_append.mp h with h | h
      · exact ok cd h
      · rw [List.mem_singleton.mp h]
        have := cNames_ok y (ysub y (List.mem_of_getElem? ey))
        exact ⟨this.1, this.2, by show 2 ≤ 2 + d; omega, by show 2 + d < 5; omega, n0, n1⟩
    · rw [upd_ne h2]
      exact b25 q o h1 (fr q o h1 h2 e)
    · exact sqt_lst w5.ec (sqt_pot w2.pot b25 sa)
  · rintro σ H2 ⟨cs, xc, t6, t7, rfl, ec, ok, fr, sa, w2⟩
    rw [List.length_map, List.take_length] at ec
    rw [List.length_map] at w2
    have lcs : cs.length = ys.length := by
      have := congrArg List.length ec
      rwa [List.length_map] at this
    exact k cs xc t6 t7 H2 (by omega) (by omega) (by rw [ec]; exact yn) ok (fun q o h1 h2 e => fr q o h1 h2 (b1 q o h1 e)) (w2.bar (Bar.of (Same.refl _)) (w2.pot.mono (by omega)))
end
end Hx
set_option maxRecDepth 100000
set_option maxHeartbeats 1000000
namespace Hx
open PySem PySem.Spec PyProof.Rows L2
def kNames : List Str := ["k", "m", "did", "count", "row", "it"]
def fNames : List Str := ["f", "g", "who", "worth", "field"]
theorem kNames_ok : ∀ x ∈ kNames, nameB x = true := by decide +kernel
theorem fNames_ok : ∀ x ∈ fNames, nameB x = true := by decide +kernel
abbrev u4f (K : PySem.W.Frag) : TS := tFor (iTup K (xUn K (tLst (tCons (tC (.str "f")) (tCons (tC (.str "g")) (tCons (tC (.str "who")) (tCons (tC (.str "worth")) (tCons (tC (.str "field")) tNil)))))) (xTk (xI 4)))) (gName 9)
  (xApp K 8 (tTup (tCons (tVar 9) (tCons (xOf K (tLst (tCons (tC .non) (tCons (xI 2) (tCons (xI 3) (tCons (xI 4) tNil)))))) tNil))))
abbrev u4 (K : PySem.W.Frag) : TS := tFor (iTup K (xUn K (tLst (tCons (tC (.str "k")) (tCons (tC (.str "m")) (tCons (tC (.str "did")) (tCons (tC (.str "count")) (tCons (tC (.str "row")) (tCons (tC (.str "it")) tNil))))))) (xTk (xI 4)))) (gName 6)
  (tSeq (tAsg (tLst tNil) (gName 8)) (tSeq (u4f K) (xApp K 4 (tTup (tCons (tVar 6) (tCons (tCB (rTupOf K) (tCons (tVar 8) tNil)) tNil))))))
/-- all stands but p and l -/
def Fr (p l : Addr) (H H' : Hp) : Prop := ∀ q o, q ≠ p → q ≠ l → H q = some o → H' q = some o
section
variable {K : PySem.W.Frag} {H H' H'' : Hp} {p l : Addr} {c : Int}
theorem Fr.of (b : Bar p H H') : Fr p l H H' := fun q o h1 _ e => b q o h1 e
theorem Fr.trans (f : Fr p l H H') (f2 : Fr p l H' H'') : Fr p l H H'' := fun q o h1 h2 e => f2 q o h1 h2 (f q o h1 h2 e)
theorem Fr.upd (f : Fr p l H H') (o : HO) : Fr p l H (L2.upd H' l o) := fun q u h1 h2 e => by rw [upd_ne h2]; exact f q u h1 h2 e
theorem Fr.sqt (f : Fr p l H H') (hp : Pot H p c) {ys : List V} (el : H l = some (.lst ys)) {a : Addr} {xs : List V} (h : SqT K H a xs) : SqT K H' a xs := by
  obtain ⟨A, B, C, ep, _⟩ := hp
  rcases h with (h | ⟨u, h⟩) | h
  · exact .inl (.inl (f _ _ (fun z => by rw [z, ep] at h; cases h) (fun z => by rw [z, el] at h; cases h) h))
  · exact .inl (.inr ⟨u, f _ _ (fun z => by rw [z, ep] at h; cases h) (fun z => by rw [z, el] at h; cases h) h⟩)
  · exact .inr h
variable {hd lc lk ld l1 pa : Addr} {c' : Int} {people : List Str} {cs : List CellD} {ks : List KindD} {xc xk : List V} {rest : TS} {Z : Ends}
theorem WH.fr (h : WH K H p hd lc lk ld c people cs ks xc xk pa) (f : Fr p l H H') {ys : List V} (el : H l = some (.lst ys)) (n1 : l ≠ lc) (n2 : l ≠ lk) (n3 : l ≠ ld) (hp : Pot H' p c') : WH K H' p hd lc lk ld c' people cs ks xc xk pa := by
  obtain ⟨A, B, C, ep, _⟩ := id h.pot
  have t : ∀ {a xs}, SqT K H a xs → SqT K H' a xs := fun q => f.sqt h.pot el q
  exact ⟨hp, f _ _ (fun z => by rw [← z, h.hall] at ep; cases ep) (fun z => by rw [← z, h.hall] at el; cases el) h.hall, t h.peo, f _ _ h.nc n1.symm h.ec, h.tc.map t, f _ _ h.nk n2.symm h.ek, h.tk.map t, f _ _ h.nd n3.symm h.ed, h.n1, h.n2, h.n3, h.nc, h.nk, h.nd⟩
theorem segF {lf : Addr} {t6 t7 t9 : Option V} (hp : Pot H p c) (hc : c ≤ 1500) (el : H lf = some (.lst [])) (nf : lf ≠ p)
    (k : ∀ (fs : List FieldD) (xf : List V) (t9 : Option V) (H' : Hp), fs.length ≤ 3 → (fs.map (·.x)).Nodup → (∀ f ∈ fs, f.ok) → Fr p lf H H' → Pot H' p (c + 8) → H' lf = some (.lst xf) → TpAll K H' xf (fs.map FieldD.d) → rest Z (stH p l1 hd lc lk ld t6 t7 (some (.ref lf)) t9) H') :
    tSeq (u4f K) rest Z (stH p l1 hd lc lk ld t6 t7 (some (.ref lf)) t9) H := by
  refine seq_tup (rd_un (K := K) (p := p) (c := c) (xs := fNames) (lo := 0) (hi := 3) rfl (fun Q1 q => rd_lst (vs := fNames.map V.str) (rda_cons rd_c (rda_cons rd_c (rda_cons rd_c (rda_cons rd_c (rda_cons rd_c rda_nil))))) (by decide) fun a H1 s e => q a H1 s e) (by decide +kernel) (by decide) (by decide) (by decide) hp (by omega) (num_tk (m := 3) rfl (by omega) (by decide)) fun a ys H1 b1 p1 hy y0 y3 yn ysub => ⟨a, rfl, ⟨_, hy⟩, ?_⟩)
  have el1 := b1 _ _ nf el
  refine fit_tup (xs := ys.map V.str) (fun i σ H' => ∃ (fs : List FieldD) (xf : List V) (t9 : Option V), σ = stH p l1 hd lc lk ld t6 t7 (some (.ref lf)) t9 ∧ fs.map (·.x) = ys.take i ∧ (∀ f ∈ fs, f.ok) ∧ Fr p lf H1 H' ∧ SqT K H' a (ys.map V.str) ∧ Pot H' p (c + 5 + (i : Nat)) ∧ H' lf = some (.lst xf) ∧ TpAll K H' xf (fs.map FieldD.d))
    ⟨[], [], _, rfl, rfl, (fun f h => by cases h), (fun _ _ _ _ e => e), hy, p1.mono (by omega), el1, .nil⟩ (fun i σ H' _ z => by obtain ⟨_, _, _, _, _, _, _, s, _⟩ := z; exact s) ?_ ?_
  · rintro i v σ H2 hi ⟨fs, xf, t9, rfl, ec, ok, fr, sa, p2, e2, tf⟩
    obtain ⟨y, ey, rfl⟩ := str_at hi
    have il : i < ys.length := (List.getElem?_eq_some_iff.mp ey).1
    have lfs : fs.length = i := by
      have := congrArg List.length ec
      rw [List.length_map, List.length_take] at this
      omega
    have lx : xf.length = i := by
      have := tf.length
      rw [List.length_map] at this
      omega
    show tDrop (tBM K "list" rAppend (tVar 8) _) _ (stH p l1 hd lc lk ld t6 t7 (some (.ref lf)) (some (.str y))) H2
    refine ⟨_, rfl, .inl ⟨rfl, _, SqL.of e2⟩, go_cons (go_tup ⟨_, rfl, go_cons ?_⟩)⟩
    refine rd_of (K := K) (p := p) (c := c + 5 + (i : Nat)) (xs := [.non, .int 2, .int 3, .int 4]) rfl (rda_cons rd_c (rda_cons rd_c (rda_cons rd_c (rda_cons rd_c rda_nil)))) (by decide) (by decide) (by decide) p2 (by omega) fun m v H3 ev b3 p3 => ⟨sz (by decide : 2 ≤ 1000), fun u hu => ?_⟩
    obtain ⟨z, zok, rfl⟩ : ∃ z : Option Int, (∀ n, z = some n → 2 ≤ n ∧ n < 5) ∧ v = szV z := by
      have hv := List.mem_of_getElem? ev
      simp only [List.mem_cons, List.not_mem_nil, or_false] at hv
      rcases hv with rfl | rfl | rfl | rfl
      · exact ⟨none, (fun n e => by cases e), rfl⟩
      · exact ⟨some 2, (fun n e => by cases e; decide), rfl⟩
      · exact ⟨some 3, (fun n e => by cases e; decide), rfl⟩
      · exact ⟨some 4, (fun n e => by cases e; decide), rfl⟩
    have s4 := same_new hu (.tup [.str y, szV z])
    have e4 : SqT K (upd H3 u (.tup [.str y, szV z])) u [.str y, szV z] := SqT.of upd_same
    show tNil _ (upd H3 u (.tup [.str y, szV z])) _
    generalize upd H3 u (.tup [.str y, szV z]) = H4 at s4 e4
    have b24 : Bar p H2 H4 := b3.trans (Bar.of s4)
    have e24 := b24 _ _ nf e2
    have tu : Tp K H4 (.ref u) (FieldD.d ⟨y, z⟩) := by
      cases z with
      | none => exact .tup e4 (.cons (.str _) (.cons .non .nil))
      | some z => exact .tup e4 (.cons (.str _) (.cons (.int _) .nil))
    refine ⟨lf, xf, .ref u, rfl, rfl, e24, small1000 (by omega), ?_⟩
    refine ⟨fs ++ [(⟨y, z⟩ : FieldD)], xf ++ [.ref u], _, rfl, ?_, fun f h => ?_, (fr.trans (Fr.of b24)).upd _, sqt_lst e24 (sqt_pot p2 b24 sa), ((p3.same s4).put nf _).mono (by omega), upd_same, ?_⟩
    · rw [List.map_append, ec, List.take_add_one, ey]
      rfl
    · rcases List.mem_append.mp h with h | h
      · exact ok f h
      · rw [List.mem_singleton.mp h]
        exact ⟨fNames_ok y (ysub y (List.mem_of_getElem? ey)), zok⟩
    · rw [List.map_append]
      exact TpAll.append ((tf.pot p2 b24).lst e24) (.cons (tu.lst e24) .nil)
  · rintro σ H2 ⟨fs, xf, t9, rfl, ec, ok, fr, sa, p2, e2, tf⟩
    rw [List.length_map, List.take_length] at ec
    rw [List.length_map] at p2
    have lfs : fs.length = ys.length := by
      have := congrArg List.length ec
      rwa [List.length_map] at this
    exact k fs xf t9 H2 (by omega) (by rw [ec]; exact yn) ok ((Fr.of b1).trans fr) (p2.mono (by omega)) e2 tf
end
end Hx
set_option maxRecDepth 100000
set_option maxHeartbeats 1000000
namespace Hx
open PySem PySem.Spec PyProof.Rows L2
section
variable {K : PySem.W.Frag} {H H' : Hp} {p : Addr} {c : Int} {hd lc lk ld l1 pa : Addr} {c' : Int} {people : List Str} {cs : List CellD} {ks : List KindD} {xc xk : List V} {rest : TS} {Z : Ends}
theorem WH.growK (h : WH K H p hd lc lk ld c people cs ks xc xk pa) {u : V} {kd : KindD} (tu : Tp K H u kd.d) : WH K (upd H lk (.lst (xk ++ [u]))) p hd lc lk ld c people cs (ks ++ [kd]) xc (xk ++ [u]) pa :=
  ⟨h.pot.put h.nk _, by rw [upd_ne (fun z => by have := h.hall; rw [z, h.ek] at this; cases this)]; exact h.hall, sqt_lst h.ek h.peo, by rw [upd_ne h.n1]; exact h.ec, h.tc.lst h.ek, upd_same, by rw [List.map_append]; exact TpAll.append (h.tk.lst h.ek) (.cons (tu.lst h.ek) .nil), by rw [upd_ne h.n3.symm]; exact h.ed, h.n1, h.n2, h.n3, h.nc, h.nk, h.nd⟩
theorem segH3 {t6 t7 : Option V} (wh : WH K H p hd lc lk ld c people cs [] xc [] pa) (hc : c ≤ 1400)
    (k : ∀ (ks : List KindD) (xk : List V) (t6 t8 t9 : Option V) (H' : Hp), ks.length ≤ 3 → (ks.map (·.x)).Nodup → (∀ kd ∈ ks, kd.ok) → Fr p lk H H' → WH K H' p hd lc lk ld (c + 29) people cs ks xc xk pa → rest Z (stH p l1 hd lc lk ld t6 t7 t8 t9) H') :
    tSeq (u4 K) rest Z (stH p l1 hd lc lk ld t6 t7 none none) H := by
  refine seq_tup (rd_un (K := K) (p := p) (c := c) (xs := kNames) (lo := 0) (hi := 3) rfl (fun Q1 q => rd_lst (vs := kNames.map V.str) (rda_cons rd_c (rda_cons rd_c (rda_cons rd_c (rda_cons rd_c (rda_cons rd_c (rda_cons rd_c rda_nil)))))) (by decide) fun a H1 s e => q a H1 s e) (by decide +kernel) (by decide) (by decide) (by decide) wh.pot (by omega) (num_tk (m := 3) rfl (by omega) (by decide)) fun a ys H1 b1 p1 hy y0 y3 yn ysub => ⟨a, rfl, ⟨_, hy⟩, ?_⟩)
  have w1 := wh.bar b1 p1
  refine fit_tup (xs := ys.map V.str) (fun i σ H' => ∃ (ks : List KindD) (xk : List V) (t6 t8 t9 : Option V), σ = stH p l1 hd lc lk ld t6 t7 t8 t9 ∧ ks.map (·.x) = ys.take i ∧ (∀ kd ∈ ks, kd.ok) ∧ Fr p lk H1 H' ∧ SqT K H' a (ys.map V.str) ∧ WH K H' p hd lc lk ld (c + 5 + 8 * (i : Nat)) people cs ks xc xk pa)
    ⟨[], [], _, _, _, rfl, rfl, (fun kd h => by cases h), (fun _ _ _ _ e => e), hy, w1.bar (Bar.of (Same.refl _)) (w1.pot.mono (by omega))⟩ (fun i σ H' _ z => by obtain ⟨_, _, _, _, _, _, _, _, _, s, _⟩ := z; exact s) ?_ ?_
  · rintro i v σ H2 hi ⟨ks, xk, t6, t8, t9, rfl, ec, ok, fr, sa, w2⟩
    obtain ⟨y, ey, rfl⟩ := str_at hi
    have il : i < ys.length := (List.getElem?_eq_some_iff.mp ey).1
    have lks : ks.length = i := by
      have := congrArg List.length ec
      rw [List.length_map, List.length_take] at this
      omega
    have lx : xk.length = i := by
      have := w2.tk.length
      rw [List.length_map] at this
      omega
    show tSeq (tAsg (tLst tNil) (gName 8)) _ _ (stH p l1 hd lc lk ld (some (.str y)) t7 t8 t9) H2
    refine seq_set (go_lst ⟨sz (by decide : 0 ≤ 1000), fun lf hlf => ?_⟩)
    have s3 := same_new hlf (.lst [])
    have e3 : (upd H2 lf (.lst [])) lf = some (.lst []) := upd_same
    have nf := (fresh_back (Bar.of (Same.refl H2)) w2.pot hlf).2
    have m1 : lf ≠ lc := fun z => by rw [z, w2.ec] at hlf; cases hlf
    have m2 : lf ≠ lk := fun z => by rw [z, w2.ek] at hlf; cases hlf
    have m3 : lf ≠ ld := fun z => by rw [z, w2.ed] at hlf; cases hlf
    show tSeq (u4f K) _ _ (stH p l1 hd lc lk ld (some (.str y)) t7 (some (.ref lf)) t9) (upd H2 lf (.lst []))
    generalize upd H2 lf (.lst []) = H3 at s3 e3
    have w3 := w2.same s3
    refine segF (c := c + 5 + 8 * (i : Nat)) w3.pot (by omega) e3 nf fun fs xf t9 H4 f3 fn fok fr4 p4 e4 tf => ?_
    have w4 := w3.fr fr4 e3 m1 m2 m3 p4
    have sa4 := fr4.sqt w3.pot e3 (same_sqt s3 sa)
    show tDrop (tBM K "list" rAppend (tVar 4) _) _ (stH p l1 hd lc lk ld (some (.str y)) t7 (some (.ref lf)) t9) H4
    refine ⟨_, rfl, .inl ⟨rfl, _, SqL.of w4.ek⟩, go_cons (go_tup ⟨_, rfl, go_cons (go_cb ⟨_, rfl, lf, _, rfl, .inl ⟨SqL.of e4, fun l hl => ⟨sz (by decide : 2 ≤ 1000), fun u hu => ?_⟩⟩⟩)⟩)⟩
    have s5 := same_new hl (.tup xf)
    have e5 : SqT K (upd H4 l (.tup xf)) l xf := SqT.of upd_same
    show tNil _ (upd (upd H4 l (.tup xf)) u (.tup [.str y, .ref l])) _
    generalize upd H4 l (.tup xf) = H5 at s5 e5 hu
    have s6 := same_new hu (.tup [.str y, .ref l])
    have e6 : SqT K (upd H5 u (.tup [.str y, .ref l])) u [.str y, .ref l] := SqT.of upd_same
    generalize upd H5 u (.tup [.str y, .ref l]) = H6 at s6 e6
    have w6 := w4.same (s5.trans s6)
    have tu : Tp K H6 (.ref u) (KindD.d ⟨y, fs⟩) := .tup e6 (.cons (.str _) (.cons (.tup (same_sqt s6 e5) (tf.same (s5.trans s6))) .nil))
    refine ⟨lk, xk, .ref u, rfl, rfl, w6.ek, small1000 (by omega), ?_⟩
    have w7 := w6.growK tu
    refine ⟨ks ++ [(⟨y, fs⟩ : KindD)], xk ++ [.ref u], _, _, _, rfl, ?_, fun kd h => ?_, fun q o h1 h2 e => ?_, ?_, w7.bar (Bar.of (Same.refl _)) (w7.pot.mono (by omega))⟩
    · rw [List.map_append, ec, List.take_add_one, ey]
      rfl
    · rcases List.mem_append.mp h with h | h
      · exact ok kd h
      · rw [List.mem_singleton.mp h]
        exact ⟨kNames_ok y (ysub y (List.mem_of_getElem? ey)), f3, fn, fok⟩
    · rw [upd_ne h2]
      have e2 := fr q o h1 h2 e
      exact (s5.trans s6) _ _ (fr4 q o h1 (fun z => by rw [z, hlf] at e2; cases e2) (s3 _ _ e2))
    · exact sqt_lst w6.ek (same_sqt (s5.trans s6) sa4)
  · rintro σ H2 ⟨ks, xk, t6, t8, t9, rfl, ec, ok, fr, sa, w2⟩
    rw [List.length_map, List.take_length] at ec
    rw [List.length_map] at w2
    have lks : ks.length = ys.length := by
      have := congrArg List.length ec
      rwa [List.length_map] at this
    exact k ks xk t6 t8 t9 H2 (by omega) (by rw [ec]; exact yn) ok ((Fr.of b1).trans fr) (w2.bar (Bar.of (Same.refl _)) (w2.pot.mono (by omega)))
end
end Hx
set_option maxRecDepth 100000
set_option maxHeartbeats 1000000
namespace Hx
open PySem PySem.Spec PyProof.Rows L2
def dNames : List Str := ["d", "e", "go", "do", "night", "by"]
theorem dNames_ok : ∀ x ∈ dNames, nameB x = true := by decide +kernel
theorem pNames_ok : ∀ x ∈ pNames, nameB x = true ∧ x ≠ "who" := by decide +kernel
abbrev u5 (K : PySem.W.Frag) : TS := tDrop (tBM K "dict" rDUpd (tVar 2) (tCons (tDisp [(tC (.str "cells"), tCB (rTupOf K) (tCons (tVar 3) tNil)), (tC (.str "kinds"), tCB (rTupOf K) (tCons (tVar 4) tNil)), (tC (.str "day"), xUp 3)]) tNil))
abbrev u6 (K : PySem.W.Frag) : TS := tFor (iTup K (xUn K (tLst (tCons (tC (.str "d")) (tCons (tC (.str "e")) (tCons (tC (.str "go")) (tCons (tC (.str "do")) (tCons (tC (.str "night")) (tCons (tC (.str "by")) tNil))))))) (xUp 4))) (gName 6)
  (xApp K 5 (tCall (spWide K) [] E0 (tCons (tVar 0) (tCons (tVar 2) (tCons (tVar 6) tNil)))))
abbrev u7 (K : PySem.W.Frag) : TS := sDPut (tVar 2) (tC (.str "deeds")) (tCB (rTupOf K) (tCons (tVar 5) tNil))
def kv3 (ca ka : Addr) (day : Int) : List (Key × V) := [(Sum.inr "cells", V.ref ca), (Sum.inr "kinds", V.ref ka), (Sum.inr "day", V.int day)]
def kv4 (pa ca ka : Addr) (day : Int) : List (Key × V) := [(Sum.inr "people", V.ref pa), (Sum.inr "cells", V.ref ca), (Sum.inr "kinds", V.ref ka), (Sum.inr "day", V.int day)]
section
variable {K : PySem.W.Frag} {H H' : Hp} {p : Addr} {c : Int} {hd lc lk ld l1 pa : Addr} {people : List Str} {cs : List CellD} {ks : List KindD} {xc xk : List V} {rest : TS} {Z : Ends} {t6 t7 t8 t9 : Option V}
theorem segH4 (wh : WH K H p hd lc lk ld c people cs ks xc xk pa) (hc : c ≤ 1500)
    (k : ∀ (ca ka : Addr) (day : Int) (H' : Hp), 1 ≤ day → day < 4 → Fr p hd H H' → Pot H' p (c + 1) → H' hd = some (.dK (kv4 pa ca ka day)) → H' ld = some (.lst []) → SqT K H' pa (people.map V.str) → Tp K H' (.ref ca) (.tuple (cs.map CellD.d)) → Tp K H' (.ref ka) (.tuple (ks.map KindD.d)) → rest Z (stH p l1 hd lc lk ld t6 t7 t8 t9) H') :
    tSeq (u5 K) rest Z (stH p l1 hd lc lk ld t6 t7 t8 t9) H := by
  show tDrop (tBM K "dict" rDUpd (tVar 2) _) _ (stH p l1 hd lc lk ld t6 t7 t8 t9) H
  refine ⟨_, rfl, .inr (.inr (.inl ⟨rfl, .inl ⟨_, wh.hall⟩⟩)), go_cons fun d hd' => ?_⟩
  have s1 := same_new hd' (.dK [])
  have e1 : (upd H d (.dK [])) d = some (.dK []) := upd_same
  have ndp := (fresh_back (Bar.of (Same.refl H)) wh.pot hd').2
  have ndh : hd ≠ d := fun z => by have := wh.hall; rw [z, hd'] at this; cases this
  show tCB (rTupOf K) (tCons (tVar 3) tNil) _ (upd H d (.dK [])) _
  generalize upd H d (.dK []) = H1 at s1 e1
  have w1 := wh.same s1
  refine go_cb ⟨_, rfl, lc, xc, rfl, .inl ⟨SqL.of w1.ec, fun ca hca => ?_⟩⟩
  have s2 := same_new hca (.tup xc)
  have e2 : SqT K (upd H1 ca (.tup xc)) ca xc := SqT.of upd_same
  show tCB (rTupOf K) (tCons (tVar 4) tNil) _ (upd H1 ca (.tup xc)) _
  generalize upd H1 ca (.tup xc) = H2 at s2 e2
  have w2 := w1.same s2
  refine go_cb ⟨_, rfl, lk, xk, rfl, .inl ⟨SqL.of w2.ek, fun ka hka => ?_⟩⟩
  have s3 := same_new hka (.tup xk)
  have e3 : SqT K (upd H2 ka (.tup xk)) ka xk := SqT.of upd_same
  show xUp 3 _ (upd H2 ka (.tup xk)) _
  generalize upd H2 ka (.tup xk) = H3 at s3 e3
  have w3 := w2.same s3
  refine num_up (p := p) (c := c) (m := 3) rfl (by omega) (by decide) (by decide) _ _ w3.pot fun day H4 y1 y3 b4 p4 => ?_
  have w4 := w3.bar b4 p4
  have ed4 := b4 d _ ndp (s3 _ _ (s2 _ _ e1))
  have tc4 : Tp K H4 (.ref ca) (.tuple (cs.map CellD.d)) := .tup (sqt_pot w3.pot b4 (same_sqt s3 e2)) w4.tc
  have tk4 : Tp K H4 (.ref ka) (.tuple (ks.map KindD.d)) := .tup (sqt_pot w3.pot b4 e3) w4.tk
  refine ⟨ed4, kv3 ca ka (day : Nat), rfl, by show 3 ≤ 15; decide, ?_⟩
  have em : mergeK [] (kv3 ca ka (day : Nat)) = kv3 ca ka (day : Nat) := by rfl
  have em2 : mergeK [(Sum.inr "people", V.ref pa)] (kv3 ca ka (day : Nat)) = kv4 pa ca ka (day : Nat) := by rfl
  show tNil _ (upd H4 d (.dK (mergeK [] (kv3 ca ka (day : Nat))))) _
  rw [em]
  refine ⟨hd, d, [(Sum.inr "people", V.ref pa)], _, rfl, rfl, by rw [upd_ne ndh]; exact w4.hall, upd_same, ndh, by show 1 + 3 ≤ sizeLine; exact sz (by decide : 4 ≤ 1000), ?_⟩
  rw [em2]
  have f4 : Fr p hd H H4 := Fr.of ((Bar.of (s1.trans (s2.trans s3))).trans b4)
  refine k ca ka (day : Nat) _ (by omega) (by omega) ?_ ((p4.put ndp _).put (fun z => by have := w4.hall; obtain ⟨A, B, C, ep, _⟩ := p4; rw [z, ep] at this; cases this) _) upd_same ?_ ?_ ?_ ?_
  · refine Fr.upd (fun q o h1 h2 e => ?_) _
    rw [upd_ne (fun z => by rw [z, hd'] at e; cases e)]
    exact f4 q o h1 h2 e
  · rw [upd_ne (fun z => by have := w4.hall; rw [← z, w4.ed] at this; cases this), upd_ne (fun z => by rw [← z, w4.ed] at ed4; cases ed4)]
    exact w4.ed
  · exact sqt_dk (by rw [upd_ne ndh]; exact w4.hall) (sqt_dk ed4 w4.peo)
  · exact tc4.map fun q => sqt_dk (by rw [upd_ne ndh]; exact w4.hall) (sqt_dk ed4 q)
  · exact tk4.map fun q => sqt_dk (by rw [upd_ne ndh]; exact w4.hall) (sqt_dk ed4 q)
end
end Hx
set_option maxRecDepth 100000
set_option maxHeartbeats 1000000
namespace Hx
open PySem PySem.Spec PyProof.Rows L2
theorem Drawn.snoc {people : List Str} {ds : List DeedD} {yss : List (List Str)} {d : DeedD} {ys : List Str} (h : Drawn people ds yss) (e : d.by_ = byWr people ys) (nd : ys.Nodup) (sub : ∀ y ∈ ys, y ∈ people) (y1 : 1 ≤ ys.length) (y9 : ys.length ≤ 9) : Drawn people (ds ++ [d]) (yss ++ [ys]) := by
  obtain ⟨l, f⟩ := h
  refine ⟨by simp [l], fun i d' ys' e1 e2 => ?_⟩
  by_cases hi : i < ds.length
  · rw [List.getElem?_append_left hi] at e1
    rw [List.getElem?_append_left (by omega)] at e2
    exact f i d' ys' e1 e2
  · have hj := (List.getElem?_eq_some_iff.mp e1).1
    rw [List.length_append] at hj
    simp at hj
    have ei : i = ds.length := by omega
    subst ei
    rw [List.getElem?_append_right (Nat.le_refl _), Nat.sub_self] at e1
    rw [List.getElem?_append_right (by omega), l, Nat.sub_self] at e2
    cases e1
    cases e2
    exact ⟨e, nd, sub, y1, y9⟩
section
variable {K : PySem.W.Frag} {H H' : Hp} {p l : Addr} {c : Int} {hd lc lk ld l1 pa ca ka : Addr} {day : Int} {people : List Str} {cs : List CellD} {ks : List KindD} {rest : TS} {Z : Ends} {t6 t7 t8 t9 : Option V}
theorem HallAt.fr (h : HallAt K H hd people cs ks) (f : Fr p l H H') (hp : Pot H p c) {ys : List V} (el : H l = some (.lst ys)) : HallAt K H' hd people cs ks := by
  obtain ⟨kvs, pa, ca, ka, e, e1, e2, e3, h1, h2, h3⟩ := h.ex
  obtain ⟨A, B, C, ep, _⟩ := id hp
  have t : ∀ {a xs}, SqT K H a xs → SqT K H' a xs := fun q => f.sqt hp el q
  exact ⟨kvs, pa, ca, ka, f _ _ (fun z => by rw [z, ep] at e; cases e) (fun z => by rw [z, el] at e; cases e) e, e1, e2, e3, t h1, h2.map t, h3.map t⟩
theorem segH5 (hp : Pot H p c) (hc : c ≤ 1300) (ha : HallAt K H hd people cs ks) (ed : H ld = some (.lst [])) (nd : ld ≠ p) (p1 : 1 ≤ people.length) (p3 : people.length ≤ 3) (pn : people.Nodup) (pw : ∀ x ∈ people, x ≠ "who") (c1 : 1 ≤ cs.length) (co : CellsOk cs) (k3 : ks.length ≤ 3) (ko : ∀ k ∈ ks, k.ok)
    (k : ∀ (ds : List DeedD) (yss : List (List Str)) (xd : List V) (t6 : Option V) (H' : Hp), 1 ≤ ds.length → ds.length ≤ 4 → (ds.map (·.x)).Nodup → (∀ d ∈ ds, d.ok people cs ks) → Drawn people ds yss → Fr p ld H H' → Pot H' p (c + 185) → H' ld = some (.lst xd) → TpAll K H' xd (List.zipWith (DeedD.l cs ks) ds yss) → rest Z (stH p l1 hd lc lk ld t6 t7 t8 t9) H') :
    tSeq (u6 K) rest Z (stH p l1 hd lc lk ld t6 t7 t8 t9) H := by
  refine seq_tup (rd_un (K := K) (p := p) (c := c) (xs := dNames) (lo := 1) (hi := 4) rfl (fun Q1 q => rd_lst (vs := dNames.map V.str) (rda_cons rd_c (rda_cons rd_c (rda_cons rd_c (rda_cons rd_c (rda_cons rd_c (rda_cons rd_c rda_nil)))))) (by decide) fun a H1 s e => q a H1 s e) (by decide +kernel) (by decide) (by decide) (by decide) hp (by omega) (num_up (m := 4) rfl (by omega) (by decide) (by decide)) fun a ys H1 b1 q1 hy y1 y4 yn ysub => ⟨a, rfl, ⟨_, hy⟩, ?_⟩)
  have ed1 := b1 _ _ nd ed
  refine fit_tup (xs := ys.map V.str) (fun i σ H' => ∃ (ds : List DeedD) (yss : List (List Str)) (xd : List V) (t6 : Option V), σ = stH p l1 hd lc lk ld t6 t7 t8 t9 ∧ ds.map (·.x) = ys.take i ∧ (∀ d ∈ ds, d.ok people cs ks) ∧ Drawn people ds yss ∧ Fr p ld H1 H' ∧ SqT K H' a (ys.map V.str) ∧ HallAt K H' hd people cs ks ∧ Pot H' p (c + 5 + 45 * (i : Nat)) ∧ H' ld = some (.lst xd) ∧ TpAll K H' xd (List.zipWith (DeedD.l cs ks) ds yss))
    ⟨[], [], [], _, rfl, rfl, (fun d h => by cases h), ⟨rfl, fun i d ys e => by simp at e⟩, (fun _ _ _ _ e => e), hy, ha.pot hp b1, q1.mono (by omega), ed1, .nil⟩ (fun i σ H' _ z => by obtain ⟨_, _, _, _, _, _, _, _, _, s, _⟩ := z; exact s) ?_ ?_
  · rintro i v σ H2 hi ⟨ds, yss, xd, t6, rfl, ec, ok, dr, fr, sa, h2, q2, e2, td⟩
    obtain ⟨y, ey, rfl⟩ := str_at hi
    have il : i < ys.length := (List.getElem?_eq_some_iff.mp ey).1
    have lds : ds.length = i := by
      have := congrArg List.length ec
      rw [List.length_map, List.length_take] at this
      omega
    have lx : xd.length = i := by
      have := td.length
      rw [List.length_zipWith, dr.1] at this
      omega
    show tDrop (tBM K "list" rAppend (tVar 5) _) _ (stH p l1 hd lc lk ld (some (.str y)) t7 t8 t9) H2
    refine ⟨_, rfl, .inl ⟨rfl, _, SqL.of e2⟩, go_cons (go_call ⟨_, rfl, _, rfl, _, rfl, p, hd, c + 5 + 45 * (i : Nat), y, people, cs, ks, rfl, q2, by omega, h2, p1, p3, pn, pw, c1, co, k3, ko, dNames_ok y (ysub y (List.mem_of_getElem? ey)), ?_⟩)⟩
    intro u d zs H3 b3 q3 ex eby z1 z3 znd zsub dok tu
    have e3 := b3 _ _ nd e2
    refine ⟨ld, xd, u, rfl, rfl, e3, small1000 (by omega), ?_⟩
    refine ⟨ds ++ [d], yss ++ [zs], xd ++ [u], _, rfl, ?_, fun d' h => ?_, dr.snoc eby znd zsub z1 (by omega), (fr.trans (Fr.of b3)).upd _, sqt_lst e3 (sqt_pot q2 b3 sa), (h2.pot q2 b3).fr (Fr.upd (p := p) (fun _ _ _ _ e => e) _) q3 e3, (q3.put nd _).mono (by omega), upd_same, ?_⟩
    · rw [List.map_append, ec, List.take_add_one, ey]
      show _ ++ [d.x] = _
      rw [ex]
      rfl
    · rcases List.mem_append.mp h with h | h
      · exact ok d' h
      · rw [List.mem_singleton.mp h]
        exact dok
    · rw [List.zipWith_append dr.1.symm]
      exact TpAll.append ((td.pot q2 b3).lst e3) (.cons (tu.lst e3) .nil)
  · rintro σ H2 ⟨ds, yss, xd, t6, rfl, ec, ok, dr, fr, sa, h2, q2, e2, td⟩
    rw [List.length_map, List.take_length] at ec
    rw [List.length_map] at q2
    have lds : ds.length = ys.length := by
      have := congrArg List.length ec
      rwa [List.length_map] at this
    exact k ds yss xd t6 H2 (by omega) (by omega) (by rw [ec]; exact yn) ok dr ((Fr.of b1).trans fr) (q2.mono (by omega)) e2 td
end
end Hx
set_option maxRecDepth 100000
set_option maxHeartbeats 1000000
namespace Hx
open PySem PySem.Spec PyProof.Rows L2
section
variable {P : Program} {w : World} {K : PySem.W.Frag} {mg : Str → Option Value} {base : Heap}
theorem ok_WH {f : Addr} {fd : FuncData} (F : Fun K "_law_wide_house" "_law_wide_house" sWideHouse f fd) (GT : DefOk P w K mg base "_law_take" 1 ["_law_pot", "_law_upto"] spLTake) (GO : DefOk P w K mg base "_law_of" 2 ["_law_pot", "_law_some"] (spOf K)) (GU : DefOk P w K mg base "_law_unlike" 2 ["_law_pot", "_law_some", "_law_upmost"] (spUnlike K))
    (GW : DefOk P w K mg base "_law_wide_deed" 4 ["_law_pot", "_law_hall", "_law_deed"] (spWide K)) (mtu : mg "tuple" = none) :
    FnOk P w K mg base CX0 5 f fd ["_law_pot"] (spWH K) := by
  refine F.ok scWH (fun vs H Q E h => ?_) (fun cdv A outer s H vs Q E hr h => ?_)
  · obtain ⟨p, c, rfl, _⟩ := h
    rfl
  obtain ⟨p, c, rfl, hp, hc, k⟩ := h
  have nd := scWH.nd
  have hr1 : Room 1 (A.deeper (envOfC "_law_wide_house" (defScope sWideHouse) s.heap.objs.size f cdv)) := hr.mono (by decide)
  have hr2 : Room 2 (A.deeper (envOfC "_law_wide_house" (defScope sWideHouse) s.heap.objs.size f cdv)) := hr.mono (by decide)
  refine ⟨_, (pss_cons (ps_set (i := 1) nd rfl (.inl rfl) (pe_lst (pa_cons pe_str (pa_cons pe_str (pa_cons pe_str (pa_cons pe_str (pa_cons pe_str (pa_cons pe_str (pa_cons pe_str pa_nil)))))))))
    (pss_cons (ps_asg (pe_tup (pa_cons (pe_disp (pps_cons pe_str (pe_D GU hr2 rfl (pa_cons (pv 0) (pa_cons (pv 1) (pa_cons (pe_op op_add pe_int (pe_D GT hr1 rfl (pa_cons (pv 0) (pa_cons pe_int pa_nil)))) pa_nil)))) pps_nil) (by rfl) (by rfl) (fun z => by cases z) (by decide)) (pa_cons (pe_lst pa_nil) (pa_cons (pe_lst pa_nil) (pa_cons (pe_lst pa_nil) pa_nil)))))
      (pg_tupK K (pgs_cons (pg_name (i := 2) nd rfl (.inl rfl)) (pgs_cons (pg_name (i := 3) nd rfl (.inl rfl)) (pgs_cons (pg_name (i := 4) nd rfl (.inl rfl)) (pgs_cons (pg_name (i := 5) nd rfl (.inl rfl)) pgs_nil))))))
    (pss_cons (ps_for PassesOwn.never rfl (pi_tupK K (pe_D GU hr2 rfl (pa_cons (pv 0) (pa_cons (pe_lst (pa_cons pe_str (pa_cons pe_str (pa_cons pe_str (pa_cons pe_str (pa_cons pe_str (pa_cons pe_str pa_nil))))))) (pa_cons (pe_op op_add pe_int (pe_D GT hr1 rfl (pa_cons (pv 0) (pa_cons pe_int pa_nil)))) pa_nil))))) (pg_name (i := 6) nd rfl (.inl rfl))
      (pss_cons (ps_set (i := 7) nd rfl (.inl rfl) (pe_op op_add pe_int (pe_D GT hr1 rfl (pa_cons (pv 0) (pa_cons pe_int pa_nil)))))
      (pss_one (ps_expr (pe_bm PySem.F.plainAttrs_list PySem.F.slot_list_append PySem.F.type_list_append mt_append (pv 3) (pa_cons (pe_tup (pa_cons (pv 6) (pa_cons (pv 7) (pa_cons (pe_D GT hr1 rfl (pa_cons (pv 0) (pa_cons (pv 7) pa_nil))) pa_nil)))) pa_nil))))))
    (pss_cons (ps_for PassesOwn.never rfl (pi_tupK K (pe_D GU hr2 rfl (pa_cons (pv 0) (pa_cons (pe_lst (pa_cons pe_str (pa_cons pe_str (pa_cons pe_str (pa_cons pe_str (pa_cons pe_str (pa_cons pe_str pa_nil))))))) (pa_cons (pe_D GT hr1 rfl (pa_cons (pv 0) (pa_cons pe_int pa_nil))) pa_nil))))) (pg_name (i := 6) nd rfl (.inl rfl))
      (pss_cons (ps_set (i := 8) nd rfl (.inl rfl) (pe_lst pa_nil))
      (pss_cons (ps_for PassesOwn.never rfl (pi_tupK K (pe_D GU hr2 rfl (pa_cons (pv 0) (pa_cons (pe_lst (pa_cons pe_str (pa_cons pe_str (pa_cons pe_str (pa_cons pe_str (pa_cons pe_str pa_nil)))))) (pa_cons (pe_D GT hr1 rfl (pa_cons (pv 0) (pa_cons pe_int pa_nil))) pa_nil))))) (pg_name (i := 9) nd rfl (.inl rfl))
        (pss_one (ps_expr (pe_bm PySem.F.plainAttrs_list PySem.F.slot_list_append PySem.F.type_list_append mt_append (pv 8) (pa_cons (pe_tup (pa_cons (pv 9) (pa_cons (pe_D GO hr2 rfl (pa_cons (pv 0) (pa_cons (pe_lst (pa_cons pe_non (pa_cons pe_int (pa_cons pe_int (pa_cons pe_int pa_nil))))) pa_nil))) pa_nil))) pa_nil)))))
      (pss_one (ps_expr (pe_bm PySem.F.plainAttrs_list PySem.F.slot_list_append PySem.F.type_list_append mt_append (pv 4) (pa_cons (pe_tup (pa_cons (pv 6) (pa_cons (pe_callTy (call_tuple_ofK K) rfl mtu PyProof.Rows.Boot.«tuple» (pa_cons (pv 8) pa_nil)) pa_nil))) pa_nil)))))))
    (pss_cons (ps_expr (pe_bm PySem.F.plainAttrs_dict PySem.F.slot_dict_update PySem.F.type_dict_update mt_dupd (pv 2) (pa_cons (pe_disp (pps_cons pe_str (pe_callTy (call_tuple_ofK K) rfl mtu PyProof.Rows.Boot.«tuple» (pa_cons (pv 3) pa_nil)) (pps_cons pe_str (pe_callTy (call_tuple_ofK K) rfl mtu PyProof.Rows.Boot.«tuple» (pa_cons (pv 4) pa_nil)) (pps_cons pe_str (pe_op op_add pe_int (pe_D GT hr1 rfl (pa_cons (pv 0) (pa_cons pe_int pa_nil)))) pps_nil))) (by rfl) (by rfl) (fun z => by cases z) (by decide)) pa_nil)))
    (pss_cons (ps_for PassesOwn.never rfl (pi_tupK K (pe_D GU hr2 rfl (pa_cons (pv 0) (pa_cons (pe_lst (pa_cons pe_str (pa_cons pe_str (pa_cons pe_str (pa_cons pe_str (pa_cons pe_str (pa_cons pe_str pa_nil))))))) (pa_cons (pe_op op_add pe_int (pe_D GT hr1 rfl (pa_cons (pv 0) (pa_cons pe_int pa_nil)))) pa_nil))))) (pg_name (i := 6) nd rfl (.inl rfl))
      (pss_one (ps_expr (pe_bm PySem.F.plainAttrs_list PySem.F.slot_list_append PySem.F.type_list_append mt_append (pv 5) (pa_cons (pe_D GW hr rfl (pa_cons (pv 0) (pa_cons (pv 2) (pa_cons (pv 6) pa_nil)))) pa_nil)))))
    (pss_cons (ps_dput (hu_of hr) (pv 2) pe_str (pe_callTy (call_tuple_ofK K) rfl mtu PyProof.Rows.Boot.«tuple» (pa_cons (pv 5) pa_nil)) rfl)
    (pss_one (ps_ret (pv 2)))))))))), ?_⟩
  refine segH1 hp (by omega) fun l1 hd lc lk ld pa people H1 n0 n1 n2 n3 b1 p1 p3 pn psub w1 => ?_
  have pw : ∀ x ∈ people, x ≠ "who" := fun x hx => (pNames_ok x (psub x hx)).2
  refine segH2 w1 (by omega) fun cs xc t6 t7 H2 c1 c3 cn cok f2 w2 => ?_
  refine segH3 w2 (by omega) fun ks xk t6 t8 t9 H3 k3 kn kok f3 w3 => ?_
  refine segH4 w3 (by omega) fun ca ka day H4 y1 y4 f4 q4 eh el sp tc tk => ?_
  have ha : HallAt K H4 hd people cs ks := ⟨kv4 pa ca ka day, pa, ca, ka, eh, rfl, rfl, rfl, sp, tc, tk⟩
  refine segH5 q4 (by omega) ha el w3.nd p1 p3 pn pw c1 ⟨c3, cok, cn⟩ k3 kok fun ds yss xd t6 H5 d1 d4 dn dok dr f5 q5 e5 td => ?_
  have nhp : hd ≠ p := fun z => by
    obtain ⟨A, B, C, ep, _⟩ := q4
    rw [z, ep] at eh
    cases eh
  have eh5 : H5 hd = some (.dK (kv4 pa ca ka day)) := f5 hd _ nhp (fun z => by rw [z, el] at eh; cases eh) eh
  have t5 : ∀ {a xs}, SqT K H4 a xs → SqT K H5 a xs := fun q => f5.sqt q4 el q
  show tSeq (u7 K) _ _ (stH p l1 hd lc lk ld t6 t7 t8 t9) H5
  refine ⟨_, rfl, ld, xd, rfl, .inl ⟨SqL.of e5, fun l hl => ?_⟩⟩
  have s6 := same_new hl (.tup xd)
  have e6 : SqT K (upd H5 l (.tup xd)) l xd := SqT.of upd_same
  have eh6 := s6 _ _ eh5
  refine ⟨_, rfl, hd, _, rfl, DPut.k (k := Sum.inr "deeds") eh6 (by show 4 < sizeLine; decide), ?_⟩
  have q6 := q5.same s6
  have td6 := td.same s6
  generalize upd H5 l (.tup xd) = H6 at s6 e6 eh6 q6 td6
  refine ⟨_, rfl, k hd ⟨people, cs, ks, ds, day⟩ yss _ (fun q o nq e => ?_) ((q6.put nhp _).mono (by omega)) ?_ kn dr ?_⟩
  · have m0 : q ≠ hd := fun z => by rw [z, n0] at e; cases e
    have m1 : q ≠ lc := fun z => by rw [z, n1] at e; cases e
    have m2 : q ≠ lk := fun z => by rw [z, n2] at e; cases e
    have m3 : q ≠ ld := fun z => by rw [z, n3] at e; cases e
    rw [upd_ne m0]
    exact s6 _ _ (f5 q o nq m3 (f4 q o nq m0 (f3 q o nq m2 (f2 q o nq m1 (b1 q o nq e)))))
  · exact ⟨p1, p3, pn, fun x hx => pNames_ok x (psub x hx), c1, ⟨c3, cok, cn⟩, k3, kok, kn, d1, d4, dok, dn, y1, y4⟩
  · have t7 : ∀ {a xs}, SqT K H6 a xs → SqT K (upd H6 hd (.dK (putK (kv4 pa ca ka day) (Sum.inr "deeds") (.ref l)))) a xs := fun q => sqt_dk eh6 q
    exact ⟨⟨_, pa, ca, ka, l, upd_same, rfl, rfl, rfl, rfl, rfl, t7 (same_sqt s6 (t5 sp)), ((tc.map t5).same s6).map t7, ((tk.map t5).same s6).map t7, (Tp.tup e6 td6).map t7⟩, ⟨pa, ca, ka, l, upd_same⟩⟩
end
end Hx
set_option maxRecDepth 100000
set_option maxHeartbeats 1000000
/-! The page of a house. -/
namespace Hx
open PySem PySem.Spec PyProof.Rows L2
theorem pe_joinK {X : Cx} (K : PySem.W.Frag) {o e : Expr} {es : List Expr} {to : TE} {t : TA} {apos cpos : Pos} (ho : PE X o to) (ha : PA X (e :: es) t)
    (h : X.K = K := by rfl)
    (hbase : attributeBase o "join" X.env (eval o X.env) = eval o X.env := by rfl)
    (hfew : ((backTo cpos (starEach (e :: es) X.env)).all (fun x => !x.1) && (backToKw cpos (keywordEach [] X.env)).all (fun x => x.1.isSome)
      && decide ((e :: es).length + ([] : List Keyword).length + (if ([] : List Keyword).isEmpty then 0 else 1) < 30)) = true := by rfl)
    (hline : (apos.endLine == cpos.line) = true := by rfl) (hs : starEach (e :: es) X.env = (false, eval e X.env) :: starEach es X.env := by rfl) (hplain : (backTo cpos (starEach es X.env)).any (·.1) = false := by rfl) :
    PE X (.Call (.Attribute o "join" apos) (e :: es) [] cpos) (tBM K "str" (rJoin K) to t) := by
  subst h
  exact pe_bm PySem.F.plainAttrs_str PySem.F.slot_str_join PySem.F.type_str_join mt_joinK ho ha hbase hfew hline hs hplain
abbrev nPage : List Str := ["_law_hall", "_law_parts", "_law_name", "_law_size", "_law_fields", "_law_field", "_law_by", "_law_tests", "_law_pick", "_law_changes_here", "_law_rows", "_law_first", "_law_cell", "_law_sign", "_law_worth", "_law_change", "_law_kind", "_law_lot"]
theorem scPage : FnScope nPage ["_law_hall"] (defScope sPage) := ⟨rfl, rfl, rfl, by decide +kernel, rfl, by decide +kernel, by decide +kernel⟩
def spPage (K : PySem.W.Frag) : Sp := fun vs H Q _ => ∃ (hd : Addr) (h : HouseD) (yss : List (List Str)), vs = [.ref hd] ∧ h.Ok ∧ Drawn h.people h.ds yss ∧ FullHall K H hd h yss ∧ ∀ H', Same H H' → Q (.str (Str.join "\n" (h.page.map Rw.text))) H'
end Hx
set_option maxRecDepth 100000
set_option maxHeartbeats 1000000
/-! Lines of the page, as texts. -/
namespace Hx
open PySem PySem.Spec PyProof.Rows L2
theorem str_nil (s : Str) : Str.empty ++ s = s := TL.ext_tl (by rw [TL.tl_append]; rfl)
theorem join2 (x y : Str) (r : List Str) : Str.join " " (x :: y :: r) = x ++ (" " ++ Str.join " " (y :: r)) := by rw [join_cons, str_assoc]
theorem line_in {pre : Str} {d : Bool} {w0 w1 : Str} {r : List Str} (lit : pre = pad d ++ (w0 ++ " ")) : pre ++ Str.join " " (w1 :: r) = (⟨d, w0 :: w1 :: r⟩ : Rw).text := by
  show _ = pad d ++ Str.join " " (w0 :: w1 :: r)
  rw [lit, join2, str_assoc, str_assoc]
theorem line_out {ws : List Str} : Str.join " " ws = (⟨false, ws⟩ : Rw).text := (str_nil _).symm
theorem line_pad {ws : List Str} : ("  " : Str) ++ Str.join " " ws = (⟨true, ws⟩ : Rw).text := rfl
theorem p_people : ("people " : Str) = pad false ++ ("people" ++ " ") := by decide +kernel
theorem p_kind : ("kind " : Str) = pad false ++ ("kind" ++ " ") := by decide +kernel
theorem p_deed : ("deed " : Str) = pad false ++ ("deed" ++ " ") := by decide +kernel
theorem p_day : ("day " : Str) = pad false ++ ("day" ++ " ") := by decide +kernel
theorem p_by : ("  by " : Str) = pad true ++ ("by" ++ " ") := by decide +kernel
theorem p_if : ("  if " : Str) = pad true ++ ("if" ++ " ") := by decide +kernel
theorem p_pick : ("  pick " : Str) = pad true ++ ("pick" ++ " ") := by decide +kernel
theorem p_who : ("  who " : Str) = pad true ++ ("who" ++ " ") := by decide +kernel
theorem p_worth : ("  worth " : Str) = pad true ++ ("worth" ++ " ") := by decide +kernel
theorem line_worth {x n : Str} : ("  worth " : Str) ++ x ++ " " ++ n = (⟨true, ["worth", x, n]⟩ : Rw).text := by
  rw [← line_in p_worth, join2, str_assoc, str_assoc]
  rfl
theorem join_len (y : Str) : ∀ xs : List Str, (Str.join y xs).length ≤ (xs.map (·.length)).sum + xs.length * y.length
  | [] => by
    show Str.empty.length ≤ _
    exact Nat.zero_le _
  | [x] => by
    show x.length ≤ _
    simp
  | x :: z :: r => by
    have ih := join_len y (z :: r)
    show (x ++ y ++ Str.join y (z :: r)).length ≤ _
    rw [len_add, len_add, List.map_cons, List.sum_cons, List.length_cons, Nat.succ_mul]
    omega
theorem sum_len {m : Nat} : ∀ xs : List Str, (∀ x ∈ xs, x.length ≤ m) → (xs.map (·.length)).sum ≤ m * xs.length
  | [], _ => by simp
  | x :: r, h => by
    have ih := sum_len r fun y hy => h y (List.mem_cons_of_mem _ hy)
    have a := h x (List.mem_cons_self ..)
    rw [List.map_cons, List.sum_cons, List.length_cons, Nat.mul_succ]
    omega
theorem sp_len : (" " : Str).length = 1 := by decide +kernel
/-- few short words -/
theorem join_short {ws : List Str} (h : ∀ x ∈ ws, x.length ≤ 8) (l : ws.length ≤ 9) : (Str.join " " ws).length ≤ 90 ∧ (ws.map (·.length)).sum + ws.length * (" " : Str).length ≤ 90 := by
  have a := join_len " " ws
  have b := sum_len ws h
  rw [sp_len] at a ⊢
  omega
section
variable {K : PySem.W.Frag} {σ : L2.St} {H : Hp} {Q : VK} {Z : Ends}
/-- words joined, out of a written list -/
theorem rd_words {ta : TA} {ws : List Str} (ha : RdA ta σ (ws.map V.str)) (h : ∀ x ∈ ws, x.length ≤ 8) (l : ws.length ≤ 9) : RdS (tBM K "str" (rJoin K) (tC (.str " ")) (tCons (tLst ta) tNil)) σ (.str (Str.join " " ws)) := by
  have b := join_short h l
  rw [← TL.join_eq]
  exact rd_join ha (by omega) (by omega)
/-- words joined, out of a tuple that stands -/
theorem rd_joinT {td : TE} {a : Addr} {ws : List Str} {H1 : Hp} (e : ∀ (Q : VK), Q (.ref a) H1 → td σ H1 Q) (hs : SqT K H1 a (ws.map V.str)) (h : ∀ x ∈ ws, x.length ≤ 8) (l : ws.length ≤ 9) (k : Q (.str (Str.join " " ws)) H1) : tBM K "str" (rJoin K) (tC (.str " ")) (tCons td tNil) σ H1 Q := by
  have b := join_short h l
  refine ⟨rfl, e _ ⟨" ", a, ws, rfl, rfl, .inr hs, by omega, ?_⟩⟩
  rw [TL.join_eq]
  exact k
theorem rd_pre {ta : TE} {pre : Str} {d : Bool} {w0 w1 : Str} {r : List Str} (lit : pre = pad d ++ (w0 ++ " ")) (lp : pre.length ≤ 9) (ha : RdS ta σ (.str (Str.join " " (w1 :: r)))) (l : (Str.join " " (w1 :: r)).length ≤ 90) : RdS (tOp rStrAdd (tC (.str pre)) ta) σ (.str (⟨d, w0 :: w1 :: r⟩ : Rw).text) := by
  rw [← line_in lit]
  exact rd_add rd_c ha (by omega)
def RdH (t : TE) (σ : L2.St) (H : Hp) (v : V) : Prop := ∀ Q : VK, (∀ H', Same H H' → Q v H') → t σ H Q
theorem RdS.h {t : TE} {v : V} (h : RdS t σ v) : RdH t σ H v := fun Q k => h H Q k
/-- one more line at the list's end -/
theorem app_line {ta : TE} {lp : Addr} {rows : List Rw} {r : Rw} (e1 : σ[1]? = some (some (.ref lp))) (hp : H lp = some (.lst (rows.map fun r => V.str r.text))) (few : rows.length ≤ 500) (ha : RdH ta σ H (.str r.text)) (k : ∀ H1, (Same H H1) → Z.nx σ (upd H1 lp (.lst ((rows ++ [r]).map fun r => V.str r.text)))) : xApp K 1 ta Z σ H := by
  refine ⟨_, e1, .inl ⟨rfl, _, SqL.of hp⟩, go_cons (ha _ fun H1 s1 => ?_)⟩
  refine ⟨lp, _, _, rfl, rfl, s1 _ _ hp, small1000 (by rw [List.length_map]; omega), ?_⟩
  have e : (rows.map fun r => V.str r.text) ++ [V.str r.text] = (rows ++ [r]).map fun r => V.str r.text := by rw [List.map_append]; rfl
  rw [e]
  exact k H1 s1
/-- lines, one for each item of a tuple -/
theorem lc_lines {td te : TE} {g : TG} {vs : List Nat} {a : Addr} {xs : List V} {rs : List Rw} (ed : ∀ (Q : VK), Q (.ref a) H → td σ H Q) (hs : SqT K H a xs) (ln : xs.length = rs.length) (few : rs.length ≤ 500)
    (item : ∀ (i : Nat) (x : V) (r : Rw) (H1 : Hp) (q : L2.St → Hp → Prop), xs[i]? = some x → rs[i]? = some r → Same H H1 → (∀ σ2, wipe σ2 vs = wipe σ vs → RdH te σ2 H1 (.str r.text) → q σ2 H1) → g x (wipe σ vs) H1 q)
    (k : ∀ G H', Same H H' → H G = none → H' G = some (.lst (rs.map fun r => V.str r.text)) → Q (.ref G) H') : tLc (iTup K td) g tYes te vs σ H Q := by
  refine ed _ ⟨a, rfl, ⟨_, hs⟩, fun G hG => lc_tup (xs := xs) (fun j H' => Same H H' ∧ H' G = some (.lst ((rs.take j).map fun r => V.str r.text))) ⟨same_new hG _, upd_same⟩ (fun i H' _ q => same_sqt q.1 hs) ?_ ?_⟩
  · rintro j x H1 hj ⟨sm, eG⟩
    have hjl := (List.getElem?_eq_some_iff.mp hj).1
    have er : rs[j]? = some rs[j] := List.getElem?_eq_getElem (by omega)
    refine item j x _ H1 _ hj er sm fun σ2 w ha => ⟨w, yes (ha _ fun H2 s2 => ?_)⟩
    refine ⟨_, s2 _ _ eG, ?_, same_grow hG (sm.trans s2), ?_⟩
    · rw [List.length_map, List.length_take]
      exact small1000 (by omega)
    · rw [upd_same, List.take_add_one, er, List.map_append]
      rfl
  · rintro H' ⟨sm, eG⟩
    rw [ln, List.take_length] at eG
    exact k G H' sm hG eG
/-- more lines at the list's end -/
theorem ext_lines {tl : TE} {lp : Addr} {rows rs : List Rw} (e1 : σ[1]? = some (some (.ref lp))) (hp : H lp = some (.lst (rows.map fun r => V.str r.text))) (few : rows.length + rs.length ≤ 900) (hl : ∀ Q1 : VK, (∀ G H', Same H H' → H G = none → H' G = some (.lst (rs.map fun r => V.str r.text)) → Q1 (.ref G) H') → tl σ H Q1)
    (k : ∀ H1, Same H H1 → Z.nx σ (upd H1 lp (.lst ((rows ++ rs).map fun r => V.str r.text)))) : tDrop (tBM K "list" rExtend (tVar 1) (tCons tl tNil)) Z σ H := by
  refine ⟨_, e1, .inl ⟨rfl, _, SqL.of hp⟩, go_cons (hl _ fun G H1 s1 _ eG => ?_)⟩
  refine ⟨lp, G, _, _, rfl, rfl, s1 _ _ hp, eG, sz (by rw [List.length_map, List.length_map]; omega), ?_⟩
  rw [← List.map_append]
  exact k H1 s1
end
end Hx
set_option maxRecDepth 100000
set_option maxHeartbeats 1000000
namespace Hx
open PySem PySem.Spec PyProof.Rows L2
abbrev rIsN : R2 := fun x y H Q => y = V.non ∧ Q (V.bl (decide (x = V.non))) H
abbrev xJoin (K : PySem.W.Frag) (t : TE) : TE := tBM K "str" (rJoin K) (tC (.str " ")) (tCons t tNil)
abbrev xHp (s : Str) : TE := tDGet (tVar 0) (tC (.str s))
abbrev xNum (i : Nat) : TE := tCB rStrI (tCons (tVar i) tNil)
abbrev v1 (K : PySem.W.Frag) : TS := tAsg (tLst (tCons (tOp rStrAdd (tC (.str "people ")) (xJoin K (xHp "people"))) tNil)) (gName 1)
abbrev v2 (K : PySem.W.Frag) : TS := tDrop (tBM K "list" rExtend (tVar 1) (tCons (tLc (iTup K (xHp "cells")) (gTup K 3 (gCons (gName 2) (gCons (gName 3) (gCons (gName 11) gNil)))) tYes (xJoin K (tLst (tCons (tC (.str "cell")) (tCons (tVar 2) (tCons (xNum 3) (tCons (xNum 11) tNil)))))) [2, 3, 11]) tNil))
abbrev v3f (K : PySem.W.Frag) : TS := tFor (iTup K (tVar 4)) (gTup K 2 (gCons (gName 5) (gCons (gName 3) gNil))) (xApp K 1 (tIf (tTest (tOp rIsN (tVar 3) (tC .non))) (tOp rStrAdd (tC (.str "  who ")) (tVar 5)) (tOp rStrAdd (tOp rStrAdd (tOp rStrAdd (tC (.str "  worth ")) (tVar 5)) (tC (.str " "))) (xNum 3))))
abbrev v3 (K : PySem.W.Frag) : TS := tFor (iTup K (xHp "kinds")) (gTup K 2 (gCons (gName 2) (gCons (gName 4) gNil))) (tSeq (xApp K 1 (tOp rStrAdd (tC (.str "kind ")) (tVar 2))) (v3f K))
/-- the page's store -/
def PgS (σ : L2.St) (hd lp : Addr) : Prop := σ.length = 18 ∧ σ[0]? = some (some (.ref hd)) ∧ σ[1]? = some (some (.ref lp))
theorem PgS.set {σ : L2.St} {hd lp : Addr} (h : PgS σ hd lp) {i : Nat} (hi : 2 ≤ i) (x : Option V) : PgS (σ.set i x) hd lp := by
  obtain ⟨a, b, c⟩ := h
  exact ⟨by rw [List.length_set]; exact a, by rw [List.getElem?_set_ne (by omega)]; exact b, by rw [List.getElem?_set_ne (by omega)]; exact c⟩
def LinesP (H : Hp) (lp : Addr) (rows : List Rw) : Prop := H lp = some (.lst (rows.map fun r => V.str r.text))
theorem name8 {x : Str} (h : nameB x = true) : x.length ≤ 8 := (name_is h).2.1
theorem num8 {v : Int} (h0 : 0 ≤ v) (h1 : v < 10) : (numS v).length ≤ 8 := by
  have e : v = 0 ∨ v = 1 ∨ v = 2 ∨ v = 3 ∨ v = 4 ∨ v = 5 ∨ v = 6 ∨ v = 7 ∨ v = 8 ∨ v = 9 := by omega
  rcases e with rfl | rfl | rfl | rfl | rfl | rfl | rfl | rfl | rfl | rfl <;> decide +kernel
section
variable {K : PySem.W.Frag} {σ : L2.St} {H : Hp} {hd lp a : Addr} {rest : TS} {Z : Ends} {rows : List Rw}
theorem tail_tup {te : TE} {g : TG} {tb : TS} (h : te σ H fun x H1 => ∃ a, x = V.ref a ∧ (∃ xs, SqT K H1 a xs) ∧ FIt (Itt K a) g tb tNext Z σ H1) : tFor (iTup K te) g tb Z σ H := h
theorem segP1 {people : List Str} (e0 : σ[0]? = some (some (.ref hd))) (hl : σ.length = 18) (hg : DGet H hd (.str "people") (some (.ref a))) (hs : SqT K H a (people.map V.str)) (p1 : 1 ≤ people.length) (p3 : people.length ≤ 3) (pk : ∀ x ∈ people, nameB x = true)
    (k : ∀ (lp : Addr) (H' : Hp), H lp = none → Same H H' → LinesP H' lp [⟨false, "people" :: people⟩] → rest Z (σ.set 1 (some (.ref lp))) H') : tSeq (v1 K) rest Z σ H := by
  refine seq_set (go_lst (go_cons (go_op ?_)))
  refine rd_joinT (a := a) (ws := people) (fun Q q => ⟨_, e0, hd, _, rfl, hg, q⟩) hs (fun x hx => name8 (pk x hx)) (by omega) ?_
  match people, p1 with
  | w :: r, _ =>
    have b := (join_short (ws := w :: r) (fun x hx => name8 (pk x hx)) (by omega)).1
    refine ⟨"people ", _, rfl, rfl, sz (by show 7 + (Str.join " " (w :: r)).length ≤ 1000; omega), sz (by decide : 1 ≤ 1000), fun lp hlp => ?_⟩
    rw [line_in p_people]
    exact k lp _ hlp (same_new hlp _) upd_same
theorem segP2 {cs : List CellD} {xs : List V} (ps : PgS σ hd lp) (hg : DGet H hd (.str "cells") (some (.ref a))) (hs : SqT K H a xs) (tx : TpAll K H xs (cs.map CellD.d)) (c3 : cs.length ≤ 3) (ok : ∀ c ∈ cs, c.ok) (lr : LinesP H lp rows) (few : rows.length ≤ 400)
    (k : ∀ H1, Same H H1 → rest Z σ (upd H1 lp (.lst ((rows ++ cs.map CellD.row).map fun r => V.str r.text)))) : tSeq (v2 K) rest Z σ H := by
  have ln := tx.length
  rw [List.length_map] at ln
  obtain ⟨l18, e0, e1⟩ := ps
  refine ext_lines (rs := cs.map CellD.row) e1 lr (by rw [List.length_map]; omega) (fun Q1 q => ?_) k
  refine lc_lines (a := a) (xs := xs) (rs := cs.map CellD.row) (fun Q q => ⟨_, e0, hd, _, rfl, hg, q⟩) hs (by rw [List.length_map]; exact ln) (by rw [List.length_map]; omega) (fun i x r H1 q2 hx hr sm fin => ?_) q
  obtain ⟨d, ed, tp⟩ := tx.get hx
  rw [List.getElem?_map] at ed hr
  obtain ⟨c, es, rfl⟩ : ∃ c, cs[i]? = some c ∧ d = c.d := by
    cases e : cs[i]? with
    | none => rw [e] at ed; cases ed
    | some c => rw [e] at ed; exact ⟨c, rfl, (Option.some.inj ed).symm⟩
  rw [es] at hr
  have er : r = c.row := (Option.some.inj hr).symm
  obtain ⟨t, us, rfl, ht, hu⟩ := tp_tup (tp.same sm)
  obtain ⟨nm, _, z2, z5, i0, iz⟩ := ok c (List.mem_of_getElem? es)
  cases hu with
  | cons t1 h2 => cases h2 with
    | cons t2 h3 => cases h3 with
      | cons t3 h4 => cases h4 with
        | nil =>
          cases t1
          cases t2
          cases t3
          refine ⟨t, _, rfl, ht, rfl, _, _, rfl, _, _, rfl, _, _, rfl, rfl, ?_⟩
          have l1 : (wipe σ [2, 3, 11]).length = 18 := by rw [wipe_length, l18]
          refine fin _ ?_ ?_
          · refine wipe_of (fun m hm => ?_) (by simp [wipe_length])
            have h1 : 2 ≠ m := fun z => hm (by rw [← z]; simp)
            have h2 : 3 ≠ m := fun z => hm (by rw [← z]; simp)
            have h3 : 11 ≠ m := fun z => hm (by rw [← z]; simp)
            rw [List.getElem?_set_ne h3, List.getElem?_set_ne h2, List.getElem?_set_ne h1, wipe_get, if_neg hm]
          · rw [er]
            refine RdS.h ?_
            show RdS _ _ (.str (⟨false, ["cell", c.x, numS c.z, numS c.i]⟩ : Rw).text)
            rw [← line_out]
            refine rd_words (ws := ["cell", c.x, numS c.z, numS c.i]) (rda_cons rd_c (rda_cons (rd_var ?_) (rda_cons (rd_num (rd_var ?_) (by omega) (by omega)) (rda_cons (rd_num (rd_var ?_) (by omega) (by omega)) rda_nil)))) (fun x hx => ?_) (by simp)
            · rw [List.getElem?_set_ne (by decide), List.getElem?_set_ne (by decide), List.getElem?_set_self (by omega)]
            · rw [List.getElem?_set_ne (by decide), List.getElem?_set_self (by rw [List.length_set]; omega)]
            · rw [List.getElem?_set_self (by rw [List.length_set, List.length_set]; omega)]
            · simp only [List.mem_cons, List.not_mem_nil, or_false] at hx
              rcases hx with rfl | rfl | rfl | rfl
              · decide +kernel
              · exact name8 nm
              · exact num8 (by omega) (by omega)
              · exact num8 (by omega) (by omega)
end
end Hx
set_option maxRecDepth 100000
set_option maxHeartbeats 1000000
namespace Hx
open PySem PySem.Spec PyProof.Rows L2
section
variable {K : PySem.W.Frag} {σ : L2.St} {H H0 : Hp} {hd lp a : Addr} {rest : TS} {Z : Ends} {rows : List Rw}
theorem segPf {fs : List FieldD} {xs : List V} (ps : PgS σ hd lp) (e4 : σ[4]? = some (some (.ref a))) (hlp : H0 lp = none) (s0 : Same H0 H) (hs : SqT K H0 a xs) (tx : TpAll K H0 xs (fs.map FieldD.d)) (f3 : fs.length ≤ 3) (ok : ∀ f ∈ fs, f.ok) (lr : LinesP H lp rows) (few : rows.length ≤ 400)
    (k : ∀ σ' H', PgS σ' hd lp → Same H0 H' → LinesP H' lp (rows ++ fs.map FieldD.row) → Z.nx σ' H') : v3f K Z σ H := by
  have ln := tx.length
  rw [List.length_map] at ln
  refine tail_tup ⟨_, e4, a, rfl, ⟨_, same_sqt s0 hs⟩, ?_⟩
  refine fit_tup (xs := xs) (fun i σ' H' => PgS σ' hd lp ∧ Same H0 H' ∧ LinesP H' lp (rows ++ (fs.take i).map FieldD.row)) ⟨ps, s0, by rw [List.take_zero, List.map_nil, List.append_nil]; exact lr⟩ (fun i σ' H' _ z => same_sqt z.2.1 hs) ?_ ?_
  · rintro i x σ1 H1 hx ⟨p1, s1, l1⟩
    obtain ⟨d, ed, tp⟩ := tx.get hx
    rw [List.getElem?_map] at ed
    obtain ⟨f, es, rfl⟩ : ∃ f, fs[i]? = some f ∧ d = f.d := by
      cases e : fs[i]? with
      | none => rw [e] at ed; cases ed
      | some f => rw [e] at ed; exact ⟨f, rfl, (Option.some.inj ed).symm⟩
    obtain ⟨t, us, rfl, ht, hu⟩ := tp_tup (tp.same s1)
    have eu : us = [.str f.x, szV f.z] := by
      cases hu with
      | cons t1 h2 => cases h2 with
        | cons t2 h3 => cases h3 with
          | nil =>
            cases t1
            cases ez : f.z with
            | none => rw [ez] at t2; cases t2; rfl
            | some z => rw [ez] at t2; cases t2; rfl
    subst eu
    refine ⟨t, _, rfl, ht, rfl, _, _, rfl, _, _, rfl, rfl, ?_⟩
    have p2 := (p1.set (i := 5) (by decide) (some (V.str f.x))).set (i := 3) (by decide) (some (szV f.z))
    have g5 : ((σ1.set 5 (some (V.str f.x))).set 3 (some (szV f.z)))[5]? = some (some (V.str f.x)) := by
      rw [List.getElem?_set_ne (by decide), List.getElem?_set_self (by rw [p1.1]; decide)]
    have g3 : ((σ1.set 5 (some (V.str f.x))).set 3 (some (szV f.z)))[3]? = some (some (szV f.z)) := by
      rw [List.getElem?_set_self (by rw [List.length_set, p1.1]; decide)]
    show xApp K 1 _ _ ((σ1.set 5 (some (V.str f.x))).set 3 (some (szV f.z))) H1
    generalize (σ1.set 5 (some (V.str f.x))).set 3 (some (szV f.z)) = σ2 at p2 g5 g3
    obtain ⟨nm, zok⟩ := ok f (List.mem_of_getElem? es)
    have n8 := name8 nm
    refine app_line (r := f.row) p2.2.2 l1 ?_ ?_ fun H2 s2 => ?_
    · rw [List.length_append, List.length_map, List.length_take]
      omega
    · refine RdS.h ?_
      intro H Q k
      cases ez : f.z with
      | none =>
        rw [ez] at g3
        have er : f.row = ⟨true, ["who", f.x]⟩ := by unfold FieldD.row; rw [ez]
        rw [er] at k
        refine go_tif (go_test (go_op ⟨_, g3, rfl, _, rfl, ?_⟩))
        have e : decide (szV none = V.non) = true := decide_eq_true rfl
        rw [e]
        exact iteT (rd_pre p_who (by decide +kernel) (rd_var g5) (by show f.x.length ≤ 90; omega) H Q k)
      | some z =>
        rw [ez] at g3
        obtain ⟨z2, z5⟩ := zok z ez
        have er : f.row = ⟨true, ["worth", f.x, numS z]⟩ := by unfold FieldD.row; rw [ez]
        rw [er] at k
        refine go_tif (go_test (go_op ⟨_, g3, rfl, _, rfl, ?_⟩))
        have e : decide (szV (some z) = V.non) = false := decide_eq_false (fun q => by cases q)
        rw [e]
        rw [← line_worth] at k
        have l1 : ("  worth " : Str).length = 8 := by decide +kernel
        have l2 := num8 (v := z) (by omega) (by omega)
        refine iteF (rd_add (rd_add (rd_add rd_c (rd_var g5) (by omega)) rd_c ?_) (rd_num (rd_var g3) (by omega) (by omega)) ?_ H Q k)
        · rw [len_add, sp_len]; omega
        · rw [len_add, len_add, sp_len]; omega
    · refine ⟨p2, same_grow hlp (s1.trans s2), ?_⟩
      rw [List.append_assoc] 
      have et : (fs.take i).map FieldD.row ++ [f.row] = (fs.take (i + 1)).map FieldD.row := by rw [List.take_add_one, es, List.map_append]; rfl
      rw [et]
      exact upd_same
  · rintro σ1 H1 ⟨p1, s1, l1⟩
    rw [ln, List.take_length] at l1
    exact k σ1 H1 p1 s1 l1
theorem segP3 {ks : List KindD} {xs : List V} (ps : PgS σ hd lp) (hlp : H0 lp = none) (s0 : Same H0 H) (hg : DGet H hd (.str "kinds") (some (.ref a))) (hs : SqT K H0 a xs) (tx : TpAll K H0 xs (ks.map KindD.d)) (k3 : ks.length ≤ 3) (ok : ∀ k ∈ ks, k.ok) (lr : LinesP H lp rows) (few : rows.length ≤ 300)
    (k : ∀ σ' H', PgS σ' hd lp → Same H0 H' → LinesP H' lp (rows ++ kRows ks) → (rows ++ kRows ks).length ≤ rows.length + 12 → rest Z σ' H') : tSeq (v3 K) rest Z σ H := by
  have ln := tx.length
  rw [List.length_map] at ln
  refine seq_tup ⟨_, ps.2.1, hd, _, rfl, hg, a, rfl, ⟨_, same_sqt s0 hs⟩, ?_⟩
  refine fit_tup (xs := xs) (fun i σ' H' => PgS σ' hd lp ∧ Same H0 H' ∧ LinesP H' lp (rows ++ kRows (ks.take i)) ∧ (kRows (ks.take i)).length ≤ 4 * i) ⟨ps, s0, by show LinesP H lp (rows ++ []); rw [List.append_nil]; exact lr, Nat.le_refl _⟩ (fun i σ' H' _ z => same_sqt z.2.1 hs) ?_ ?_
  · rintro i x σ1 H1 hx ⟨p1, s1, l1, c1⟩
    have ix := (List.getElem?_eq_some_iff.mp hx).1
    obtain ⟨d, ed, tp⟩ := tx.get hx
    rw [List.getElem?_map] at ed
    obtain ⟨kd, es, rfl⟩ : ∃ f, ks[i]? = some f ∧ d = f.d := by
      cases e : ks[i]? with
      | none => rw [e] at ed; cases ed
      | some f => rw [e] at ed; exact ⟨f, rfl, (Option.some.inj ed).symm⟩
    obtain ⟨t, us, rfl, ht, hu⟩ := tp_tup tp
    obtain ⟨nm, f3, _, fok⟩ := ok kd (List.mem_of_getElem? es)
    cases hu with
    | cons t1 h2 => cases h2 with
      | cons t2 h3 => cases h3 with
        | nil =>
          cases t1
          obtain ⟨af, ws, rfl, hf, hw⟩ := tp_tup t2
          refine ⟨t, _, rfl, same_sqt s1 ht, rfl, _, _, rfl, _, _, rfl, rfl, ?_⟩
          have p2 := (p1.set (i := 2) (by decide) (some (V.str kd.x))).set (i := 4) (by decide) (some (V.ref af))
          have g2 : ((σ1.set 2 (some (V.str kd.x))).set 4 (some (V.ref af)))[2]? = some (some (V.str kd.x)) := by
            rw [List.getElem?_set_ne (by decide), List.getElem?_set_self (by rw [p1.1]; decide)]
          have g4 : ((σ1.set 2 (some (V.str kd.x))).set 4 (some (V.ref af)))[4]? = some (some (V.ref af)) := by
            rw [List.getElem?_set_self (by rw [List.length_set, p1.1]; decide)]
          show tSeq (xApp K 1 _) _ _ ((σ1.set 2 (some (V.str kd.x))).set 4 (some (V.ref af))) H1
          generalize (σ1.set 2 (some (V.str kd.x))).set 4 (some (V.ref af)) = σ2 at p2 g2 g4
          have n8 := name8 nm
          show xApp K 1 _ _ σ2 H1
          refine app_line (r := ⟨false, ["kind", kd.x]⟩) p2.2.2 l1 (by rw [List.length_append]; omega) (RdS.h (rd_pre p_kind (by decide +kernel) (rd_var g2) (by show kd.x.length ≤ 90; omega))) fun H2 s2 => ?_
          refine segPf (fs := kd.fs) (xs := ws) p2 g4 hlp (same_grow hlp (s1.trans s2)) hf hw f3 fok upd_same (by rw [List.length_append, List.length_append]; show _ + 1 ≤ 400; omega) fun σ3 H3 p3 s3 l3 => ?_
          have et : rows ++ kRows (ks.take i) ++ [(⟨false, ["kind", kd.x]⟩ : Rw)] ++ kd.fs.map FieldD.row = rows ++ kRows (ks.take (i + 1)) := by
            rw [kRows_take es, List.append_assoc, List.append_assoc]
            rfl
          rw [et] at l3
          refine ⟨p3, s3, l3, ?_⟩
          rw [kRows_take es, List.length_append]
          have lk : kd.rows.length ≤ 4 := by
            show (_ :: kd.fs.map FieldD.row).length ≤ 4
            rw [List.length_cons, List.length_map]
            omega
          omega
  · rintro σ1 H1 ⟨p1, s1, l1, c1⟩
    rw [ln, List.take_length] at l1 c1
    exact k σ1 H1 p1 s1 l1 (by rw [List.length_append]; omega)
end
end Hx
set_option maxRecDepth 100000
set_option maxHeartbeats 1000000
namespace Hx
open PySem PySem.Spec PyProof.Rows L2
theorem eqv_strs : ∀ ys zs : List Str, PyData.eqvAll (ys.map PyData.str) (zs.map PyData.str) = decide (ys = zs)
  | [], [] => by simp [PyData.eqvAll]
  | [], _ :: _ => by simp [PyData.eqvAll]
  | _ :: _, [] => by simp [PyData.eqvAll]
  | y :: ys, z :: zs => by
    have ih := eqv_strs ys zs
    simp only [List.map_cons, PyData.eqvAll, PyData.eqv, ih]
    by_cases h : y = z
    · subst h
      simp
    · simp [h]
theorem eqv_tup (ys zs : List Str) : PyData.eqv (.tuple (ys.map PyData.str)) (.tuple (zs.map PyData.str)) = decide (ys = zs) := by
  simp only [PyData.eqv]
  exact eqv_strs ys zs
theorem strs_shaped {ys : List Str} (h : ∀ y ∈ ys, nameB y = true) : SeqAt.shaped (.tuple (ys.map PyData.str)) = true := by
  have a : PyData.canLayAll0 (ys.map PyData.str) = true := lay_all fun d hd => by
    obtain ⟨y, hy, rfl⟩ := List.mem_map.mp hd
    simp [PyData.canLay0, name_str (h y hy)]
  have b : PyData.depthAll (ys.map PyData.str) ≤ 0 := dep_all fun d hd => by
    obtain ⟨y, hy, rfl⟩ := List.mem_map.mp hd
    simp [PyData.depth]
  have e : PyData.canLay0 (.tuple (ys.map PyData.str)) = true := by simp [PyData.canLay0, a]
  unfold SeqAt.shaped
  rw [e, Bool.true_and]
  refine decide_eq_true ?_
  simp only [PyData.depth]
  omega
theorem cellX8 {cs : List CellD} {j : Nat} {c : CellD} (ok : ∀ c ∈ cs, c.ok) (h : cs[j]? = some c) : (cellX cs j).length ≤ 8 := by
  rw [cellX_at h]
  exact name8 (ok c (List.mem_of_getElem? h)).1
theorem fits8 {cs : List CellD} {z pick : Int} {s : Src} (ok : ∀ c ∈ cs, c.ok) (h : s.fits cs z pick) : (s.w cs).length ≤ 8 := by
  cases s with
  | it => show ("it" : Str).length ≤ 8; decide +kernel
  | cell j =>
    obtain ⟨c, e, _⟩ := h
    rw [word_cell e]
    exact name8 (ok c (List.mem_of_getElem? e)).1
  | num v => exact num8 h.1 (by have := h.2.1; have := h.2.2; omega)
  | who => exact absurd h id
  | person x => exact absurd h id
theorem src8 {people : List Str} {cs : List CellD} {pick : Int} {f : FieldD} {s : Src} (pk : ∀ x ∈ people, nameB x = true) (ok : ∀ c ∈ cs, c.ok) (h : srcOk people cs pick f s) : (s.w cs).length ≤ 8 := by
  unfold srcOk at h
  split at h
  · cases s with
    | who => show ("who" : Str).length ≤ 8; decide +kernel
    | person x => exact name8 (pk x h.1)
    | it => exact absurd h id
    | cell j => exact absurd h id
    | num v => exact absurd h id
  · exact fits8 ok h
abbrev rGt : R2 := rI0 fun i j => V.bl (decide (j < i))
abbrev xExt (K : PySem.W.Frag) (i : Nat) (g : TG) (te : TE) (vs : List Nat) : TS := tDrop (tBM K "list" rExtend (tVar 1) (tCons (tLc (iTup K (tVar i)) g tYes te vs) tNil))
abbrev vBy (K : PySem.W.Frag) : TS := tIfS (tTest (tOp (rNeD K) (tVar 6) (xHp "people"))) (xApp K 1 (tOp rStrAdd (tC (.str "  by ")) (xJoin K (tVar 6)))) tNext
abbrev vTs (K : PySem.W.Frag) : TS := xExt K 7 (gTup K 3 (gCons (gName 12) (gCons (gName 13) (gCons (gName 14) gNil)))) (tOp rStrAdd (tC (.str "  if ")) (xJoin K (tLst (tCons (tVar 12) (tCons (tVar 13) (tCons (xNum 14) tNil)))))) [12, 13, 14]
abbrev vPk (K : PySem.W.Frag) : TS := tIfS (tTest (tOp rGt (tVar 8) (xI 1))) (xApp K 1 (tOp rStrAdd (tC (.str "  pick ")) (xNum 8))) tNext
abbrev vCh (K : PySem.W.Frag) : TS := xExt K 9 (gName 15) (tOp rStrAdd (tC (.str "  ")) (xJoin K (tVar 15))) [15]
abbrev vRs (K : PySem.W.Frag) : TS := xExt K 10 (gTup K 2 (gCons (gName 16) (gCons (gName 17) gNil))) (tOp rStrAdd (tC (.str "  ")) (xJoin K (tOp (rCatA K) (tTup (tCons (tC (.str "row")) (tCons (tVar 16) tNil))) (tVar 17)))) [16, 17]
section
variable {K : PySem.W.Frag} {σ : L2.St} {H : Hp} {hd lp a b : Addr} {rest : TS} {Z : Ends} {rows : List Rw}
theorem segBy {people ys : List Str} (ps : PgS σ hd lp) (e6 : σ[6]? = some (some (.ref a))) (hs : SqT K H a (ys.map V.str)) (hg : DGet H hd (.str "people") (some (.ref b))) (hb : SqT K H b (people.map V.str)) (pk : ∀ x ∈ people, nameB x = true) (yk : ∀ y ∈ ys, nameB y = true) (y1 : 1 ≤ ys.length) (y3 : ys.length ≤ 9) (lr : LinesP H lp rows) (few : rows.length ≤ 400)
    (k : ∀ H1, (∀ q o, q ≠ lp → H q = some o → H1 q = some o) → LinesP H1 lp (rows ++ byRows (byWr people ys)) → rest Z σ H1) : tSeq (vBy K) rest Z σ H := by
  refine seq_if (go_test (go_op ⟨_, e6, go_dget ⟨_, ps.2.1, hd, .ref b, rfl, hg, ?_⟩⟩))
  refine ⟨.tuple (ys.map PyData.str), .tuple (people.map PyData.str), Tp.dp (.tup hs (tpa_words (fun y => y) ys)), Tp.dp (.tup hb (tpa_words (fun y => y) people)), strs_shaped yk, strs_shaped pk, _, rfl, ?_⟩
  rw [eqv_tup]
  unfold byWr at k
  by_cases e : ys = people
  · rw [if_pos e] at k
    rw [decide_eq_true e]
    refine iteF (k H (fun q o _ h => h) ?_)
    show LinesP H lp (rows ++ [])
    rw [List.append_nil]
    exact lr
  · rw [if_neg e] at k
    rw [decide_eq_false e]
    refine iteT ?_
    match ys, y1 with
    | w :: r, _ =>
      have b := (join_short (ws := w :: r) (fun x hx => name8 (yk x hx)) y3).1
      refine app_line (r := ⟨true, "by" :: w :: r⟩) ps.2.2 lr (by omega) (fun Q q => ?_) fun H2 s2 => ?_
      · refine go_op (rd_joinT (a := a) (ws := w :: r) (fun Q q => ⟨_, e6, q⟩) hs (fun x hx => name8 (yk x hx)) y3 ?_)
        refine ⟨"  by ", _, rfl, rfl, sz (by show 5 + (Str.join " " (w :: r)).length ≤ 1000; omega), ?_⟩
        rw [line_in p_by]
        exact q H (Same.refl H)
      · exact k _ (fun q o n h => by rw [upd_ne n]; exact s2 _ _ h) upd_same
theorem segPk {pick : Int} (ps : PgS σ hd lp) (e8 : σ[8]? = some (some (.int pick))) (k1 : 1 ≤ pick) (k5 : pick < 5) (lr : LinesP H lp rows) (few : rows.length ≤ 400)
    (k : ∀ H1, (∀ q o, q ≠ lp → H q = some o → H1 q = some o) → LinesP H1 lp (rows ++ pickRows pick) → rest Z σ H1) : tSeq (vPk K) rest Z σ H := by
  refine seq_if (go_test (go_op ⟨_, e8, pick, 1, rfl, rfl, _, rfl, ?_⟩))
  unfold pickRows at k
  by_cases e : pick = 1
  · rw [if_pos e] at k
    rw [decide_eq_false (by omega)]
    refine iteF (k H (fun q o _ h => h) ?_)
    rw [List.append_nil]
    exact lr
  · rw [if_neg e] at k
    rw [decide_eq_true (by omega)]
    refine iteT (app_line (r := ⟨true, ["pick", numS pick]⟩) ps.2.2 lr (by omega) (RdS.h (rd_pre p_pick (by decide +kernel) (rd_num (rd_var e8) (by omega) (by omega)) (by have := num8 (v := pick) (by omega) (by omega); show (numS pick).length ≤ 90; omega))) fun H2 s2 => ?_)
    exact k _ (fun q o n h => by rw [upd_ne n]; exact s2 _ _ h) upd_same
end
end Hx
set_option maxRecDepth 100000
set_option maxHeartbeats 1000000
namespace Hx
open PySem PySem.Spec PyProof.Rows L2
section
variable {K : PySem.W.Frag} {σ : L2.St} {H : Hp} {hd lp a b : Addr} {rest : TS} {Z : Ends} {rows : List Rw}
theorem map_at {α : Type} {f : α → PyData} {xs : List α} {i : Nat} {d : PyData} (e : (xs.map f)[i]? = some d) : ∃ t, xs[i]? = some t ∧ d = f t := by
  rw [List.getElem?_map] at e
  cases q : xs[i]? with
  | none => rw [q] at e; cases e
  | some t => rw [q] at e; exact ⟨t, rfl, (Option.some.inj e).symm⟩
theorem row_at {α : Type} {f : α → Rw} {xs : List α} {i : Nat} {r : Rw} {t : α} (e : (xs.map f)[i]? = some r) (h : xs[i]? = some t) : r = f t := by
  rw [List.getElem?_map, h] at e
  exact (Option.some.inj e).symm
theorem segTs {cs : List CellD} {ts : List TestD} {xs : List V} (ps : PgS σ hd lp) (e7 : σ[7]? = some (some (.ref a))) (hs : SqT K H a xs) (tx : TpAll K H xs (ts.map (TestD.l cs))) (t2 : ts.length ≤ 2) (ok : ∀ t ∈ ts, t.ok cs) (cok : ∀ c ∈ cs, c.ok) (lr : LinesP H lp rows) (few : rows.length ≤ 400)
    (k : ∀ H1, (∀ q o, q ≠ lp → H q = some o → H1 q = some o) → LinesP H1 lp (rows ++ ts.map (TestD.row cs)) → rest Z σ H1) : tSeq (vTs K) rest Z σ H := by
  have ln := tx.length
  rw [List.length_map] at ln
  refine ext_lines (Z := { nx := rest Z, rt := Z.rt, bk := Z.bk, ct := Z.ct }) (rs := ts.map (TestD.row cs)) ps.2.2 lr (by rw [List.length_map]; omega) (fun Q1 q => ?_) fun H1 s1 => k _ (fun q o n h => by rw [upd_ne n]; exact s1 _ _ h) upd_same
  refine lc_lines (a := a) (xs := xs) (fun Q q => ⟨_, e7, q⟩) hs (by rw [List.length_map]; exact ln) (by rw [List.length_map]; omega) (fun i x r H1 q2 hx hr sm fin => ?_) q
  obtain ⟨d, ed, tp⟩ := tx.get hx
  obtain ⟨t, et, rfl⟩ := map_at ed
  have er := row_at hr et
  obtain ⟨c, ec, v0, vz⟩ := ok t (List.mem_of_getElem? et)
  have cz := (cok c (List.mem_of_getElem? ec)).2.2.2.1
  obtain ⟨u, us, rfl, ht, hu⟩ := tp_tup (tp.same sm)
  cases hu with
  | cons t1 h2 => cases h2 with
    | cons t2 h3 => cases h3 with
      | cons t3 h4 => cases h4 with
        | nil =>
          cases t1
          cases t2
          cases t3
          refine ⟨u, _, rfl, ht, rfl, _, _, rfl, _, _, rfl, _, _, rfl, rfl, ?_⟩
          have l1 : (wipe σ [12, 13, 14]).length = 18 := by rw [wipe_length, ps.1]
          refine fin _ ?_ (RdS.h ?_)
          · refine wipe_of (fun m hm => ?_) (by simp [wipe_length])
            have h1 : 12 ≠ m := fun z => hm (by rw [← z]; simp)
            have h2 : 13 ≠ m := fun z => hm (by rw [← z]; simp)
            have h3 : 14 ≠ m := fun z => hm (by rw [← z]; simp)
            rw [List.getElem?_set_ne h3, List.getElem?_set_ne h2, List.getElem?_set_ne h1, wipe_get, if_neg hm]
          · rw [er]
            show RdS _ _ (.str (⟨true, ["if", cellX cs t.j, sign t.same, numS t.v]⟩ : Rw).text)
            have w8 : ∀ x ∈ [cellX cs t.j, sign t.same, numS t.v], x.length ≤ 8 := fun x hx => by
              simp only [List.mem_cons, List.not_mem_nil, or_false] at hx
              rcases hx with rfl | rfl | rfl
              · exact cellX8 cok ec
              · cases t.same <;> decide +kernel
              · exact num8 v0 (by omega)
            refine rd_pre p_if (by decide +kernel) (rd_words (ws := [cellX cs t.j, sign t.same, numS t.v]) (rda_cons (rd_var ?_) (rda_cons (rd_var ?_) (rda_cons (rd_num (rd_var ?_) v0 (by omega)) rda_nil))) w8 (by simp)) ((join_short w8 (by simp)).1)
            · rw [List.getElem?_set_ne (by decide), List.getElem?_set_ne (by decide), List.getElem?_set_self (by omega)]
            · rw [List.getElem?_set_ne (by decide), List.getElem?_set_self (by rw [List.length_set]; omega)]
            · rw [List.getElem?_set_self (by rw [List.length_set, List.length_set]; omega)]
/-- words that stand in a tuple, joined, behind a pad -/
theorem rd_padT {td : TE} {ws : List Str} {H1 : Hp} {Q : VK} (e : ∀ (Q : VK), (∀ a H2, Same H1 H2 → SqT K H2 a (ws.map V.str) → Q (.ref a) H2) → td σ H1 Q) (h : ∀ x ∈ ws, x.length ≤ 8) (l : ws.length ≤ 9) (k : ∀ H2, Same H1 H2 → Q (.str (⟨true, ws⟩ : Rw).text) H2) : tOp rStrAdd (tC (.str "  ")) (xJoin K td) σ H1 Q := by
  have b := join_short h l
  refine go_op ⟨rfl, e _ fun a H2 s hs => ⟨" ", a, ws, rfl, rfl, .inr hs, by omega, ?_⟩⟩
  refine ⟨"  ", _, rfl, rfl, sz (by rw [TL.join_eq]; show 2 + (Str.join " " ws).length ≤ 1000; omega), ?_⟩
  rw [TL.join_eq]
  exact k H2 s
theorem segCh {cs : List CellD} {pick : Int} {ts : List ChangeD} {xs : List V} (ps : PgS σ hd lp) (e9 : σ[9]? = some (some (.ref a))) (hs : SqT K H a xs) (tx : TpAll K H xs (ts.map (ChangeD.l cs))) (t2 : ts.length ≤ 3) (ok : ∀ t ∈ ts, t.ok cs pick) (cok : ∀ c ∈ cs, c.ok) (lr : LinesP H lp rows) (few : rows.length ≤ 400)
    (k : ∀ H1, (∀ q o, q ≠ lp → H q = some o → H1 q = some o) → LinesP H1 lp (rows ++ ts.map (ChangeD.row cs)) → rest Z σ H1) : tSeq (vCh K) rest Z σ H := by
  have ln := tx.length
  rw [List.length_map] at ln
  refine ext_lines (Z := { nx := rest Z, rt := Z.rt, bk := Z.bk, ct := Z.ct }) (rs := ts.map (ChangeD.row cs)) ps.2.2 lr (by rw [List.length_map]; omega) (fun Q1 q => ?_) fun H1 s1 => k _ (fun q o n h => by rw [upd_ne n]; exact s1 _ _ h) upd_same
  refine lc_lines (a := a) (xs := xs) (fun Q q => ⟨_, e9, q⟩) hs (by rw [List.length_map]; exact ln) (by rw [List.length_map]; omega) (fun i x r H1 q2 hx hr sm fin => ?_) q
  obtain ⟨d, ed, tp⟩ := tx.get hx
  obtain ⟨t, et, rfl⟩ := map_at ed
  have er := row_at hr et
  obtain ⟨c, ec, fit⟩ := ok t (List.mem_of_getElem? et)
  obtain ⟨u, us, rfl, ht, hu⟩ := tp_tup (tp.same sm)
  have l1 : (wipe σ [15]).length = 18 := by rw [wipe_length, ps.1]
  have g15 : ((wipe σ [15]).set 15 (some (V.ref u)))[15]? = some (some (V.ref u)) := List.getElem?_set_self (by omega)
  have eu : us = [verb t.add, cellX cs t.j, t.s.w cs].map V.str := by
    cases hu with
    | cons t1 h2 => cases h2 with
      | cons t2 h3 => cases h3 with
        | cons t3 h4 => cases h4 with
          | nil =>
            cases t1
            cases t2
            cases t3
            rfl
  subst eu
  refine fin _ ?_ fun Q k => ?_
  · refine wipe_of (fun m hm => ?_) (by simp [wipe_length])
    have h1 : 15 ≠ m := fun z => hm (by rw [← z]; simp)
    rw [List.getElem?_set_ne h1, wipe_get, if_neg hm]
  · rw [er] at k
    refine rd_padT (ws := [verb t.add, cellX cs t.j, t.s.w cs]) (fun Q q => ⟨_, g15, q u H1 (Same.refl _) ht⟩) (fun x hx => ?_) (by simp) k
    simp only [List.mem_cons, List.not_mem_nil, or_false] at hx
    rcases hx with rfl | rfl | rfl
    · cases t.add <;> decide +kernel
    · exact cellX8 cok ec
    · exact fits8 cok fit
theorem segRs {people : List Str} {cs : List CellD} {ks : List KindD} {pick : Int} {ts : List RowD} {xs : List V} (ps : PgS σ hd lp) (e10 : σ[10]? = some (some (.ref a))) (hs : SqT K H a xs) (tx : TpAll K H xs (ts.map (RowD.l cs ks))) (t2 : ts.length ≤ 2) (ok : ∀ t ∈ ts, t.ok people cs ks pick) (pk : ∀ x ∈ people, nameB x = true) (cok : ∀ c ∈ cs, c.ok) (kok : ∀ k ∈ ks, k.ok) (lr : LinesP H lp rows) (few : rows.length ≤ 400)
    (k : ∀ H1, (∀ q o, q ≠ lp → H q = some o → H1 q = some o) → LinesP H1 lp (rows ++ ts.map (RowD.row cs ks)) → Z.nx σ H1) : vRs K Z σ H := by
  have ln := tx.length
  rw [List.length_map] at ln
  refine ext_lines (rs := ts.map (RowD.row cs ks)) ps.2.2 lr (by rw [List.length_map]; omega) (fun Q1 q => ?_) fun H1 s1 => k _ (fun q o n h => by rw [upd_ne n]; exact s1 _ _ h) upd_same
  refine lc_lines (a := a) (xs := xs) (fun Q q => ⟨_, e10, q⟩) hs (by rw [List.length_map]; exact ln) (by rw [List.length_map]; omega) (fun i x r H1 q2 hx hr sm fin => ?_) q
  obtain ⟨d, ed, tp⟩ := tx.get hx
  obtain ⟨t, et, rfl⟩ := map_at ed
  have er := row_at hr et
  obtain ⟨kd, ek, ls, f3, sok⟩ := ok t (List.mem_of_getElem? et)
  obtain ⟨u, us, rfl, ht, hu⟩ := tp_tup (tp.same sm)
  cases hu with
  | cons t1 h2 => cases h2 with
    | cons t2 h3 => cases h3 with
      | nil =>
        cases t1
        obtain ⟨al, vs, rfl, hl, hv⟩ := tp_tup t2
        have ev : vs = (t.ss.map (Src.w cs)).map V.str := by
          have : ∀ (ss : List Src) (vs : List V), TpAll K H1 vs (ss.map fun s => PyData.str (s.w cs)) → vs = (ss.map (Src.w cs)).map V.str := by
            intro ss
            induction ss with
            | nil => intro vs h; cases h; rfl
            | cons s ss ih =>
              intro vs h
              cases h with
              | cons h1 h2 =>
                cases h1
                rw [ih _ h2]
                rfl
          exact this _ _ hv
        subst ev
        refine ⟨u, _, rfl, ht, rfl, _, _, rfl, _, _, rfl, rfl, ?_⟩
        have l1 : (wipe σ [16, 17]).length = 18 := by rw [wipe_length, ps.1]
        refine fin _ ?_ fun Q k => ?_
        · refine wipe_of (fun m hm => ?_) (by simp [wipe_length])
          have h1 : 16 ≠ m := fun z => hm (by rw [← z]; simp)
          have h2 : 17 ≠ m := fun z => hm (by rw [← z]; simp)
          rw [List.getElem?_set_ne h2, List.getElem?_set_ne h1, wipe_get, if_neg hm]
        · have g16 : (((wipe σ [16, 17]).set 16 (some (V.str (kindX ks t.j)))).set 17 (some (V.ref al)))[16]? = some (some (V.str (kindX ks t.j))) := by
            rw [List.getElem?_set_ne (by decide), List.getElem?_set_self (by omega)]
          have g17 : (((wipe σ [16, 17]).set 16 (some (V.str (kindX ks t.j)))).set 17 (some (V.ref al)))[17]? = some (some (V.ref al)) := by
            rw [List.getElem?_set_self (by rw [List.length_set]; omega)]
          rw [er] at k
          refine rd_padT (ws := "row" :: kindX ks t.j :: t.ss.map (Src.w cs)) (fun Q q => ?_) (fun x hx => ?_) (by simp; omega) k
          · refine go_op (go_tup ⟨_, g16, sz (by decide : 2 ≤ 1000), fun m hm => ⟨_, g17, ?_⟩⟩)
            have s2 := same_new hm (.tup [.str "row", .str (kindX ks t.j)])
            have e2 : SqT K (upd H1 m (.tup [.str "row", .str (kindX ks t.j)])) m [.str "row", .str (kindX ks t.j)] := SqT.of upd_same
            refine ⟨m, al, _, _, rfl, rfl, e2, same_sqt s2 hl, sz (by rw [List.length_map, List.length_map]; show 2 + _ ≤ 1000; omega), (fun z => by cases z), fun _ z => q m _ s2 ?_, fun _ _ n hn => q n _ (s2.trans (same_new hn _)) (SqT.of upd_same)⟩
            rw [List.map_cons, List.map_cons, z]
            exact e2
          · simp only [List.mem_cons] at hx
            rcases hx with rfl | rfl | hx
            · decide +kernel
            · rw [kindX_at ek]
              exact name8 (kok kd (List.mem_of_getElem? ek)).1
            · obtain ⟨s, hs', rfl⟩ := List.mem_map.mp hx
              obtain ⟨j, hj⟩ := List.getElem?_of_mem hs'
              have jl := (List.getElem?_eq_some_iff.mp hj).1
              exact src8 pk cok (sok j _ s (List.getElem?_eq_getElem (by omega)) hj)
end
end Hx
set_option maxRecDepth 100000
set_option maxHeartbeats 1000000
/-! Every line of a page is good. -/
namespace Hx
open PySem PySem.Spec PyProof.Rows L2
def Wd (x : Str) : Prop := wordB x = true ∧ x.length ≤ 8
structure Good (r : Rw) : Prop where
  ne : r.ws ≠ []
  few : r.ws.length ≤ 9
  ok : ∀ x ∈ r.ws, Wd x
theorem name_wd {x : Str} (h : nameB x = true) : Wd x := by
  obtain ⟨h1, h8, hc⟩ := name_is h
  refine ⟨?_, h8⟩
  unfold wordB
  simp only [Bool.and_eq_true, decide_eq_true_eq, List.all_eq_true]
  refine ⟨h1, fun c hm => ?_⟩
  have := hc c hm
  omega
theorem num_wd {v : Int} (h0 : 0 ≤ v) (h1 : v < 10) : Wd (numS v) := ⟨(num_ok h0 h1).2.2, num8 h0 h1⟩
theorem good_cons {d : Bool} {w : Str} {ws : List Str} (hw : Wd w) (h : ∀ x ∈ ws, Wd x) (l : ws.length ≤ 8) : Good ⟨d, w :: ws⟩ :=
  ⟨List.cons_ne_nil _ _, by show ws.length + 1 ≤ 9; omega, fun x hx => by
    rcases List.mem_cons.mp hx with rfl | hx
    · exact hw
    · exact h x hx⟩
theorem wd_lit : ∀ x ∈ (["people", "cell", "kind", "who", "worth", "deed", "by", "if", "pick", "set", "add", "row", "day", "=", "!=", "it"] : List Str), wordB x = true ∧ x.length ≤ 8 := by decide +kernel
theorem wd_l {x : Str} (h : x ∈ (["people", "cell", "kind", "who", "worth", "deed", "by", "if", "pick", "set", "add", "row", "day", "=", "!=", "it"] : List Str)) : Wd x := wd_lit x h
theorem fits_wd {cs : List CellD} {z pick : Int} {s : Src} (ok : ∀ c ∈ cs, c.ok) (h : s.fits cs z pick) : Wd (s.w cs) := by
  cases s with
  | it => exact wd_l (by simp [Src.w])
  | cell j =>
    obtain ⟨c, e, _⟩ := h
    rw [word_cell e]
    exact name_wd (ok c (List.mem_of_getElem? e)).1
  | num v => exact num_wd h.1 (by have := h.2.1; have := h.2.2; omega)
  | who => exact absurd h id
  | person x => exact absurd h id
theorem src_wd {people : List Str} {cs : List CellD} {pick : Int} {f : FieldD} {s : Src} (pk : ∀ x ∈ people, nameB x = true) (ok : ∀ c ∈ cs, c.ok) (h : srcOk people cs pick f s) : Wd (s.w cs) := by
  unfold srcOk at h
  split at h
  · cases s with
    | who => exact wd_l (by simp [Src.w])
    | person x => exact name_wd (pk x h.1)
    | it => exact absurd h id
    | cell j => exact absurd h id
    | num v => exact absurd h id
  · exact fits_wd ok h
theorem cell_wd {cs : List CellD} {j : Nat} {c : CellD} (ok : ∀ c ∈ cs, c.ok) (h : cs[j]? = some c) : Wd (cellX cs j) := by
  rw [cellX_at h]
  exact name_wd (ok c (List.mem_of_getElem? h)).1
theorem deed_good {people : List Str} {cs : List CellD} {ks : List KindD} {d : DeedD} (pk : ∀ x ∈ people, nameB x = true) (cok : ∀ c ∈ cs, c.ok) (kok : ∀ k ∈ ks, k.ok) (h : d.ok people cs ks) : (∀ r ∈ d.rows cs ks, Good r) ∧ (d.rows cs ks).length ≤ 10 := by
  obtain ⟨hx, hb, t2, tok, k1, k5, c3, chok, r2, rok⟩ := h
  have bl : (byRows d.by_).length ≤ 1 := by cases d.by_ <;> simp [byRows]
  have pl : (pickRows d.pick).length ≤ 1 := by unfold pickRows; split <;> simp
  refine ⟨fun r hr => ?_, ?_⟩
  · unfold DeedD.rows at hr
    rcases List.mem_cons.mp hr with rfl | hr
    · exact good_cons (wd_l (by simp)) (fun x hx' => by rw [List.mem_singleton.mp hx']; exact name_wd hx) (by simp)
    rcases List.mem_append.mp hr with hr | hr
    · cases e : d.by_ with
      | none => rw [e] at hr; cases hr
      | some ns =>
        rw [e] at hr hb
        obtain ⟨b1, b3, bn, bs⟩ := hb
        rw [List.mem_singleton.mp hr]
        exact good_cons (wd_l (by simp)) (fun x hx' => name_wd (pk x (bs x hx'))) (by omega)
    rcases List.mem_append.mp hr with hr | hr
    · obtain ⟨t, ht, rfl⟩ := List.mem_map.mp hr
      obtain ⟨c, ec, v0, vz⟩ := tok t ht
      have cz := (cok c (List.mem_of_getElem? ec)).2.2.2.1
      refine good_cons (wd_l (by simp)) (fun x hx' => ?_) (by simp)
      have hx' : x = cellX cs t.j ∨ x = sign t.same ∨ x = numS t.v := by simpa [cellX] using hx'
      rcases hx' with rfl | rfl | rfl
      · exact cell_wd cok ec
      · cases t.same
        · exact wd_l (by simp [sign])
        · exact wd_l (by simp [sign])
      · exact num_wd v0 (by omega)
    rcases List.mem_append.mp hr with hr | hr
    · unfold pickRows at hr
      split at hr
      · cases hr
      · rw [List.mem_singleton.mp hr]
        exact good_cons (wd_l (by simp)) (fun x hx' => by rw [List.mem_singleton.mp hx']; exact num_wd (by omega) (by omega)) (by simp)
    rcases List.mem_append.mp hr with hr | hr
    · obtain ⟨t, ht, rfl⟩ := List.mem_map.mp hr
      obtain ⟨c, ec, fit⟩ := chok t ht
      have vw : Wd (verb t.add) := by
        cases t.add
        · exact wd_l (by simp [verb])
        · exact wd_l (by simp [verb])
      refine good_cons vw (fun x hx' => ?_) (by simp)
      have hx' : x = cellX cs t.j ∨ x = t.s.w cs := by simpa [cellX] using hx'
      rcases hx' with rfl | rfl
      · exact cell_wd cok ec
      · exact fits_wd cok fit
    · obtain ⟨t, ht, rfl⟩ := List.mem_map.mp hr
      obtain ⟨kd, ek, ls, f3, sok⟩ := rok t ht
      refine good_cons (wd_l (by simp)) (fun x hx' => ?_) (by simp; omega)
      have hx' : x = kindX ks t.j ∨ ∃ s ∈ t.ss, s.w cs = x := by simpa [kindX] using hx'
      rcases hx' with rfl | ⟨s, hs, rfl⟩
      · rw [kindX_at ek]
        exact name_wd (kok kd (List.mem_of_getElem? ek)).1
      · obtain ⟨j, hj⟩ := List.getElem?_of_mem hs
        have jl := (List.getElem?_eq_some_iff.mp hj).1
        exact src_wd pk cok (sok j _ s (List.getElem?_eq_getElem (by omega)) hj)
  · unfold DeedD.rows
    simp only [List.length_cons, List.length_append, List.length_map]
    omega
theorem kind_good {k : KindD} (h : k.ok) : (∀ r ∈ k.rows, Good r) ∧ k.rows.length ≤ 4 := by
  obtain ⟨nm, f3, _, fok⟩ := h
  refine ⟨fun r hr => ?_, ?_⟩
  · rcases List.mem_cons.mp hr with rfl | hr
    · exact good_cons (wd_l (by simp)) (fun x hx' => by rw [List.mem_singleton.mp hx']; exact name_wd nm) (by simp)
    · obtain ⟨f, hf, rfl⟩ := List.mem_map.mp hr
      obtain ⟨fn, fz⟩ := fok f hf
      unfold FieldD.row
      cases e : f.z with
      | none => exact good_cons (wd_l (by simp)) (fun x hx' => by rw [List.mem_singleton.mp hx']; exact name_wd fn) (by simp)
      | some z =>
        obtain ⟨z2, z5⟩ := fz z e
        refine good_cons (wd_l (by simp)) (fun x hx' => ?_) (by simp)
        have hx' : x = f.x ∨ x = numS z := by simpa using hx'
        rcases hx' with rfl | rfl
        · exact name_wd fn
        · exact num_wd (by omega) (by omega)
  · show (_ :: k.fs.map FieldD.row).length ≤ 4
    rw [List.length_cons, List.length_map]
    omega
theorem flat_len' {α : Type} (f : α → List Rw) (m : Nat) : ∀ xs : List α, (∀ x ∈ xs, (f x).length ≤ m) → (xs.flatMap f).length ≤ m * xs.length
  | [], _ => by simp
  | x :: xs, h => by
    have ih := flat_len' f m xs fun y hy => h y (List.mem_cons_of_mem _ hy)
    have a := h x (List.mem_cons_self ..)
    rw [List.flatMap_cons, List.length_append, List.length_cons, Nat.mul_succ]
    omega
theorem page_good {h : HouseD} (ok : h.Ok) : (∀ r ∈ h.page, Good r) ∧ h.page.length ≤ 60 := by
  have pk : ∀ x ∈ h.people, nameB x = true := fun x hx => (ok.pok x hx).1
  have cok := ok.cok.2.1
  have c3 := ok.cok.1
  have k3 := ok.k3
  have d4 := ok.d4
  have lk : (kRows h.ks).length ≤ 4 * h.ks.length := flat_len' KindD.rows 4 h.ks fun k hk => (kind_good (ok.kok k hk)).2
  have ld : (dRows h.cs h.ks h.ds).length ≤ 10 * h.ds.length := flat_len' _ 10 h.ds fun d hd => (deed_good pk cok ok.kok (ok.dok d hd)).2
  refine ⟨fun r hr => ?_, ?_⟩
  · unfold HouseD.page at hr
    rcases List.mem_cons.mp hr with rfl | hr
    · have := ok.p3
      exact good_cons (wd_l (by simp)) (fun x hx => name_wd (pk x hx)) (by omega)
    rcases List.mem_append.mp hr with hr | hr
    · obtain ⟨c, hc, rfl⟩ := List.mem_map.mp hr
      obtain ⟨nm, _, z2, z5, i0, iz⟩ := cok c hc
      refine good_cons (wd_l (by simp)) (fun x hx => ?_) (by simp)
      have hx : x = c.x ∨ x = numS c.z ∨ x = numS c.i := by simpa using hx
      rcases hx with rfl | rfl | rfl
      · exact name_wd nm
      · exact num_wd (by omega) (by omega)
      · exact num_wd i0 (by omega)
    rcases List.mem_append.mp hr with hr | hr
    · obtain ⟨k, hk, hr⟩ := List.mem_flatMap.mp hr
      exact (kind_good (ok.kok k hk)).1 r hr
    rcases List.mem_append.mp hr with hr | hr
    · obtain ⟨d, hd, hr⟩ := List.mem_flatMap.mp hr
      exact (deed_good pk cok ok.kok (ok.dok d hd)).1 r hr
    · rw [List.mem_singleton.mp hr]
      have := ok.y1
      have := ok.y4
      exact good_cons (wd_l (by simp)) (fun x hx => by rw [List.mem_singleton.mp hx]; exact num_wd (by omega) (by omega)) (by simp)
  · unfold HouseD.page
    simp only [List.length_cons, List.length_append, List.length_map, List.length_nil]
    omega
theorem good_len {r : Rw} (h : Good r) : r.text.length ≤ 100 := by
  have a := (join_short (ws := r.ws) (fun x hx => (h.ok x hx).2) h.few).1
  have b : (pad r.d).length ≤ 2 := by cases r.d <;> decide +kernel
  show (pad r.d ++ Str.join " " r.ws).length ≤ 100
  rw [len_add]
  omega
theorem page_okD {h : HouseD} (ok : h.Ok) : PageOk h.page := by
  obtain ⟨g, l⟩ := page_good ok
  refine ⟨by omega, fun r hr => ?_⟩
  have gr := g r hr
  have gl := good_len gr
  unfold rwB
  rw [decide_eq_true gr.ne, decide_eq_true (by omega : r.text.length ≤ 900), List.all_eq_true.mpr fun x hx => (gr.ok x hx).1]
  rfl
theorem nl_len : ("\n" : Str).length = 1 := by decide +kernel
theorem text_shortD {h : HouseD} (ok : h.Ok) : (Str.join "\n" (h.page.map Rw.text)).length ≤ 10000 ∧ ((h.page.map Rw.text).map (·.length)).sum + (h.page.map Rw.text).length * ("\n" : Str).length ≤ 10000 := by
  obtain ⟨g, l⟩ := page_good ok
  have a := join_len "\n" (h.page.map Rw.text)
  have b := sum_len (m := 100) (h.page.map Rw.text) fun x hx => by
    obtain ⟨r, hr, rfl⟩ := List.mem_map.mp hx
    exact good_len (g r hr)
  rw [nl_len] at a ⊢
  rw [List.length_map] at a b ⊢
  omega
end Hx
set_option maxRecDepth 100000
set_option maxHeartbeats 1000000
namespace Hx
open PySem PySem.Spec PyProof.Rows L2
abbrev v4 (K : PySem.W.Frag) : TS := tFor (iTup K (xHp "deeds")) (gTup K 6 (gCons (gName 2) (gCons (gName 6) (gCons (gName 7) (gCons (gName 8) (gCons (gName 9) (gCons (gName 10) gNil)))))))
  (tSeq (xApp K 1 (tOp rStrAdd (tC (.str "deed ")) (tVar 2))) (tSeq (vBy K) (tSeq (vTs K) (tSeq (vPk K) (tSeq (vCh K) (vRs K))))))
abbrev v5 (K : PySem.W.Frag) : TS := tRet (tBM K "str" (rJoin K) (tC (.str "\n")) (tCons (tOp rCat (tVar 1) (tLst (tCons (tOp rStrAdd (tC (.str "day ")) (tCB rStrI (tCons (xHp "day") tNil))) tNil))) tNil))
section
variable {K : PySem.W.Frag} {σ : L2.St} {H H0 : Hp} {hd lp a pa : Addr} {rest : TS} {Z : Ends} {rows : List Rw}
theorem same_fr {H1 : Hp} (s : Same H0 H) (hlp : H0 lp = none) (f : ∀ q o, q ≠ lp → H q = some o → H1 q = some o) : Same H0 H1 := fun q o e => f q o (fun z => by rw [z, hlp] at e; cases e) (s q o e)
theorem segP4 {kvs : List (Key × V)} {people : List Str} {cs : List CellD} {ks : List KindD} {ds : List DeedD} {yss : List (List Str)} {xs : List V} (ps : PgS σ hd lp) (hlp : H0 lp = none) (s0 : Same H0 H) (eh : H0 hd = some (.dK kvs)) (ep : valV kvs (Sum.inr "people") = some (.ref pa)) (ed : valV kvs (Sum.inr "deeds") = some (.ref a)) (hp : SqT K H0 pa (people.map V.str))
    (hs : SqT K H0 a xs) (tx : TpAll K H0 xs (List.zipWith (DeedD.l cs ks) ds yss)) (dr : Drawn people ds yss) (d4 : ds.length ≤ 4) (ok : ∀ d ∈ ds, d.ok people cs ks) (p1 : 1 ≤ people.length) (p3 : people.length ≤ 3) (pk : ∀ x ∈ people, nameB x = true) (cok : ∀ c ∈ cs, c.ok) (kok : ∀ k ∈ ks, k.ok) (lr : LinesP H lp rows) (few : rows.length ≤ 200)
    (k : ∀ σ' H', PgS σ' hd lp → Same H0 H' → LinesP H' lp (rows ++ dRows cs ks ds) → rest Z σ' H') : tSeq (v4 K) rest Z σ H := by
  have ln := tx.length
  rw [List.length_zipWith, dr.1, Nat.min_self] at ln
  refine seq_tup ⟨_, ps.2.1, hd, _, rfl, dget_at (s0 _ _ eh) ed, a, rfl, ⟨_, same_sqt s0 hs⟩, ?_⟩
  refine fit_tup (xs := xs) (fun i σ' H' => PgS σ' hd lp ∧ Same H0 H' ∧ LinesP H' lp (rows ++ dRows cs ks (ds.take i)) ∧ (dRows cs ks (ds.take i)).length ≤ 10 * i) ⟨ps, s0, by show LinesP H lp (rows ++ []); rw [List.append_nil]; exact lr, Nat.le_refl _⟩ (fun i σ' H' _ z => same_sqt z.2.1 hs) ?_ ?_
  · rintro i x σ1 H1 hx ⟨q1, s1, l1, c1⟩
    have ix := (List.getElem?_eq_some_iff.mp hx).1
    obtain ⟨d', ed', tp⟩ := tx.get hx
    have i1 : i < ds.length := by omega
    have i2 : i < yss.length := by rw [dr.1]; exact i1
    have es : ds[i]? = some ds[i] := List.getElem?_eq_getElem i1
    have ey : yss[i]? = some yss[i] := List.getElem?_eq_getElem i2
    rw [List.getElem?_zipWith, es, ey] at ed'
    have ed' : d' = DeedD.l cs ks ds[i] yss[i] := (Option.some.inj ed').symm
    subst ed'
    obtain ⟨eby, ynd, ysub, y1, y9⟩ := dr.2 i _ _ es ey
    have dok := ok _ (List.mem_of_getElem? es)
    have dg := deed_good pk cok kok dok
    generalize ds[i] = d at es tp eby dok dg
    generalize yss[i] = ys at ey tp eby ynd ysub y1 y9
    obtain ⟨hx8, hb, t2, tok, k1, k5, c3, chok, r2, rok⟩ := dok
    obtain ⟨t, us, rfl, ht, hu⟩ := tp_tup tp
    cases hu with
    | cons u1 h2 => cases h2 with
      | cons u2 h3 => cases h3 with
        | cons u3 h4 => cases h4 with
          | cons u4 h5 => cases h5 with
            | cons u5 h6 => cases h6 with
              | cons u6 h7 => cases h7 with
                | nil =>
                  cases u1
                  cases u4
                  obtain ⟨ab, wb, rfl, hab, hwb⟩ := tp_tup u2
                  obtain ⟨at_, wt, rfl, hat, hwt⟩ := tp_tup u3
                  obtain ⟨ac, wc, rfl, hac, hwc⟩ := tp_tup u5
                  obtain ⟨ar, wr, rfl, har, hwr⟩ := tp_tup u6
                  have ewb : wb = ys.map V.str := by
                    have : ∀ (ss : List Str) (vs : List V), TpAll K H0 vs (ss.map PyData.str) → vs = ss.map V.str := by
                      intro ss
                      induction ss with
                      | nil => intro vs h; cases h; rfl
                      | cons s ss ih =>
                        intro vs h
                        cases h with
                        | cons h1 h2 =>
                          cases h1
                          rw [ih _ h2]
                          rfl
                    exact this _ _ hwb
                  subst ewb
                  refine ⟨t, _, rfl, same_sqt s1 ht, rfl, _, _, rfl, _, _, rfl, _, _, rfl, _, _, rfl, _, _, rfl, _, _, rfl, rfl, ?_⟩
                  have q2 := (((((q1.set (i := 2) (by decide) (some (V.str d.x))).set (i := 6) (by decide) (some (V.ref ab))).set (i := 7) (by decide) (some (V.ref at_))).set (i := 8) (by decide) (some (V.int d.pick))).set (i := 9) (by decide) (some (V.ref ac))).set (i := 10) (by decide) (some (V.ref ar))
                  have L := q1.1
                  show tSeq (xApp K 1 _) _ _ ((((((σ1.set 2 (some (V.str d.x))).set 6 (some (V.ref ab))).set 7 (some (V.ref at_))).set 8 (some (V.int d.pick))).set 9 (some (V.ref ac))).set 10 (some (V.ref ar))) H1
                  have g : ∀ {m : Nat} {v : V}, ((((((σ1.set 2 (some (V.str d.x))).set 6 (some (V.ref ab))).set 7 (some (V.ref at_))).set 8 (some (V.int d.pick))).set 9 (some (V.ref ac))).set 10 (some (V.ref ar)))[m]? = some (some v) → ((((((σ1.set 2 (some (V.str d.x))).set 6 (some (V.ref ab))).set 7 (some (V.ref at_))).set 8 (some (V.int d.pick))).set 9 (some (V.ref ac))).set 10 (some (V.ref ar)))[m]? = some (some v) := fun h => h
                  have g2 : ((((((σ1.set 2 (some (V.str d.x))).set 6 (some (V.ref ab))).set 7 (some (V.ref at_))).set 8 (some (V.int d.pick))).set 9 (some (V.ref ac))).set 10 (some (V.ref ar)))[2]? = some (some (V.str d.x)) := by
                    rw [List.getElem?_set_ne (by decide), List.getElem?_set_ne (by decide), List.getElem?_set_ne (by decide), List.getElem?_set_ne (by decide), List.getElem?_set_ne (by decide), List.getElem?_set_self (by omega)]
                  have g6 : ((((((σ1.set 2 (some (V.str d.x))).set 6 (some (V.ref ab))).set 7 (some (V.ref at_))).set 8 (some (V.int d.pick))).set 9 (some (V.ref ac))).set 10 (some (V.ref ar)))[6]? = some (some (V.ref ab)) := by
                    rw [List.getElem?_set_ne (by decide), List.getElem?_set_ne (by decide), List.getElem?_set_ne (by decide), List.getElem?_set_ne (by decide), List.getElem?_set_self (by simp only [List.length_set]; omega)]
                  have g7 : ((((((σ1.set 2 (some (V.str d.x))).set 6 (some (V.ref ab))).set 7 (some (V.ref at_))).set 8 (some (V.int d.pick))).set 9 (some (V.ref ac))).set 10 (some (V.ref ar)))[7]? = some (some (V.ref at_)) := by
                    rw [List.getElem?_set_ne (by decide), List.getElem?_set_ne (by decide), List.getElem?_set_ne (by decide), List.getElem?_set_self (by simp only [List.length_set]; omega)]
                  have g8 : ((((((σ1.set 2 (some (V.str d.x))).set 6 (some (V.ref ab))).set 7 (some (V.ref at_))).set 8 (some (V.int d.pick))).set 9 (some (V.ref ac))).set 10 (some (V.ref ar)))[8]? = some (some (V.int d.pick)) := by
                    rw [List.getElem?_set_ne (by decide), List.getElem?_set_ne (by decide), List.getElem?_set_self (by simp only [List.length_set]; omega)]
                  have g9 : ((((((σ1.set 2 (some (V.str d.x))).set 6 (some (V.ref ab))).set 7 (some (V.ref at_))).set 8 (some (V.int d.pick))).set 9 (some (V.ref ac))).set 10 (some (V.ref ar)))[9]? = some (some (V.ref ac)) := by
                    rw [List.getElem?_set_ne (by decide), List.getElem?_set_self (by simp only [List.length_set]; omega)]
                  have g10 : ((((((σ1.set 2 (some (V.str d.x))).set 6 (some (V.ref ab))).set 7 (some (V.ref at_))).set 8 (some (V.int d.pick))).set 9 (some (V.ref ac))).set 10 (some (V.ref ar)))[10]? = some (some (V.ref ar)) := by
                    rw [List.getElem?_set_self (by simp only [List.length_set]; omega)]
                  clear g
                  generalize (((((σ1.set 2 (some (V.str d.x))).set 6 (some (V.ref ab))).set 7 (some (V.ref at_))).set 8 (some (V.int d.pick))).set 9 (some (V.ref ac))).set 10 (some (V.ref ar)) = σ2 at q2 g2 g6 g7 g8 g9 g10
                  have n8 := name8 hx8
                  have i4 : i ≤ 4 := by omega
                  have yk : ∀ y ∈ ys, nameB y = true := fun y hy => pk y (ysub y hy)
                  have lrows : (rows ++ dRows cs ks (ds.take i)).length ≤ 240 := by rw [List.length_append]; omega
                  show xApp K 1 _ _ σ2 H1
                  refine app_line (r := ⟨false, ["deed", d.x]⟩) q2.2.2 l1 (by omega) (RdS.h (rd_pre p_deed (by decide +kernel) (rd_var g2) (by show d.x.length ≤ 90; omega))) fun H2 s2 => ?_
                  have t2s : Same H0 (upd H2 lp (.lst ((rows ++ dRows cs ks (ds.take i) ++ [(⟨false, ["deed", d.x]⟩ : Rw)]).map fun r => V.str r.text))) := same_grow hlp (s1.trans s2)
                  have l2 : LinesP (upd H2 lp (.lst ((rows ++ dRows cs ks (ds.take i) ++ [(⟨false, ["deed", d.x]⟩ : Rw)]).map fun r => V.str r.text))) lp (rows ++ dRows cs ks (ds.take i) ++ [(⟨false, ["deed", d.x]⟩ : Rw)]) := upd_same
                  show tSeq (vBy K) _ _ σ2 (upd H2 lp (.lst ((rows ++ dRows cs ks (ds.take i) ++ [(⟨false, ["deed", d.x]⟩ : Rw)]).map fun r => V.str r.text)))
                  generalize upd H2 lp (.lst ((rows ++ dRows cs ks (ds.take i) ++ [(⟨false, ["deed", d.x]⟩ : Rw)]).map fun r => V.str r.text)) = H3 at t2s l2
                  have bl : (byRows (byWr people ys)).length ≤ 1 := by unfold byWr; split <;> simp [byRows]
                  have pl : (pickRows d.pick).length ≤ 1 := by unfold pickRows; split <;> simp
                  refine segBy (people := people) q2 g6 (same_sqt t2s hab) (dget_at (t2s _ _ eh) ep) (same_sqt t2s hp) pk yk y1 y9 l2 (by simp only [List.length_append, List.length_singleton] at lrows ⊢; omega) fun H4 f4 l4 => ?_
                  have t4 := same_fr t2s hlp f4
                  refine segTs q2 g7 (same_sqt t4 hat) (hwt.same t4) t2 tok cok l4 (by simp only [List.length_append, List.length_singleton] at lrows ⊢; omega) fun H5 f5 l5 => ?_
                  have t5 := same_fr t4 hlp f5
                  refine segPk q2 g8 k1 k5 l5 (by simp only [List.length_append, List.length_singleton, List.length_map] at lrows ⊢; omega) fun H6 f6 l6 => ?_
                  have t6 := same_fr t5 hlp f6
                  refine segCh q2 g9 (same_sqt t6 hac) (hwc.same t6) c3 chok cok l6 (by simp only [List.length_append, List.length_singleton, List.length_map] at lrows ⊢; omega) fun H7 f7 l7 => ?_
                  have t7 := same_fr t6 hlp f7
                  refine segRs q2 g10 (same_sqt t7 har) (hwr.same t7) r2 rok pk cok kok l7 (by simp only [List.length_append, List.length_singleton, List.length_map] at lrows ⊢; omega) fun H8 f8 l8 => ?_
                  have t8 := same_fr t7 hlp f8
                  have et : rows ++ dRows cs ks (ds.take i) ++ [(⟨false, ["deed", d.x]⟩ : Rw)] ++ byRows (byWr people ys) ++ d.ts.map (TestD.row cs) ++ pickRows d.pick ++ d.chs.map (ChangeD.row cs) ++ d.rs.map (RowD.row cs ks) = rows ++ dRows cs ks (ds.take (i + 1)) := by
                    rw [dRows_take es, ← eby]
                    unfold DeedD.rows
                    simp only [List.append_assoc]
                    rfl
                  rw [et] at l8
                  refine ⟨q2, t8, l8, ?_⟩
                  rw [dRows_take es, List.length_append]
                  have := dg.2
                  omega
  · rintro σ1 H1 ⟨q1, s1, l1, c1⟩
    rw [ln, List.take_length] at l1
    exact k σ1 H1 q1 s1 l1
end
end Hx
set_option maxRecDepth 100000
set_option maxHeartbeats 1000000
namespace Hx
open PySem PySem.Spec PyProof.Rows L2
theorem map_snoc (A : List Rw) (r : Rw) : (A.map fun r => V.str r.text) ++ [V.str r.text] = ((A ++ [r]).map Rw.text).map V.str := by
  rw [List.map_append, List.map_append, List.map_map]
  rfl
theorem page_reads {K : PySem.W.Frag} (vs : List V) (H : Hp) (Q : VK) (hd : Addr) (h : HouseD) (yss : List (List Str)) (ok : h.Ok) (dr : Drawn h.people h.ds yss) (fh : FullHall K H hd h yss) (k : ∀ H', Same H H' → Q (.str (Str.join "\n" (h.page.map Rw.text))) H') :
    tSeq (v1 K) (tSeq (v2 K) (tSeq (v3 K) (tSeq (v4 K) (v5 K)))) { nx := fun _ H' => Q V.non H', rt := Q } (start nPage [V.ref hd]) H := by
  obtain ⟨kvs, pa, ca, ka, da, eh, e1, e2, e3, e4, e5, hp, hc, hk, hd'⟩ := fh.ex
  obtain ⟨ca', xc, eca, hsc, htc⟩ := tp_tup hc
  have eca : ca = ca' := V.ref.inj eca
  subst eca
  obtain ⟨ka', xk, eka, hsk, htk⟩ := tp_tup hk
  have eka : ka = ka' := V.ref.inj eka
  subst eka
  obtain ⟨da', xd, eda, hsd, htd⟩ := tp_tup hd'
  have eda : da = da' := V.ref.inj eda
  subst eda
  have pk : ∀ x ∈ h.people, nameB x = true := fun x hx => (ok.pok x hx).1
  refine segP1 (hd := hd) (a := pa) (people := h.people) rfl rfl (dget_at eh e1) hp ok.p1 ok.p3 pk fun lp H1 hlp s1 l1 => ?_
  have ps : PgS ((start nPage [V.ref hd]).set 1 (some (.ref lp))) hd lp := ⟨rfl, rfl, rfl⟩
  refine segP2 ps (dget_at (s1 _ _ eh) e2) (same_sqt s1 hsc) (htc.same s1) ok.cok.1 ok.cok.2.1 l1 (by show 1 ≤ 400; decide) fun H2 s2 => ?_
  have t2 : Same H (upd H2 lp (.lst (([(⟨false, "people" :: h.people⟩ : Rw)] ++ h.cs.map CellD.row).map fun r => V.str r.text))) := same_grow hlp (s1.trans s2)
  have l2 : LinesP (upd H2 lp (.lst (([(⟨false, "people" :: h.people⟩ : Rw)] ++ h.cs.map CellD.row).map fun r => V.str r.text))) lp ([(⟨false, "people" :: h.people⟩ : Rw)] ++ h.cs.map CellD.row) := upd_same
  generalize upd H2 lp (.lst (([(⟨false, "people" :: h.people⟩ : Rw)] ++ h.cs.map CellD.row).map fun r => V.str r.text)) = H3 at t2 l2
  have c3 := ok.cok.1
  have n2 : ([(⟨false, "people" :: h.people⟩ : Rw)] ++ h.cs.map CellD.row).length ≤ 4 := by
    rw [List.length_append, List.length_map]
    show 1 + _ ≤ 4
    omega
  refine segP3 (H0 := H) ps hlp t2 (dget_at (t2 _ _ eh) e3) hsk htk ok.k3 ok.kok l2 (by omega) fun σ4 H4 p4 t4 l4 n4 => ?_
  refine segP4 (H0 := H) (kvs := kvs) (pa := pa) p4 hlp t4 eh e1 e5 hp hsd htd dr ok.d4 ok.dok ok.p1 ok.p3 pk ok.cok.2.1 ok.kok l4 (by omega) fun σ5 H5 p5 t5 l5 => ?_
  have epage : h.page = [(⟨false, "people" :: h.people⟩ : Rw)] ++ h.cs.map CellD.row ++ kRows h.ks ++ dRows h.cs h.ks h.ds ++ [(⟨false, ["day", numS h.day]⟩ : Rw)] := by
    unfold HouseD.page
    simp only [List.append_assoc]
    rfl
  have y1 := ok.y1
  have y4 := ok.y4
  obtain ⟨_, pl⟩ := page_good ok
  have tsh := (text_shortD ok).2
  rw [epage, List.length_append] at pl
  show tBM K "str" (rJoin K) (tC (.str "\n")) _ σ5 H5 Q
  refine ⟨rfl, go_cons (go_op ⟨_, p5.2.2, go_lst (go_cons (go_op (go_cb (go_cons (go_dget ⟨_, p5.2.1, hd, _, rfl, dget_at (t5 _ _ eh) e4, ?_⟩)))))⟩)⟩
  refine ⟨h.day, rfl, log_small (by omega) (by omega), "day ", _, rfl, rfl, sz (by have := num8 (v := h.day) (by omega) (by omega); show 4 + (numS h.day).length ≤ 1000; omega), sz (by decide : 1 ≤ 1000), fun m hm => ?_⟩
  have et : ("day " : Str) ++ numS h.day = (⟨false, ["day", numS h.day]⟩ : Rw).text := line_in (w1 := numS h.day) (r := []) p_day
  rw [et]
  have s6 := same_new hm (.lst [V.str (⟨false, ["day", numS h.day]⟩ : Rw).text])
  refine ⟨lp, m, _, _, rfl, rfl, s6 _ _ l5, upd_same, sz (by rw [List.length_map]; show _ + 1 ≤ 1000; omega), fun n hn => ?_⟩
  have s7 := same_new hn (.lst ((([(⟨false, "people" :: h.people⟩ : Rw)] ++ h.cs.map CellD.row ++ kRows h.ks ++ dRows h.cs h.ks h.ds).map fun r => V.str r.text) ++ [V.str (⟨false, ["day", numS h.day]⟩ : Rw).text]))
  have e7 : ((([(⟨false, "people" :: h.people⟩ : Rw)] ++ h.cs.map CellD.row ++ kRows h.ks ++ dRows h.cs h.ks h.ds).map fun r => V.str r.text) ++ [V.str (⟨false, ["day", numS h.day]⟩ : Rw).text]) = (h.page.map Rw.text).map V.str := by
    rw [epage]
    exact map_snoc _ _
  refine ⟨"\n", n, h.page.map Rw.text, rfl, rfl, .inl (SqL.of ?_), by omega, ?_⟩
  · rw [upd_same, e7]
  · rw [TL.join_eq]
    exact k _ (t5.trans (s6.trans s7))
end Hx
set_option maxRecDepth 100000
set_option maxHeartbeats 1000000
namespace Hx
open PySem PySem.Spec PyProof.Rows L2
section
variable {P : Program} {w : World} {K : PySem.W.Frag} {mg : Str → Option Value} {base : Heap}
theorem ok_page {f : Addr} {fd : FuncData} (F : Fun K "_law_page" "_law_page" sPage f fd) (mst : mg "str" = none) : FnOk P w K mg base CX0 1 f fd ["_law_hall"] (spPage K) := by
  refine F.ok scPage (fun vs H Q E h => ?_) (fun cdv A outer s H vs Q E hr h => ?_)
  · obtain ⟨hd, h, yss, rfl, _⟩ := h
    rfl
  obtain ⟨hd, h, yss, rfl, ok, dr, fh, k⟩ := h
  have nd := scPage.nd
  have hu : (A.deeper (envOfC "_law_page" (defScope sPage) s.heap.objs.size f cdv)).units + 64 < cLine := hr.units
  refine ⟨_, (pss_cons (ps_set (i := 1) nd rfl (.inl rfl) (pe_lst (pa_cons (pe_op op_addS pe_str (pe_joinK K pe_str (pa_cons (pe_dget (hu_of hr) (pv 0) pe_str (fun _ _ => rfl)) pa_nil))) pa_nil)))
    (pss_cons (ps_expr (pe_bm PySem.F.plainAttrs_list PySem.F.slot_list_extend PySem.F.type_list_extend mt_extend (pv 1) (pa_cons (pe_lc (own := [("_law_name", 2), ("_law_size", 3), ("_law_first", 11)]) (g := gTup K 3 (gCons (gName 2) (gCons (gName 3) (gCons (gName 11) gNil)))) (tt := tYes) rfl nd (pi_tupK K (pe_dget (hu_of hr) (pv 0) pe_str (fun _ _ => rfl))) (blkOk_by (N := nPage) (sc := defScope sPage) (by decide +kernel))
        (fun _ _ _ _ _ => pg_tupK K (pgs_cons (pg_name (i := 2) nd rfl (Or.inl rfl)) (pgs_cons (pg_name (i := 3) nd rfl (Or.inl rfl)) (pgs_cons (pg_name (i := 11) nd rfl (Or.inl rfl)) pgs_nil)))) (fun _ _ _ _ _ => pts_nil)
        (fun _ _ _ _ _ => pe_joinK K pe_str (pa_cons (pe_lst (pa_cons pe_str (pa_cons (pv 2) (pa_cons (pe_callTy call_strI rfl mst PyProof.Rows.Boot.«str» (pa_cons (pv 3) pa_nil)) (pa_cons (pe_callTy call_strI rfl mst PyProof.Rows.Boot.«str» (pa_cons (pv 11) pa_nil)) pa_nil))))) pa_nil))) pa_nil)))
    (pss_cons (ps_for PassesOwn.never rfl (pi_tupK K (pe_dget (hu_of hr) (pv 0) pe_str (fun _ _ => rfl))) (pg_tupK K (pgs_cons (pg_name (i := 2) nd rfl (.inl rfl)) (pgs_cons (pg_name (i := 4) nd rfl (.inl rfl)) pgs_nil)))
      (pss_cons (ps_expr (pe_bm PySem.F.plainAttrs_list PySem.F.slot_list_append PySem.F.type_list_append mt_append (pv 1) (pa_cons (pe_op op_addS pe_str (pv 2)) pa_nil)))
      (pss_one (ps_for PassesOwn.never rfl (pi_tupK K (pv 4)) (pg_tupK K (pgs_cons (pg_name (i := 5) nd rfl (.inl rfl)) (pgs_cons (pg_name (i := 3) nd rfl (.inl rfl)) pgs_nil)))
        (pss_one (ps_expr (pe_bm PySem.F.plainAttrs_list PySem.F.slot_list_append PySem.F.type_list_append mt_append (pv 1) (pa_cons (pe_ifExp (pt_cmpR op_isN (pv 3) pe_non (nomark _)) (pe_op op_addS pe_str (pv 5)) (pe_op op_addS (pe_op op_addS (pe_op op_addS pe_str (pv 5)) pe_str) (pe_callTy call_strI rfl mst PyProof.Rows.Boot.«str» (pa_cons (pv 3) pa_nil)))) pa_nil))))))))
    (pss_cons (ps_for PassesOwn.never rfl (pi_tupK K (pe_dget (hu_of hr) (pv 0) pe_str (fun _ _ => rfl))) (pg_tupK K (pgs_cons (pg_name (i := 2) nd rfl (.inl rfl)) (pgs_cons (pg_name (i := 6) nd rfl (.inl rfl)) (pgs_cons (pg_name (i := 7) nd rfl (.inl rfl)) (pgs_cons (pg_name (i := 8) nd rfl (.inl rfl)) (pgs_cons (pg_name (i := 9) nd rfl (.inl rfl)) (pgs_cons (pg_name (i := 10) nd rfl (.inl rfl)) pgs_nil)))))))
      (pss_cons (ps_expr (pe_bm PySem.F.plainAttrs_list PySem.F.slot_list_append PySem.F.type_list_append mt_append (pv 1) (pa_cons (pe_op op_addS pe_str (pv 2)) pa_nil)))
      (pss_cons (ps_if (pt_cmpR (op_neD hu) (pv 6) (pe_dget (hu_of hr) (pv 0) pe_str (fun _ _ => rfl)) (nomark _)) (pss_one (ps_expr (pe_bm PySem.F.plainAttrs_list PySem.F.slot_list_append PySem.F.type_list_append mt_append (pv 1) (pa_cons (pe_op op_addS pe_str (pe_joinK K pe_str (pa_cons (pv 6) pa_nil))) pa_nil)))) pss_nil)
      (pss_cons (ps_expr (pe_bm PySem.F.plainAttrs_list PySem.F.slot_list_extend PySem.F.type_list_extend mt_extend (pv 1) (pa_cons (pe_lc (own := [("_law_cell", 12), ("_law_sign", 13), ("_law_worth", 14)]) (g := gTup K 3 (gCons (gName 12) (gCons (gName 13) (gCons (gName 14) gNil)))) (tt := tYes) rfl nd (pi_tupK K (pv 7)) (blkOk_by (N := nPage) (sc := defScope sPage) (by decide +kernel))
          (fun _ _ _ _ _ => pg_tupK K (pgs_cons (pg_name (i := 12) nd rfl (Or.inl rfl)) (pgs_cons (pg_name (i := 13) nd rfl (Or.inl rfl)) (pgs_cons (pg_name (i := 14) nd rfl (Or.inl rfl)) pgs_nil)))) (fun _ _ _ _ _ => pts_nil)
          (fun _ _ _ _ _ => pe_op op_addS pe_str (pe_joinK K pe_str (pa_cons (pe_lst (pa_cons (pv 12) (pa_cons (pv 13) (pa_cons (pe_callTy call_strI rfl mst PyProof.Rows.Boot.«str» (pa_cons (pv 14) pa_nil)) pa_nil)))) pa_nil)))) pa_nil)))
      (pss_cons (ps_if (pt_cmpR op_gt (pv 8) pe_int (nomark _)) (pss_one (ps_expr (pe_bm PySem.F.plainAttrs_list PySem.F.slot_list_append PySem.F.type_list_append mt_append (pv 1) (pa_cons (pe_op op_addS pe_str (pe_callTy call_strI rfl mst PyProof.Rows.Boot.«str» (pa_cons (pv 8) pa_nil))) pa_nil)))) pss_nil)
      (pss_cons (ps_expr (pe_bm PySem.F.plainAttrs_list PySem.F.slot_list_extend PySem.F.type_list_extend mt_extend (pv 1) (pa_cons (pe_lc (own := [("_law_change", 15)]) (g := gName 15) (tt := tYes) rfl nd (pi_tupK K (pv 9)) (blkOk_by (N := nPage) (sc := defScope sPage) (by decide +kernel)) (fun _ _ _ _ _ => pg_name (i := 15) nd rfl (Or.inl rfl)) (fun _ _ _ _ _ => pts_nil)
          (fun _ _ _ _ _ => pe_op op_addS pe_str (pe_joinK K pe_str (pa_cons (pv 15) pa_nil)))) pa_nil)))
      (pss_one (ps_expr (pe_bm PySem.F.plainAttrs_list PySem.F.slot_list_extend PySem.F.type_list_extend mt_extend (pv 1) (pa_cons (pe_lc (own := [("_law_kind", 16), ("_law_lot", 17)]) (g := gTup K 2 (gCons (gName 16) (gCons (gName 17) gNil))) (tt := tYes) rfl nd (pi_tupK K (pv 10)) (blkOk_by (N := nPage) (sc := defScope sPage) (by decide +kernel)) (fun _ _ _ _ _ => pg_tupK K (pgs_cons (pg_name (i := 16) nd rfl (Or.inl rfl)) (pgs_cons (pg_name (i := 17) nd rfl (Or.inl rfl)) pgs_nil))) (fun _ _ _ _ _ => pts_nil)
          (fun _ _ _ _ _ => pe_op op_addS pe_str (pe_joinK K pe_str (pa_cons (pe_op (op_catAK K) (pe_tup (pa_cons pe_str (pa_cons (pv 16) pa_nil))) (pv 17)) pa_nil)))) pa_nil))))))))))
    (pss_one (ps_ret (pe_joinK K pe_str (pa_cons (pe_op op_cat (pv 1) (pe_lst (pa_cons (pe_op op_addS pe_str (pe_callTy call_strI rfl mst PyProof.Rows.Boot.«str» (pa_cons (pe_dget (hu_of hr) (pv 0) pe_str (fun _ _ => rfl)) pa_nil))) pa_nil))) pa_nil)))))))), ?_⟩
  exact page_reads [] H Q hd h yss ok dr fh k
end
end Hx
set_option maxRecDepth 100000
set_option maxHeartbeats 2000000
/-! Promises of defs that are called where no repr is under way. -/
namespace L2
open PySem PySem.Spec PyProof.Rows
structure FnG (P : Program) (w : World) (K : PySem.W.Frag) (mg : Str → Option Value) (base : Heap) (k : Nat) (f : Addr) (fd : FuncData) (ps : List Str) (sp : Sp) : Prop where
  len : ∀ vs H Q E, sp vs H Q E → vs.length = ps.length
  run : ∀ (A : Around) (outer : List Env) (s : Shared) (H : Hp) (args : Args) (us : List Value) (vs : List V) (Q : VK), A.guards = some [] → Room k A → Env0 P w K mg base A outer s H → BindsTo s fd args (ps.zip us) → Vals vs us → sp vs H Q E0 →
    codeAny (model P w) A (.call (.ref f) args) (CR CX0 outer P w H s Q E0) s

section
variable {P : Program} {w : World} {K : PySem.W.Frag} {mg : Str → Option Value} {base : Heap} {k : Nat} {f : Addr} {fd : FuncData} {ps : List Str} {sp : Sp}
theorem FnG.mono {j : Nat} (F : FnG P w K mg base j f fd ps sp) (h : j ≤ k) : FnG P w K mg base k f fd ps sp :=
  ⟨F.len, fun A outer s H args us vs Q hg hr => F.run A outer s H args us vs Q hg (hr.mono h)⟩
/-- such a def by its body -/
theorem Fun.okG {x qual : Str} {st : Stmt} {N : List Str} (F : Fun K x qual st f fd) (S : FnScope N ps (defScope st)) (len : ∀ vs H Q E, sp vs H Q E → vs.length = ps.length)
    (hbody : ∀ (cdv : Value) (A : Around) (outer : List Env) (s : Shared) (H : Hp) (vs : List V) (Q : VK), A.guards = some [] → Room k (A.deeper (envOfC qual (defScope st) s.heap.objs.size f cdv)) → sp vs H Q E0 →
      ∃ t, PSs (cxOf CX0 P w K mg base N qual (defScope st) f cdv A outer s H E0).nox (defBody st) t ∧ t { nx := fun _ H' => Q .non H', rt := Q } (start N vs) H) : FnG P w K mg base (k + 1) f fd ps sp := by
  obtain ⟨oc, od, kV, doc, pm, an, cdv, ct, osl, rfl, found, code⟩ := F.ex
  refine ⟨len, fun A outer s H args us vs Q hg hr e0 hb rv hsp => ?_⟩
  have many := len _ _ _ _ hsp
  have X0 : K.In s.heap := e0.mod.kin.keeps fun b o e => (e0.bs b o e).1
  have kinds : ∀ y ∈ ps.zip us, (defScope st).names.lookup y.1 = some .local ∨ ((defScope st).names.lookup y.1 = some .cell ∧ ((cellsFrom (s.heap.objs.size + 1) (defScope st).names []).lookup y.1).isSome = true) := fun ⟨n, v⟩ hy =>
    (S.par n (List.of_mem_zip hy).1).imp id fun q => ⟨q, PySem.W.cellsFrom_some _ _ _ (.inl q)⟩
  refine codeAny_call_function hr.depth (X0 _ _ found) rfl S.co S.gen rfl (PySem.W.codeRec_of X0 code) (hb _ _ _ _ (wpAny_newFunctionEnv_cells S.kind kinds fun env he s1 x => ?_))
  subst he
  refine ⟨(e0.mod.nolimit.keeps fun b o e => (e0.bs b o e).1).keeps x.toInCall.keep, codeAny_func ?_⟩
  obtain ⟨t, ht, hq⟩ := hbody cdv A outer s H vs Q hg (hr.deeper _) hsp
  refine wpAny_mono (ht.nox.run [] s1 (start N vs) H _ (inv_start S hr.hd e0 many rv x) hq) (fun fl s' hs => ?_) fun e s' hs => hs
  rcases fl with _ | _ | _ | u
  all_goals first
    | (obtain ⟨σ', H', J, q⟩ := hs; exact ⟨V.non, H', J.os, J.bare, J.base, J.hok, rfl, q⟩)
    | (obtain ⟨v, σ', H', J, r, q⟩ := hs; exact ⟨v, H', J.os, J.bare, J.base, J.hok, r, q⟩)
    | (obtain ⟨_, _, _, q⟩ := hs; exact q.elim)
end
section
variable {X : Cx} {k : Nat} {f : Addr} {fd : FuncData} {ps : List Str} {sp : Sp} {x : Str} {p pos : Pos} {e : Expr} {es : List Expr} {t : TA}
/-- f(e, ..) -/
theorem pe_callG (F : FnG X.prog X.w X.K X.mg X.base k f fd ps sp) (hA : X.A.guards = some []) (hr : Room k X.A) (hg : Gl X x) (hm : X.mg x = some (.ref f)) (hk : PySem.W.keepIn X.K (.ref f) = true) (hb : Binds X.K fd ps []) (ha : PA X (e :: es) t)
    (hdb : (x == ("__debug__" : Str)) = false := by decide) (he : starEach (e :: es) X.env = (false, eval e X.env) :: starEach es X.env := by rfl) (hpl : (backTo pos (starEach es X.env)).any (·.1) = false := by rfl) :
    PE X (.Call (.Name x p) (e :: es) [] pos) (fun σ H Q => t σ H fun vs H1 => sp vs H1 Q E0) := by
  refine ⟨fun pins s σ H Q I h => wpAny_Call_Name_kw (ld_glob I hg hm ?_ hdb)⟩
  refine PySem.W.callWith_K (h₀ := X.base) I.ok.mod.kin hk (thn (ha.run pos pins s σ H _ I h) fun us s1 hh => ?_) he hpl
  obtain ⟨vs, H1, I1, r, q⟩ := hh
  have hl : (us ++ []).length = ps.length := by
    rw [List.append_nil, ← r.length]
    exact F.len _ _ _ _ q
  have bound := hb s1 us I1.kIn hl
  rw [List.append_nil] at bound
  refine ⟨I1.kIn, wpAny_call (codeAny_mono (F.run X.A X.stack s1 H1 ⟨us, []⟩ us vs Q hA hr I1.env0 bound r q) fun res s' z => ?_)⟩
  rcases res with er | (u | _ | _ | _)
  · exact False.elim z
  all_goals first | exact I1.after z | exact False.elim z
end
end L2
set_option maxRecDepth 100000
set_option maxHeartbeats 2000000
/-! The end of a law over such promises. -/
namespace L2
open PySem PySem.Spec PyProof.Rows
section
variable {P : Program} {w : World} {K : PySem.W.Frag} {mg mb : Str → Option Value} {k : Nat} {fa a : Addr} {fd : FuncData} {x : Str} {sp : Sp} {s₁ : Shared} {vs : List Value} {ns : List Int}
/-- with what is tracked given: H, the script alone or nothing -/
theorem endG (KX : K.In s₁.heap) (gl : s₁.heap.Ns mainGlobals mg) (bl : s₁.heap.Ns builtinsNs mb) (bb : ∀ x : Str, x ≠ "__name__" → mb x = bootBuiltins x) (lim : s₁.heap.NoLimit) (gens : s₁.gens = #[])
    (ha : s₁.heap.get? a = some { cls := .type "list", data := .seq vs.toArray }) (hr : Room k callerA) (F : ∀ base : Heap, K.In base → base.Ns mainGlobals mg → FnG P w K mg base k fa fd [x] sp)
    (bind : ∀ (s : Shared) (u : Value), BindsTo s fd ⟨[u], []⟩ [(x, u)]) {H : Hp} (only : Only H) (ok : HOk P w H s₁.heap) (at_a : ∀ b, H b ≠ none → b = a) (noK : H a ≠ none → K.lookup a = none) (hsp : sp [.ref a] H (fun v _ => v = .bl true) E0) :
    codeAny (model P w) callerA (.call (.ref fa) ⟨[.ref a], []⟩) (fun r s' => r = .ok (.ret (.bool true)) ∧ OldK s₁.heap s'.heap ∧ s'.os = s₁.os ∧ AllBare s'.gens) s₁ := by
  have free : ∀ {b : Addr} {o : Obj}, s₁.heap.get? b = some o → (b = a → False) → H b = none := fun {b o} _ n => by
    cases q : H b with
    | none => rfl
    | some u => exact (n (at_a b (by rw [q]; exact fun z => nomatch z))).elim
  have spaces : ∀ {b : Addr} {m : Str → Option Value}, s₁.heap.Ns b m → (hidT s₁.heap H).Ns b m := fun {b m} hn => by
    obtain ⟨o, es, ep, e, d, r⟩ := hn
    refine ⟨o, es, ep, hidT_get e (free e fun z => ?_), d, r⟩
    rw [z, ha] at e
    cases e
    cases d
  have KB : K.In (hidT s₁.heap H) := fun b o e => by
    refine hidT_get (KX b o e) ?_
    cases q : H b with
    | none => rfl
    | some u =>
      have z := at_a b (by rw [q]; exact fun z => nomatch z)
      subst z
      rw [noK (by rw [q]; exact fun z => nomatch z)] at e
      cases e
  have mod : Mod K mg (hidT s₁.heap H) := by
    obtain ⟨mc, l1, l2⟩ := lim
    exact ⟨KB, spaces gl, ⟨mb, spaces bl, bb⟩, mc, spaces l1, l2⟩
  have e0 : Env0 P w K mg (hidT s₁.heap H) callerA [] s₁ H := ⟨rfl, mod, fun b o e => of_hidT e, Nat.le_of_eq (hidT_size _ _), trivial, (fun _ z => nomatch z), ok, .of_eq gens⟩
  refine codeAny_mono ((F _ KB (spaces gl)).run callerA [] s₁ H ⟨[.ref a], []⟩ [.ref a] [.ref a] _ rfl hr e0 (bind s₁ (.ref a)) (.cons rfl .nil) hsp) fun r s' z => ?_
  cases r with
  | error er => exact False.elim z
  | ok fl =>
  cases fl with
  | next => exact False.elim z
  | brk => exact False.elim z
  | cont => exact False.elim z
  | ret u =>
  obtain ⟨v, H', os, bare, un, ok', rv, q⟩ := z
  obtain rfl : v = .bl true := q
  obtain rfl : u = Value.bool true := rv
  refine ⟨rfl, OldK.of_keep fun b o e => ?_, os, bare⟩
  cases q : H b with
  | none => exact un.keep b o e q (fun z => nomatch z) (fun z => nomatch z)
  | some t =>
    rcases only b with z | ⟨ob, xs, z⟩
    · rw [q] at z
      cases z
    · obtain ⟨e1, _⟩ := ok b _ z
      obtain ⟨e2, _⟩ := ok' b _ (un.frzs b ob _ z)
      rw [e] at e1
      cases e1
      exact e2
/-- the law, called -/
theorem callG (KX : K.In s₁.heap) (gl : s₁.heap.Ns mainGlobals mg) (bl : s₁.heap.Ns builtinsNs mb) (bb : ∀ x : Str, x ≠ "__name__" → mb x = bootBuiltins x) (lim : s₁.heap.NoLimit) (gens : s₁.gens = #[])
    (ha : s₁.heap.get? a = some { cls := .type "list", data := .seq vs.toArray }) (whole : IntsAre vs ns) (hl : ns.length ≤ sizeLine) (hr : Room k callerA) (F : ∀ base : Heap, K.In base → base.Ns mainGlobals mg → FnG P w K mg base k fa fd [x] sp)
    (bind : ∀ (s : Shared) (u : Value), BindsTo s fd ⟨[u], []⟩ [(x, u)]) (hsp : ∀ H : Hp, Only H → SqL K H a (ns.map V.int) → sp [.ref a] H (fun v _ => v = .bl true) E0) :
    codeAny (model P w) callerA (.call (.ref fa) ⟨[.ref a], []⟩) (fun r s' => r = .ok (.ret (.bool true)) ∧ OldK s₁.heap s'.heap ∧ s'.os = s₁.os ∧ AllBare s'.gens) s₁ := by
  have rv := vals_ints whole
  cases hk : K.lookup a with
  | some o =>
    have e := KX a o hk
    rw [ha] at e
    cases e
    have only : Only (fun _ => none) := fun _ => .inl rfl
    exact endG KX gl bl bb lim gens ha hr F bind only (fun b u z => nomatch z) (fun b z => (z rfl).elim) (fun z => (z rfl).elim) (hsp _ only (.inr ⟨_, vs.toArray, _, hk, rfl, rfl, rfl, by rw [List.size_toArray, whole.length]; exact hl, by simpa using rv⟩))
  | none =>
    let S : HO := .frz { cls := .type "list", data := .seq vs.toArray } (.lst (ns.map V.int))
    let H : Hp := fun b => if b = a then some S else none
    have ha' : H a = some S := if_pos rfl
    have ne' : ∀ b, b ≠ a → H b = none := fun b n => if_neg n
    have only : Only H := fun b => by
      by_cases hb : b = a
      · exact .inr ⟨_, _, by rw [hb]; exact ha'⟩
      · exact .inl (ne' b hb)
    refine endG KX gl bl bb lim gens ha hr F bind only (fun b u z => ?_) (fun b z => ?_) (fun _ => hk) (hsp H only (.inl (.inr ⟨_, ha'⟩)))
    · by_cases hb : b = a
      · subst hb
        rw [ha'] at z
        cases z
        exact ⟨ha, by rw [List.length_map]; exact hl, vs, _, rv, ha⟩
      · rw [ne' b hb] at z
        cases z
    · by_cases hb : b = a
      · exact hb
      · exact (z (ne' b hb)).elim
end
/-- what the head leaves -/
theorem walkG {l : PySem.W.OpenLaw} {n k : Nat} {q : Program} {loose : List Str} {XP : (Str → Option Value) → Heap → Prop} {YP : World → Heap → Prop} {d : DefRec} {K : Params → PySem.W.Frag} {sp : PySem.W.Frag → Sp} {x : Str}
    (most : l.most = some n) (fits : n ≤ sizeLine) (nod : d.params.defaults = []) (room : Room k callerA) (hY : ∀ (w : World) (h : Heap), YP w h → (K w.params).In h)
    (F : ∀ (w : World) (mg : Str → Option Value) (fa : Addr) (h : Heap), (K w.params).In h → h.Ns mainGlobals mg → mg d.name = some (.ref fa) →
      ∃ fd : FuncData, (∀ (s : Shared) (u : Value), BindsTo s fd ⟨[u], []⟩ [(x, u)]) ∧ ∀ base : Heap, (K w.params).In base → base.Ns mainGlobals mg → FnG l.prog w (K w.params) mg base k fa fd [x] (sp (K w.params)))
    (hsp : ∀ (K : PySem.W.Frag) (H : Hp) (a : Addr) (ns : List Int), ns.length ≤ n → Only H → SqL K H a (ns.map V.int) → sp K [.ref a] H (fun v _ => v = .bl true) E0) :
    PySem.W.WalkO q loose XP YP l.row.toRowW d [] (fun f vs => PySem.call f vs) := by
  refine Att.attach_call most nod fun w s₀ s₁ mg mb fa o pm cd doc a vs ns G Y ho hd hcd hmg hobj whole len gens => ?_
  have KX := hY w _ Y
  obtain ⟨fd, bind, made⟩ := F w mg fa _ KX G.T.g hmg
  exact callG KX G.T.g G.T.b G.T.builtins G.T.nolimit gens hobj whole (Nat.le_trans len fits) room made bind fun H only sq => hsp _ H a ns len only sq
end L2
set_option maxRecDepth 100000
set_option maxHeartbeats 1000000
/-! Small data: figures and names in tuples and lists; their repr. -/
namespace Hx
open PySem PySem.Spec PyProof.Rows L2
mutual
def smB : PyData → Bool
  | .none => true
  | .int i => decide (0 ≤ i) && decide (i < 10)
  | .str x => nameB x
  | .list xs => smAll xs
  | .tuple xs => smAll xs
  | _ => false
def smAll : List PyData → Bool
  | [] => true
  | x :: xs => smB x && smAll xs
end
mutual
def nodes : PyData → Nat
  | .list xs => nodesAll xs + 1
  | .tuple xs => nodesAll xs + 1
  | _ => 1
def nodesAll : List PyData → Nat
  | [] => 0
  | x :: xs => nodes x + nodesAll xs
end
theorem ten {i : Int} (h0 : 0 ≤ i) (h1 : i < 10) (p : Int → Prop) (a0 : p 0) (a1 : p 1) (a2 : p 2) (a3 : p 3) (a4 : p 4) (a5 : p 5) (a6 : p 6) (a7 : p 7) (a8 : p 8) (a9 : p 9) : p i := by
  have e : i = 0 ∨ i = 1 ∨ i = 2 ∨ i = 3 ∨ i = 4 ∨ i = 5 ∨ i = 6 ∨ i = 7 ∨ i = 8 ∨ i = 9 := by omega
  rcases e with rfl | rfl | rfl | rfl | rfl | rfl | rfl | rfl | rfl | rfl <;> assumption
structure SmD (d : PyData) : Prop where
  p1 : d.canLay0 = true
  p2 : d.showable = true
  p3 : d.intsShort 13 = true
  p4 : d.hasDict = false
  p5 : PyData.eqv d d = true
  p6 : d.weight + 1 ≤ 10 * nodes d
structure SmA (ds : List PyData) : Prop where
  p1 : PyData.canLayAll0 ds = true
  p2 : PyData.showableAll ds = true
  p3 : PyData.intsShortAll 13 ds = true
  p4 : PyData.hasDictAll ds = false
  p5 : PyData.eqvAll ds ds = true
  p6 : PyData.weightAll ds ≤ 10 * nodesAll ds
theorem sm_int {i : Int} (h0 : 0 ≤ i) (h1 : i < 10) : SmD (.int i) := by
  refine ten h0 h1 (fun i => SmD (.int i)) ?_ ?_ ?_ ?_ ?_ ?_ ?_ ?_ ?_ ?_
  all_goals exact ⟨by decide +kernel, by decide +kernel, by decide +kernel, by decide +kernel, by decide +kernel, by decide +kernel⟩
theorem sm_str {x : Str} (h : nameB x = true) : SmD (.str x) := by
  obtain ⟨h1, h2, _⟩ := name_is h
  refine ⟨?_, rfl, rfl, rfl, ?_, ?_⟩
  · simp only [PyData.canLay0]
    exact name_str h
  · simp only [PyData.eqv, beq_self_eq_true]
  · simp only [PyData.weight, nodes]
    have : x.cps.size = x.length := rfl
    omega
mutual
theorem sm_all : ∀ d : PyData, smB d = true → SmD d
  | .none, _ => ⟨by decide +kernel, by decide +kernel, by decide +kernel, by decide +kernel, by decide +kernel, by decide +kernel⟩
  | .bool _, h => by simp [smB] at h
  | .dict _, h => by simp [smB] at h
  | .int i, h => by
    simp only [smB, Bool.and_eq_true, decide_eq_true_eq] at h
    exact sm_int h.1 h.2
  | .str x, h => sm_str (by simpa [smB] using h)
  | .list xs, h => by
    obtain ⟨a1, a2, a3, a4, a5, a6⟩ := sma_all xs (by simpa [smB] using h)
    exact ⟨by simpa [PyData.canLay0] using a1, by simpa [PyData.showable] using a2, by simpa [PyData.intsShort] using a3, by simpa [PyData.hasDict] using a4, by simpa [PyData.eqv] using a5, by simp only [PyData.weight, nodes]; omega⟩
  | .tuple xs, h => by
    obtain ⟨a1, a2, a3, a4, a5, a6⟩ := sma_all xs (by simpa [smB] using h)
    exact ⟨by simpa [PyData.canLay0] using a1, by simpa [PyData.showable] using a2, by simpa [PyData.intsShort] using a3, by simpa [PyData.hasDict] using a4, by simpa [PyData.eqv] using a5, by simp only [PyData.weight, nodes]; omega⟩
theorem sma_all : ∀ ds : List PyData, smAll ds = true → SmA ds
  | [], _ => ⟨rfl, rfl, rfl, rfl, rfl, by simp [PyData.weightAll, nodesAll]⟩
  | d :: ds, h => by
    simp only [smAll, Bool.and_eq_true] at h
    obtain ⟨a1, a2, a3, a4, a5, a6⟩ := sm_all d h.1
    obtain ⟨b1, b2, b3, b4, b5, b6⟩ := sma_all ds h.2
    refine ⟨by simp [PyData.canLayAll0, a1, b1], by simp [PyData.showableAll, a2, b2], by simp [PyData.intsShortAll, a3, b3], by simp [PyData.hasDictAll, a4, b4], by simp [PyData.eqvAll, a5, b5], ?_⟩
    simp only [PyData.weightAll, nodesAll]
    omega
end
/-- small data of a shape that is told -/
structure Small (d : PyData) : Prop where
  b : smB d = true
  dep : d.depth ≤ 20
  few : nodes d ≤ 1000
theorem Small.shaped {d : PyData} (h : Small d) : SeqAt.shaped d = true := by
  have := h.dep
  unfold SeqAt.shaped
  rw [(sm_all d h.b).p1, decide_eq_true (by omega)]
  rfl
theorem Small.self {d : PyData} (h : Small d) : PyData.eqv d d = true := (sm_all d h.b).p5
theorem Small.len {d : PyData} (h : Small d) : d.shown.length ≤ sizeLine := by
  have s := sm_all d h.b
  have hw := s.p6
  have hf := h.few
  have hd := h.dep
  have e : (2 : Nat) ^ 20 = 1048576 := by decide
  have l : PyData.layable0 d = true := by
    unfold PyData.layable0
    rw [s.p1, decide_eq_true (by omega), decide_eq_true (by omega)]
    rfl
  exact Nat.le_trans (PyProof.Rows.shown_le13 l s.p3) (by decide)
/-- repr of such lists -/
def rReprL (K : PySem.W.Frag) : List V → Hp → VK → Prop := fun xs H Q => ∃ (x : V) (ds : List PyData), xs = [x] ∧ Dp K H x (.list ds) ∧ Small (.list ds) ∧ Q (.str (PyData.list ds).shown) H
theorem call_reprL {X : Cx} (hg : X.A.guards = some []) (hu : X.A.units + 64 < cLine) : CallR X (.builtin "repr") (rReprL X.K) := by
  intro pins s σ H xs us Q I r h
  obtain ⟨x, ds, rfl, tx, sm, q⟩ := h
  obtain ⟨u, rfl, ru⟩ := vals1 r
  obtain ⟨as, hr⟩ := Dp.reads I _ x u tx ru
  obtain ⟨a, rfl⟩ : ∃ a, x = .ref a := by
    cases tx with
    | lst h1 h2 => exact ⟨_, rfl⟩
  obtain rfl := (show u = Value.ref _ from ru)
  have hd := sm.dep
  have s := sm_all _ sm.b
  exact repr_of_reads' hr s.p2 (fun z => by rw [s.p4] at z; cases z) hg (by omega) (fun _ _ e => e) (fun h' u tk k => ⟨.str _, H, I.kept k, ⟨_, rfl⟩, q⟩) sm.len
end Hx
set_option maxRecDepth 100000
set_option maxHeartbeats 1000000
/-! Rows in one order; rows that are small. -/
namespace Hx
open PySem PySem.Spec PyProof.Rows L2
theorem itLt_no {x y : V} (h1 : itLt x y = false) (h2 : itLt y x = false) (hx : (∃ i j, x = .int i ∧ y = .int j) ∨ ∃ s t, x = .str s ∧ y = .str t) : x = y := by
  rcases hx with ⟨i, j, rfl, rfl⟩ | ⟨s, t, rfl, rfl⟩
  · have a := of_decide_eq_false (p := i < j) h1
    have b := of_decide_eq_false (p := j < i) h2
    rw [show i = j by omega]
  · have a := of_decide_eq_false (p := s.cps.toList < t.cps.toList) h1
    have b := of_decide_eq_false (p := t.cps.toList < s.cps.toList) h2
    rw [str_toList (nat_tri _ _ a b)]
theorem rowLt_no {shape : Nat → Bool} : ∀ {k : Nat} {xs ys : List V}, fitsAt shape k xs = true → fitsAt shape k ys = true → rowLt xs ys = false → rowLt ys xs = false → xs = ys
  | _, [], [], _, _, _, _ => rfl
  | _, [], _ :: _, _, _, h, _ => by cases h
  | _, _ :: _, [], _, _, _, h => by cases h
  | k, x :: xs, y :: ys, fx, fy, h1, h2 => by
    obtain ⟨fx', cx⟩ := fits_case fx
    obtain ⟨fy', cy⟩ := fits_case fy
    have h1 : (itLt x y || (decide (x = y) && rowLt xs ys)) = false := h1
    have h2 : (itLt y x || (decide (y = x) && rowLt ys xs)) = false := h2
    simp only [Bool.or_eq_false_iff] at h1 h2
    have e : x = y := itLt_no h1.1 h2.1 (by
      rcases cx with ⟨i, rfl, s1⟩ | ⟨t, rfl, s1⟩ <;> rcases cy with ⟨j, rfl, s2⟩ | ⟨u, rfl, s2⟩
      · exact .inl ⟨i, j, rfl, rfl⟩
      · rw [s1] at s2; cases s2
      · rw [s1] at s2; cases s2
      · exact .inr ⟨t, u, rfl, rfl⟩)
    subst e
    have h3 := h1.2
    have h4 := h2.2
    rw [decide_eq_true rfl, Bool.true_and] at h3 h4
    rw [rowLt_no fx' fy' h3 h4]
theorem rows_one {shape : Nat → Bool} {l m : List (List V)} (hl : ∀ r ∈ l, fitsAt shape 0 r = true) (sl : l.Pairwise fun x y => rowLt y x = false) (sm : m.Pairwise fun x y => rowLt y x = false) (p : l.Perm m) : l = m :=
  List.Perm.eq_of_pairwise (fun a b ha hb h1 h2 => rowLt_no (hl a ha) (hl b (p.mem_iff.mpr hb)) h2 h1) sl sm p
def shp : Nat → Bool := fun k => decide (k < 3)
theorem do_fit (x y : Str) (i : Int) : fitsAt shp 0 [V.str "do", .str x, .str y, .int i] = true := rfl
theorem night_fit : fitsAt shp 0 [V.str "night"] = true := rfl
theorem do_night : itLt (V.str "do") (V.str "night") = true := by decide +kernel
theorem night_do : itLt (V.str "night") (V.str "do") = false := by decide +kernel
/-- a deed's row -/
def IsDo (r : List V) : Prop := ∃ (x y : Str) (i : Int), r = [V.str "do", .str x, .str y, .int i] ∧ nameB x = true ∧ nameB y = true ∧ 0 ≤ i ∧ i < 10
theorem IsDo.fit {r : List V} (h : IsDo r) : fitsAt shp 0 r = true := by
  obtain ⟨x, y, i, rfl, _⟩ := h
  rfl
theorem IsDo.before {r : List V} (h : IsDo r) : rowLt [V.str "night"] r = false := by
  obtain ⟨x, y, i, rfl, _⟩ := h
  show (itLt (V.str "night") (V.str "do") || (decide (V.str "night" = V.str "do") && true)) = false
  rw [night_do, decide_eq_false (by decide +kernel)]
  rfl
theorem with_night {rs : List (List V)} (h : ∀ r ∈ rs, IsDo r) (s : rs.Pairwise fun x y => rowLt y x = false) : (rs ++ [[V.str "night"]]).Pairwise fun x y => rowLt y x = false := by
  refine List.pairwise_append.mpr ⟨s, List.pairwise_singleton _ _, fun r hr y hy => ?_⟩
  have hy : y = [V.str "night"] := by simpa using hy
  rw [hy]
  exact (h r hr).before
/-! ### such rows are small -/
theorem sm_forall : ∀ {ds : List PyData}, (∀ d ∈ ds, smB d = true) → smAll ds = true
  | [], _ => rfl
  | d :: ds, h => by
    simp only [smAll, Bool.and_eq_true]
    exact ⟨h d (List.mem_cons_self ..), sm_forall fun e he => h e (List.mem_cons_of_mem _ he)⟩
theorem dep_forall {n : Nat} : ∀ {ds : List PyData}, (∀ d ∈ ds, d.depth ≤ n) → PyData.depthAll ds ≤ n
  | [], _ => Nat.zero_le _
  | d :: ds, h => by
    simp only [PyData.depthAll]
    exact Nat.max_le.mpr ⟨h d (List.mem_cons_self ..), dep_forall fun e he => h e (List.mem_cons_of_mem _ he)⟩
theorem nodes_forall {n : Nat} : ∀ {ds : List PyData}, (∀ d ∈ ds, nodes d ≤ n) → nodesAll ds ≤ n * ds.length
  | [], _ => Nat.zero_le _
  | d :: ds, h => by
    simp only [nodesAll, List.length_cons, Nat.mul_succ]
    have a := h d (List.mem_cons_self ..)
    have b := nodes_forall (n := n) (ds := ds) fun e he => h e (List.mem_cons_of_mem _ he)
    omega
theorem do_small {r : List V} (h : IsDo r) : smB (rowD r) = true ∧ (rowD r).depth ≤ 1 ∧ nodes (rowD r) ≤ 10 := by
  obtain ⟨x, y, i, rfl, hx, hy, h0, h1⟩ := h
  have e : rowD [V.str "do", .str x, .str y, .int i] = .tuple [.str "do", .str x, .str y, .int i] := rfl
  rw [e]
  have n : nameB "do" = true := by decide +kernel
  refine ⟨?_, ?_, ?_⟩
  · simp only [smB, smAll, n, hx, hy, decide_eq_true h0, decide_eq_true h1, Bool.and_true]
  · simp [PyData.depth, PyData.depthAll]
  · simp [nodes, nodesAll]
theorem night_small : smB (rowD [V.str "night"]) = true ∧ (rowD [V.str "night"]).depth ≤ 1 ∧ nodes (rowD [V.str "night"]) ≤ 10 := by
  refine ⟨by decide +kernel, by decide +kernel, by decide +kernel⟩
theorem rows_small {rs : List (List V)} (h : ∀ r ∈ rs, IsDo r) (few : rs.length ≤ 48) : Small (.tuple (rs.map rowD ++ [rowD [V.str "night"]])) := by
  have all : ∀ d ∈ rs.map rowD ++ [rowD [V.str "night"]], smB d = true ∧ d.depth ≤ 1 ∧ nodes d ≤ 10 := fun d hd => by
    rcases List.mem_append.mp hd with hd | hd
    · obtain ⟨r, hr, rfl⟩ := List.mem_map.mp hd
      exact do_small (h r hr)
    · rw [List.mem_singleton.mp hd]
      exact night_small
  refine ⟨?_, ?_, ?_⟩
  · simp only [smB]
    exact sm_forall fun d hd => (all d hd).1
  · have := dep_forall fun d hd => (all d hd).2.1
    simp only [PyData.depth]
    omega
  · have := nodes_forall fun d hd => (all d hd).2.2
    simp only [nodes]
    rw [List.length_append, List.length_map] at this
    simp only [List.length_singleton] at this
    omega
end Hx
set_option maxRecDepth 100000
set_option maxHeartbeats 1000000
/-! Where a law's stands begin, and where they are drawn. -/
namespace Hx
open PySem PySem.Spec PyProof.Rows L2
/-- where a hall's parts stand -/
theorem FullHall.at5 {K : PySem.W.Frag} {H : Hp} {hd : Addr} {h : HouseD} {yss : List (List Str)} (fh : FullHall K H hd h yss) : ∃ pa ca ka da : Addr, H hd = some (.dK (kv5 pa ca ka da h.day)) ∧
    SqT K H pa (h.people.map V.str) ∧ Tp K H (.ref ca) (.tuple (h.cs.map CellD.d)) ∧ Tp K H (.ref ka) (.tuple (h.ks.map KindD.d)) ∧ Tp K H (.ref da) (.tuple (List.zipWith (DeedD.l h.cs h.ks) h.ds yss)) := by
  obtain ⟨kvs, pa, ca, ka, da, eh, e1, e2, e3, e4, e5, sp, tc, tk, td⟩ := fh.ex
  obtain ⟨pa', ca', ka', da', eh'⟩ := fh.kv
  have e : kvs = kv5 pa' ca' ka' da' h.day := by
    have := eh.symm.trans eh'
    exact HO.dK.inj (Option.some.inj this)
  subst e
  have f1 : valV (kv5 pa' ca' ka' da' h.day) (Sum.inr "people") = some (.ref pa') := rfl
  have f2 : valV (kv5 pa' ca' ka' da' h.day) (Sum.inr "cells") = some (.ref ca') := rfl
  have f3 : valV (kv5 pa' ca' ka' da' h.day) (Sum.inr "kinds") = some (.ref ka') := rfl
  have f5 : valV (kv5 pa' ca' ka' da' h.day) (Sum.inr "deeds") = some (.ref da') := rfl
  rw [f1] at e1
  rw [f2] at e2
  rw [f3] at e3
  rw [f5] at e5
  cases e1
  cases e2
  cases e3
  cases e5
  exact ⟨_, _, _, _, eh, sp, tc, tk, td⟩
theorem FullHall.mk5 {K : PySem.W.Frag} {H : Hp} {hd pa ca ka da : Addr} {h : HouseD} {yss : List (List Str)} (eh : H hd = some (.dK (kv5 pa ca ka da h.day))) (sp : SqT K H pa (h.people.map V.str)) (tc : Tp K H (.ref ca) (.tuple (h.cs.map CellD.d))) (tk : Tp K H (.ref ka) (.tuple (h.ks.map KindD.d)))
    (td : Tp K H (.ref da) (.tuple (List.zipWith (DeedD.l h.cs h.ks) h.ds yss))) : FullHall K H hd h yss :=
  ⟨⟨_, pa, ca, ka, da, eh, rfl, rfl, rfl, rfl, rfl, sp, tc, tk, td⟩, ⟨pa, ca, ka, da, eh⟩⟩
theorem FullHall.same {K : PySem.W.Frag} {H H' : Hp} {hd : Addr} {h : HouseD} {yss : List (List Str)} (s : Same H H') (fh : FullHall K H hd h yss) : FullHall K H' hd h yss := by
  obtain ⟨pa, ca, ka, da, eh, sp, tc, tk, td⟩ := fh.at5
  exact FullHall.mk5 (s _ _ eh) (same_sqt s sp) (tc.same s) (tk.same s) (td.same s)
theorem FullHall.pot {K : PySem.W.Frag} {H H' : Hp} {p hd : Addr} {c : Int} {h : HouseD} {yss : List (List Str)} (hp : Pot H p c) (b : Bar p H H') (fh : FullHall K H hd h yss) : FullHall K H' hd h yss := by
  obtain ⟨pa, ca, ka, da, eh, sp, tc, tk, td⟩ := fh.at5
  obtain ⟨A, B, C, ep, _⟩ := id hp
  exact FullHall.mk5 (b _ _ (fun z => by rw [z, ep] at eh; cases eh) eh) (sqt_pot hp b sp) (tc.pot hp b) (tk.pot hp b) (td.pot hp b)
theorem set3d {σ : L2.St} {i j k : Nat} {x y z : V} : wipe ((((wipe σ [i, j, k]).set i (some x)).set j (some y)).set k (some z)) [i, j, k] = wipe σ [i, j, k] := by
  refine wipe_of (fun m hm => ?_) (by simp [wipe_length])
  have h1 : i ≠ m := fun z => hm (by rw [← z]; simp)
  have h2 : j ≠ m := fun z => hm (by rw [← z]; simp)
  have h3 : k ≠ m := fun z => hm (by rw [← z]; simp)
  rw [List.getElem?_set_ne h3, List.getElem?_set_ne h2, List.getElem?_set_ne h1, wipe_get, if_neg hm]
/-- [e for x, z, i in hall["cells"] if t] -/
theorem lc_cells {K : PySem.W.Frag} {σ : L2.St} {H : Hp} {Q : VK} {i0 a b c : Nat} {hd pa ca ka da : Addr} {day : Int} {cs : List CellD} {tt : TT} {te : TE} (e0 : σ[i0]? = some (some (.ref hd))) (eh : H hd = some (.dK (kv5 pa ca ka da day))) (tc : Tp K H (.ref ca) (.tuple (cs.map CellD.d)))
    (Pv : Addr → Nat → Hp → Prop) (h0 : ∀ D, H D = none → Pv D 0 (upd H D (.lst []))) (kp : ∀ D i H1, H D = none → Pv D i H1 → ∀ {a xs}, SqT K H a xs → SqT K H1 a xs)
    (hs : ∀ D i d H1, H D = none → cs[i]? = some d → Pv D i H1 → tt ((((wipe σ [a, b, c]).set a (some (.str d.x))).set b (some (.int d.z))).set c (some (.int d.i))) H1 fun t H3 =>
      if t = true then te ((((wipe σ [a, b, c]).set a (some (.str d.x))).set b (some (.int d.z))).set c (some (.int d.i))) H3 fun y H4 => ∃ acc, H4 D = some (.lst acc) ∧ acc.length < sizeLine ∧ Pv D (i + 1) (upd H4 D (.lst (acc ++ [y]))) else Pv D (i + 1) H3)
    (k : ∀ D H1, H D = none → Pv D cs.length H1 → Q (.ref D) H1) :
    tLc (iTup K (tDGet (tVar i0) (tC (.str "cells")))) (gTup K 3 (gCons (gName a) (gCons (gName b) (gCons (gName c) gNil)))) tt te [a, b, c] σ H Q := by
  obtain ⟨ca', xs, eca, hs', hx⟩ := tp_tup tc
  have eca : ca = ca' := V.ref.inj eca
  subst eca
  have ln := hx.length
  rw [List.length_map] at ln
  refine ⟨_, e0, hd, .ref ca, rfl, dget_at eh rfl, ca, rfl, ⟨_, hs'⟩, fun D hD => lc_tup (xs := xs) (fun i H1 => Pv D i H1) (h0 D hD) (fun i H1 _ z => kp D i H1 hD z hs') ?_ ?_⟩
  · intro i x H1 hi z
    obtain ⟨d, ed, tp⟩ := hx.get hi
    rw [List.getElem?_map] at ed
    obtain ⟨cl, es, rfl⟩ : ∃ cl, cs[i]? = some cl ∧ d = cl.d := by
      cases q : cs[i]? with
      | none => rw [q] at ed; cases ed
      | some cl => rw [q] at ed; exact ⟨cl, rfl, (Option.some.inj ed).symm⟩
    obtain ⟨q, ys, rfl, hq, hy⟩ := tp_tup (tp.map (kp D i H1 hD z))
    cases hy with
    | cons t1 h2 => cases h2 with
      | cons t2 h3 => cases h3 with
        | cons t3 h4 => cases h4 with
          | nil =>
            cases t1
            cases t2
            cases t3
            exact ⟨q, _, rfl, hq, rfl, _, _, rfl, _, _, rfl, _, _, rfl, rfl, set3d, hs D i cl H1 hD es z⟩
  · intro H1 z
    rw [ln] at z
    exact k D H1 hD z
/-! ### begun -/
abbrev sBegun : Stmt := top 54
abbrev nBegun : List Str := ["_law_hall", "_law_name", "_law_size", "_law_first"]
theorem scBegun : FnScope nBegun ["_law_hall"] (defScope sBegun) := ⟨rfl, rfl, rfl, by decide +kernel, rfl, by decide +kernel, by decide +kernel⟩
def spBegun (K : PySem.W.Frag) : Sp := fun vs H Q _ => ∃ (hd : Addr) (h : HouseD) (yss : List (List Str)), vs = [.ref hd] ∧ FullHall K H hd h yss ∧ h.cs.length ≤ 3 ∧ ∀ v H', Same H H' → Tp K H' v (standD (h.cs.map (·.i)) 0) → Q v H'
section
variable {P : Program} {w : World} {K : PySem.W.Frag} {mg : Str → Option Value} {base : Heap}
theorem ok_begun {f : Addr} {fd : FuncData} (F : Fun K "_law_begun" "_law_begun" sBegun f fd) (mtu : mg "tuple" = none) : FnOk P w K mg base CX0 1 f fd ["_law_hall"] (spBegun K) := by
  refine F.ok scBegun (fun vs H Q E h => ?_) (fun cdv A outer s H vs Q E hr h => ?_)
  · obtain ⟨hd, h, yss, rfl, _⟩ := h
    rfl
  obtain ⟨hd, h, yss, rfl, fh, c3, k⟩ := h
  have nd := scBegun.nd
  refine ⟨_, pss_one (ps_ret (pe_tup (pa_cons (pe_callTy (call_tuple_ofK K) rfl mtu PyProof.Rows.Boot.«tuple» (pa_cons
    (pe_lc (own := [("_law_name", 1), ("_law_size", 2), ("_law_first", 3)]) (g := gTup K 3 (gCons (gName 1) (gCons (gName 2) (gCons (gName 3) gNil)))) (tt := tYes) rfl nd (pi_tupK K (pe_dget (hu_of hr) (pv 0) pe_str (fun _ _ => rfl))) (blkOk_by (N := nBegun) (sc := defScope sBegun) (by decide +kernel))
      (fun _ _ _ _ _ => pg_tupK K (pgs_cons (pg_name (i := 1) nd rfl (Or.inl rfl)) (pgs_cons (pg_name (i := 2) nd rfl (Or.inl rfl)) (pgs_cons (pg_name (i := 3) nd rfl (Or.inl rfl)) pgs_nil)))) (fun _ _ _ _ _ => pts_nil)
      (fun _ _ _ _ _ => pv 3)) pa_nil)) (pa_cons pe_int pa_nil)))), ?_⟩
  obtain ⟨pa, ca, ka, da, eh, sp, tc, tk, td⟩ := fh.at5
  refine go_tup (go_cons (go_cb (go_cons ?_)))
  refine lc_cells (cs := h.cs) (hd := hd) rfl eh tc (fun D i H' => Same H H' ∧ H' D = some (.lst (((h.cs.take i).map (·.i)).map V.int))) (fun D hD => ⟨same_new hD _, upd_same⟩) (fun D i H1 _ z => same_sqt z.1) ?_ ?_
  · rintro D i d H1 hD ed ⟨sm, eD⟩
    refine yes ⟨_, rfl, _, eD, ?_, same_grow hD sm, ?_⟩
    · rw [List.length_map, List.length_map, List.length_take]
      exact small1000 (by omega)
    · rw [upd_same, List.take_add_one, ed, List.map_append, List.map_append]
      rfl
  · rintro D H1 hD ⟨sm, eD⟩
    rw [List.take_length] at eD
    refine go_nil ⟨D, _, rfl, .inl ⟨SqL.of eD, fun r hr' => ?_⟩⟩
    have s1 := same_new hr' (.tup ((h.cs.map (·.i)).map V.int))
    refine ⟨sz (by decide : 2 ≤ 1000), fun u hu => ?_⟩
    have s2 := same_new hu (.tup [.ref r, .int 0])
    exact k _ _ (sm.trans (s1.trans s2)) (.tup (SqT.of upd_same) (.cons (.tup (same_sqt s2 (SqT.of upd_same)) (tpa_of_ints _)) (.cons (.int _) .nil)))
end
/-! ### drawn stand -/
abbrev sDrawn : Stmt := top 55
abbrev nDrawn : List Str := ["_law_pot", "_law_hall", "_law_name", "_law_size", "_law_first"]
theorem scDrawn : FnScope nDrawn ["_law_pot", "_law_hall"] (defScope sDrawn) := ⟨rfl, rfl, rfl, by decide +kernel, rfl, by decide +kernel, by decide +kernel⟩
def spDrawn (K : PySem.W.Frag) : Sp := fun vs H Q _ => ∃ (p hd : Addr) (c : Int) (h : HouseD) (yss : List (List Str)), vs = [.ref p, .ref hd] ∧ Pot H p c ∧ c ≤ 1800 ∧ FullHall K H hd h yss ∧ h.Ok ∧
  ∀ v ws n H', Bar p H H' → Pot H' p (c + 4) → Fits h.cs ws → 0 ≤ n → n ≤ h.day → Tp K H' v (standD ws n) → Q v H'
section
variable {P : Program} {w : World} {K : PySem.W.Frag} {mg : Str → Option Value} {base : Heap}
theorem ok_drawn {f : Addr} {fd : FuncData} (F : Fun K "_law_drawn_stand" "_law_drawn_stand" sDrawn f fd) (GT : DefOk P w K mg base "_law_take" 1 ["_law_pot", "_law_upto"] spLTake) (mtu : mg "tuple" = none) : FnOk P w K mg base CX0 2 f fd ["_law_pot", "_law_hall"] (spDrawn K) := by
  refine F.ok scDrawn (fun vs H Q E h => ?_) (fun cdv A outer s H vs Q E hr h => ?_)
  · obtain ⟨p, hd, c, h, yss, rfl, _⟩ := h
    rfl
  obtain ⟨p, hd, c, h, yss, rfl, hp, hc, fh, ok, k⟩ := h
  have nd := scDrawn.nd
  have hr1 : Room 1 (A.deeper (envOfC "_law_drawn_stand" (defScope sDrawn) s.heap.objs.size f cdv)) := hr.mono (by decide)
  refine ⟨_, pss_one (ps_ret (pe_tup (pa_cons (pe_callTy (call_tuple_ofK K) rfl mtu PyProof.Rows.Boot.«tuple» (pa_cons
    (pe_lc (own := [("_law_name", 2), ("_law_size", 3), ("_law_first", 4)]) (g := gTup K 3 (gCons (gName 2) (gCons (gName 3) (gCons (gName 4) gNil)))) (tt := tYes) rfl nd (pi_tupK K (pe_dget (hu_of hr) (pv 1) pe_str (fun _ _ => rfl))) (blkOk_by (N := nDrawn) (sc := defScope sDrawn) (by decide +kernel))
      (fun _ _ _ _ _ => pg_tupK K (pgs_cons (pg_name (i := 2) nd rfl (Or.inl rfl)) (pgs_cons (pg_name (i := 3) nd rfl (Or.inl rfl)) (pgs_cons (pg_name (i := 4) nd rfl (Or.inl rfl)) pgs_nil)))) (fun _ _ _ _ _ => pts_nil)
      (fun _ _ _ _ _ => pe_D GT hr1 rfl (pa_cons (pv 0) (pa_cons (pv 3) pa_nil)))) pa_nil)) (pa_cons (pe_D GT hr1 rfl (pa_cons (pv 0) (pa_cons (pe_op op_add (pe_dget (hu_of hr) (pv 1) pe_str (fun _ _ => rfl)) pe_int) pa_nil))) pa_nil)))), ?_⟩
  obtain ⟨pa, ca, ka, da, eh, sp, tc, tk, td⟩ := fh.at5
  have c3 := ok.cok.1
  refine go_tup (go_cons (go_cb (go_cons ?_)))
  refine lc_cells (cs := h.cs) (hd := hd) rfl eh tc (fun D i H' => Bar p H H' ∧ Pot H' p (c + (i : Nat)) ∧ ∃ ws : List Int, H' D = some (.lst (ws.map V.int)) ∧ Fits (h.cs.take i) ws) (fun D hD => ⟨Bar.new hD _, by simpa using hp.new hD _, [], upd_same, rfl, fun j d e => by simp at e⟩) (fun D i H1 _ z => sqt_pot hp z.1) ?_ ?_
  · rintro D i d H1 hD ed ⟨b1, p1, ws, eD, fit⟩
    have il : i < h.cs.length := (List.getElem?_eq_some_iff.mp ed).1
    obtain ⟨_, _, z2, z5, _, _⟩ := ok.cok.2.1 d (List.mem_of_getElem? ed)
    have nD : D ≠ p := fun z => by
      obtain ⟨A, B, C, ep, _⟩ := hp
      rw [z, ep] at hD
      cases hD
    refine yes (go_call ⟨_, rfl, _, rfl, p, c + (i : Nat), d.z, rfl, p1, by omega, by omega, by omega, fun x H2 x0 xz b2 p2 => ?_⟩)
    have lw : ws.length = i := by
      have := fit.1
      rw [List.length_take] at this
      omega
    refine ⟨_, b2 _ _ nD eD, ?_, Bar.put (b1.trans b2) hD _, ?_, ws ++ [x], by rw [upd_same, List.map_append]; rfl, ?_, ?_⟩
    · rw [List.length_map]
      exact small1000 (by omega)
    · exact (p2.put nD _).mono (by omega)
    · rw [List.length_append, List.take_add_one, ed, List.length_append, fit.1]
      rfl
    · intro j dj ej
      rw [List.take_add_one, ed] at ej
      have lt : (h.cs.take i).length = i := by rw [List.length_take]; omega
      by_cases hj : j < i
      · rw [List.getElem?_append_left (by omega)] at ej
        have q := fit.2 j dj ej
        rw [List.getD_eq_getElem?_getD, List.getElem?_append_left (by omega), ← List.getD_eq_getElem?_getD]
        exact q
      · rw [List.getElem?_append_right (by omega), lt] at ej
        have hj2 : j - i = 0 := by
          have := (List.getElem?_eq_some_iff.mp ej).1
          simp at this
          omega
        rw [hj2] at ej
        have ej : d = dj := by simpa using ej
        subst ej
        rw [List.getD_eq_getElem?_getD, List.getElem?_append_right (by omega), lw, hj2]
        exact ⟨x0, xz⟩
  · rintro D H1 hD ⟨b1, p1, ws, eD, fit⟩
    rw [List.take_length] at fit
    refine go_nil ⟨D, _, rfl, .inl ⟨SqL.of eD, fun r hr' => ?_⟩⟩
    have s1 := same_new hr' (.tup (ws.map V.int))
    have y1 := ok.y1
    have y4 := ok.y4
    obtain ⟨A0, B0, C0, ep, _⟩ := id hp
    have eh1 := s1 _ _ (b1 _ _ (fun z => by rw [z, ep] at eh; cases eh) eh)
    have et : SqT K (upd H1 r (.tup (ws.map V.int))) r (ws.map V.int) := SqT.of upd_same
    have p2 := p1.same s1
    show tCons _ _ _ (upd H1 r (.tup (ws.map V.int))) _
    generalize upd H1 r (.tup (ws.map V.int)) = H2 at s1 eh1 et p2
    refine go_cons (go_call ⟨_, rfl, go_op (go_dget ⟨_, rfl, hd, _, rfl, dget_at eh1 rfl, ⟨_, _, rfl, rfl, p, c + (h.cs.length : Nat), h.day + 1, rfl, p2, by omega, by omega, by omega, fun x H3 x0 xz b3 p3 => ?_⟩⟩)⟩)
    refine go_nil ⟨sz (by decide : 2 ≤ 1000), fun u hu => ?_⟩
    have s4 := same_new hu (.tup [.ref r, .int x])
    exact k _ ws x _ ((b1.trans (Bar.of s1)).trans (b3.trans (Bar.of s4))) ((p3.same s4).mono (by omega)) fit x0 (by omega) (.tup (SqT.of upd_same) (.cons (.tup (same_sqt s4 (sqt_pot p2 b3 et)) (tpa_of_ints _)) (.cons (.int _) .nil)))
end
end Hx
set_option maxRecDepth 100000
set_option maxHeartbeats 1000000
/-! Where a cell stands; whether a deed can be done. -/
namespace Hx
open PySem PySem.Spec PyProof.Rows L2
abbrev sCellAt : Stmt := top 56
abbrev nCellAt : List Str := ["_law_hall", "_law_name", "_law_one", "_law_size", "_law_first"]
theorem scCellAt : FnScope nCellAt ["_law_hall", "_law_name"] (defScope sCellAt) := ⟨rfl, rfl, rfl, by decide +kernel, rfl, by decide +kernel, by decide +kernel⟩
def spCellAt (K : PySem.W.Frag) : Sp := fun vs H Q _ => ∃ (hd : Addr) (h : HouseD) (yss : List (List Str)) (j : Nat) (c : CellD), vs = [.ref hd, .str c.x] ∧ FullHall K H hd h yss ∧ h.cs.length ≤ 3 ∧ (h.cs.map (·.x)).Nodup ∧ h.cs[j]? = some c ∧ ∀ H', Same H H' → Q (.int (j : Nat)) H'
def rIndexK (K : PySem.W.Frag) : V → List V → Hp → VK → Prop := fun x xs H Q => ∃ (a : Addr) (ys : List V) (y : V) (j : Nat) (z : V), x = V.ref a ∧ xs = [y] ∧ SqL K H a ys ∧ flatV y = true ∧ ys.all flatV = true ∧ ys[j]? = some z ∧ eqV z y = true ∧
  (∀ (m : Nat) (z' : V), m < j → ys[m]? = some z' → eqV z' y = false) ∧ Q (.int (j : Nat)) H
theorem mt_indexK {X : Cx} (K : PySem.W.Frag) (h : X.K = K := by rfl) : MtR X "list.index" (rIndexK K) := by
  subst h
  exact mt_index
theorem ret_bm {K' : PySem.W.Frag} {T : String} {r : V → List V → Hp → VK → Prop} {te : TE} {ta : TA} {σ : L2.St} {H : Hp} {D : Ends} (h : te σ H fun x H1 => tBM K' T r (tC x) ta σ H1 D.rt) : tRet (tBM K' T r te ta) D σ H := h
section
variable {P : Program} {w : World} {K : PySem.W.Frag} {mg : Str → Option Value} {base : Heap}
theorem ok_cellAt {f : Addr} {fd : FuncData} (F : Fun K "_law_cell_at" "_law_cell_at" sCellAt f fd) : FnOk P w K mg base CX0 1 f fd ["_law_hall", "_law_name"] (spCellAt K) := by
  refine F.ok scCellAt (fun vs H Q E h => ?_) (fun cdv A outer s H vs Q E hr h => ?_)
  · obtain ⟨hd, h, yss, j, c, rfl, _⟩ := h
    rfl
  obtain ⟨hd, h, yss, j, c, rfl, fh, c3, cn, ec, k⟩ := h
  have nd := scCellAt.nd
  refine ⟨_, pss_one (ps_ret (pe_bm PySem.F.plainAttrs_list PySem.F.slot_list_index PySem.F.type_list_index (mt_indexK K)
    (pe_lc (own := [("_law_one", 2), ("_law_size", 3), ("_law_first", 4)]) (g := gTup K 3 (gCons (gName 2) (gCons (gName 3) (gCons (gName 4) gNil)))) (tt := tYes) rfl nd (pi_tupK K (pe_dget (hu_of hr) (pv 0) pe_str (fun _ _ => rfl))) (blkOk_by (N := nCellAt) (sc := defScope sCellAt) (by decide +kernel))
      (fun _ _ _ _ _ => pg_tupK K (pgs_cons (pg_name (i := 2) nd rfl (Or.inl rfl)) (pgs_cons (pg_name (i := 3) nd rfl (Or.inl rfl)) (pgs_cons (pg_name (i := 4) nd rfl (Or.inl rfl)) pgs_nil)))) (fun _ _ _ _ _ => pts_nil)
      (fun _ _ _ _ _ => pv 2)) (pa_cons (pv 1) pa_nil))), ?_⟩
  obtain ⟨pa, ca, ka, da, eh, sp, tc, tk, td⟩ := fh.at5
  refine ret_bm ?_
  refine lc_cells (cs := h.cs) (hd := hd) rfl eh tc (fun D i H' => Same H H' ∧ H' D = some (.lst (((h.cs.take i).map (·.x)).map V.str))) (fun D hD => ⟨same_new hD _, upd_same⟩) (fun D i H1 _ z => same_sqt z.1) ?_ ?_
  · rintro D i d H1 hD ed ⟨sm, eD⟩
    refine yes ⟨_, rfl, _, eD, ?_, same_grow hD sm, ?_⟩
    · rw [List.length_map, List.length_map, List.length_take]
      exact small1000 (by omega)
    · rw [upd_same, List.take_add_one, ed, List.map_append, List.map_append]
      rfl
  · rintro D H1 hD ⟨sm, eD⟩
    rw [List.take_length] at eD
    have ej : (h.cs.map (·.x))[j]? = some c.x := by
      rw [List.getElem?_map, ec]
      rfl
    exact ⟨.inl ⟨rfl, _, SqL.of eD⟩, _, rfl, D, _, .str c.x, j, .str c.x, rfl, rfl, SqL.of eD, rfl, flat_words _, by rw [List.getElem?_map, ej] <;> rfl, by rw [eqV_str]; exact decide_eq_true rfl, first_of cn ej, k H1 sm⟩
end
/-! ### can -/
abbrev sCan : Stmt := top 57
abbrev nCan : List Str := ["_law_hall", "_law_tests", "_law_stand", "_law_cell", "_law_sign", "_law_worth"]
theorem scCan : FnScope nCan ["_law_hall", "_law_tests", "_law_stand"] (defScope sCan) := ⟨rfl, rfl, rfl, by decide +kernel, rfl, by decide +kernel, by decide +kernel⟩
def spCan (K : PySem.W.Frag) : Sp := fun vs H Q _ => ∃ (hd : Addr) (h : HouseD) (yss : List (List Str)) (u v : V) (ts : List TestD) (ws : List Int) (n : Int), vs = [.ref hd, u, v] ∧ FullHall K H hd h yss ∧ h.Ok ∧ Tp K H u (.tuple (ts.map (TestD.l h.cs))) ∧ (∀ t ∈ ts, t.ok h.cs) ∧ ts.length ≤ 2 ∧ Tp K H v (standD ws n) ∧ Fits h.cs ws ∧
  ∀ H', Same H H' → Q (.bl (decide (n < h.day) && holdsB ts ws)) H'
section
variable {P : Program} {w : World} {K : PySem.W.Frag} {mg : Str → Option Value} {base : Heap}
theorem ok_can {f : Addr} {fd : FuncData} (F : Fun K "_law_can" "_law_can" sCan f fd) (GC : DefOk P w K mg base "_law_cell_at" 1 ["_law_hall", "_law_name"] (spCellAt K)) (ma : mg "all" = none) : FnOk P w K mg base CX0 2 f fd ["_law_hall", "_law_tests", "_law_stand"] (spCan K) := by
  refine F.ok scCan (fun vs H Q E h => ?_) (fun cdv A outer s H vs Q E hr h => ?_)
  · obtain ⟨hd, h, yss, u, v, ts, ws, n, rfl, _⟩ := h
    rfl
  obtain ⟨hd, h, yss, u, v, ts, ws, n, rfl, fh, ok, tu, tok, t2, tv, fit, k⟩ := h
  have nd := scCan.nd
  have hr1 : Room 1 (A.deeper (envOfC "_law_can" (defScope sCan) s.heap.objs.size f cdv)) := hr.mono (by decide)
  refine ⟨_, pss_cons (ps_if (pt_cmpR op_ge (pe_ix (ix_tupK K) (pv 2) pe_int (fun _ _ => rfl)) (pe_dget (hu_of hr) (pv 0) pe_str (fun _ _ => rfl)) (nomark _)) (pss_one (ps_ret pe_bl)) pss_nil)
    (pss_one (ps_ret (pe_callB (cr_all rfl) rfl ma PyProof.Rows.boot_all (pa_cons
      (pe_lc (own := [("_law_cell", 3), ("_law_sign", 4), ("_law_worth", 5)]) (g := gTup K 3 (gCons (gName 3) (gCons (gName 4) (gCons (gName 5) gNil)))) (tt := tYes) rfl nd (pi_tupK K (pv 1)) (blkOk_by (N := nCan) (sc := defScope sCan) (by decide +kernel))
        (fun _ _ _ _ _ => pg_tupK K (pgs_cons (pg_name (i := 3) nd rfl (Or.inl rfl)) (pgs_cons (pg_name (i := 4) nd rfl (Or.inl rfl)) (pgs_cons (pg_name (i := 5) nd rfl (Or.inl rfl)) pgs_nil)))) (fun _ _ _ _ _ => pts_nil)
        (fun _ _ _ _ _ => pe_cmpR op_eq (pe_cmpR op_eq (pe_ix (ix_tupK K) (pe_ix (ix_tupK K) (pv 2) pe_int (fun _ _ => rfl)) (pe_D GC hr1 rfl (pa_cons (pv 0) (pa_cons (pv 3) pa_nil))) (fun _ _ => rfl)) (pv 5) (nomark _)) (pe_cmpR op_eq (pv 4) pe_str (nomark _)) (nomark _))) pa_nil)))), ?_⟩
  obtain ⟨pa, ca, ka, da, eh, sp, tc, tk, td⟩ := fh.at5
  obtain ⟨va, vys, rfl, hva, hvy⟩ := tp_tup tv
  obtain ⟨ta, xs, rfl, hta, htx⟩ := tp_tup tu
  have ln := htx.length
  rw [List.length_map] at ln
  cases hvy with
  | cons g0 g1 =>
  cases g1 with
  | cons g1 g2 =>
  cases g2
  cases g1
  obtain ⟨wa, wxs, rfl, hwa, hwx⟩ := tp_tup g0
  have ewx := tpa_ints hwx
  subst ewx
  refine seq_if (go_test (go_op (go_op ⟨_, rfl, va, _, 1, _, rfl, rfl, hva, atI_nat (j := 1) rfl, ?_⟩)))
  refine go_dget ⟨_, rfl, hd, _, rfl, dget_at eh rfl, _, _, rfl, rfl, _, rfl, ?_⟩
  by_cases hn : n < h.day
  · rw [decide_eq_false (show ¬ n ≥ h.day by omega)]
    refine iteF ?_
    refine go_cb (go_cons ⟨_, rfl, ta, rfl, ⟨_, hta⟩, fun G hG => ?_⟩)
    refine lc_tup (xs := xs) (fun i H' => Same H H' ∧ H' G = some (.lst (((ts.take i).map (testB ws)).map V.bl))) ⟨same_new hG _, upd_same⟩ (fun i H' _ z => same_sqt z.1 hta) ?_ ?_
    · rintro i x H' hi ⟨sm, eG⟩
      obtain ⟨q, eq_, tq⟩ := htx.get hi
      rw [List.getElem?_map] at eq_
      obtain ⟨t, et', rfl⟩ : ∃ t, ts[i]? = some t ∧ q = TestD.l h.cs t := by
        cases e : ts[i]? with
        | none =>
          rw [e] at eq_
          cases eq_
        | some t =>
          rw [e] at eq_
          exact ⟨t, rfl, (Option.some.inj eq_).symm⟩
      obtain ⟨a, ys, rfl, ha, hy⟩ := tp_tup (tq.same sm)
      cases hy with
      | cons y0 y1 =>
      cases y1 with
      | cons y1 y2 =>
      cases y2 with
      | cons y2 y3 =>
      cases y3
      cases y0
      cases y1
      cases y2
      obtain ⟨c, ec, _, _⟩ := tok t (List.mem_of_getElem? et')
      have ex : cellX h.cs t.j = c.x := by
        unfold cellX
        rw [ec]
        rfl
      rw [ex] at ha
      have jl : t.j < ws.length := by
        rw [fit.1]
        exact (List.getElem?_eq_some_iff.mp ec).1
      refine ⟨a, _, rfl, ha, rfl, _, _, rfl, _, _, rfl, _, _, rfl, rfl, set3d, yes ?_⟩
      refine go_op (go_op (go_op (go_op ⟨_, rfl, va, _, 0, _, rfl, rfl, same_sqt sm hva, atI_nat (j := 0) rfl, ?_⟩)))
      refine go_call ⟨_, rfl, _, rfl, hd, h, yss, t.j, c, rfl, fh.same sm, ok.cok.1, ok.cok.2.2, ec, fun H2 s2 => ?_⟩
      refine ⟨wa, _, (t.j : Nat), _, rfl, rfl, same_sqt (sm.trans s2) hwa, atI_nat (int_at jl), _, rfl, rfl, ?_⟩
      refine go_op ⟨_, rfl, rfl, rfl, ?_⟩
      refine ⟨_, s2 _ _ eG, ?_, same_grow hG (sm.trans s2), ?_⟩
      · rw [List.length_map, List.length_map, List.length_take]
        exact small1000 (by omega)
      · have e5 : decide (V.bl (decide (V.int (ws.getD t.j 0) = V.int t.v)) = V.bl (decide (V.str (sign t.same) = V.str "="))) = testB ws t := by
          unfold testB
          have e6 : decide (V.str (sign t.same) = V.str "=") = t.same := by
            cases t.same <;> decide +kernel
          rw [e6]
          by_cases z : ws.getD t.j 0 = t.v
          · rw [decide_eq_true z, decide_eq_true (show V.int (ws.getD t.j 0) = V.int t.v by rw [z])]
            cases t.same <;> rfl
          · rw [decide_eq_false z, decide_eq_false (fun q => z (V.int.inj q))]
            cases t.same <;> rfl
        show upd H2 G (.lst (((ts.take i).map (testB ws)).map V.bl ++ [V.bl (decide (V.bl (decide (V.int (ws.getD t.j 0) = V.int t.v)) = V.bl (decide (V.str (sign t.same) = V.str "="))))])) G = _
        rw [upd_same, e5, List.take_add_one, et', List.map_append, List.map_append]
        rfl
    · rintro H' ⟨sm, eG⟩
      rw [ln, List.take_length] at eG
      refine go_nil ⟨G, _, rfl, SqL.of eG, ?_⟩
      have q := k H' sm
      rw [decide_eq_true hn, Bool.true_and] at q
      exact q
  · rw [decide_eq_true (show n ≥ h.day by omega)]
    refine iteT ?_
    have q := k H (Same.refl _)
    rw [decide_eq_false hn, Bool.false_and] at q
    exact q
end
end Hx
set_option maxRecDepth 100000
set_option maxHeartbeats 1000000
/-! The law's own list of moves. -/
namespace Hx
open PySem PySem.Spec PyProof.Rows L2
/-- one person's moves of a deed; a deed's; all -/
def actR (x : Str) (k : Nat) (who : Str) : List (List V) := (List.range k).map fun (i : Nat) => [V.str "do", .str x, .str who, .int i]
def canB (day n : Int) (ws : List Int) (d : DeedD) : Bool := decide (n < day) && holdsB d.ts ws
def lawD (day n : Int) (ws : List Int) (d : DeedD) (ys : List Str) : List (List V) := if canB day n ws d = true then ys.flatMap (actR d.x d.pick.toNat) else []
def lawL (h : HouseD) (yss : List (List Str)) (ws : List Int) (n : Int) : List (List V) := (List.zipWith (lawD h.day n ws) h.ds yss).flatten
theorem act_len (x : Str) (k : Nat) (who : Str) : (actR x k who).length = k := by
  unfold actR
  rw [List.length_map, List.length_range]
theorem flat_act_len {x : Str} {k : Nat} : ∀ ys : List Str, (ys.flatMap (actR x k)).length = ys.length * k
  | [] => by simp
  | y :: ys => by
    rw [List.flatMap_cons, List.length_append, act_len, flat_act_len ys, List.length_cons, Nat.succ_mul]
    omega
abbrev sMovesL : Stmt := top 58
abbrev nMovesL : List Str := ["_law_hall", "_law_stand", "_law_found", "_law_name", "_law_by", "_law_tests", "_law_pick", "_law_changes_here", "_law_rows", "_law_who", "_law_it"]
theorem scMovesL : FnScope nMovesL ["_law_hall", "_law_stand"] (defScope sMovesL) := ⟨rfl, rfl, rfl, by decide +kernel, rfl, by decide +kernel, by decide +kernel⟩
def spMovesL (K : PySem.W.Frag) : Sp := fun vs H Q _ => ∃ (hd : Addr) (h : HouseD) (yss : List (List Str)) (v : V) (ws : List Int) (n : Int), vs = [.ref hd, v] ∧ FullHall K H hd h yss ∧ h.Ok ∧ Drawn h.people h.ds yss ∧ Tp K H v (standD ws n) ∧ Fits h.cs ws ∧
  ∀ (a : Addr) (rs : List (List V)) (H' : Hp), Same H H' → Tp K H' (.ref a) (.tuple (rs.map rowD ++ [MoveD.night.d])) → rs.Perm (lawL h yss ws n) → rs.Pairwise (fun x y => rowLt y x = false) → Q (.ref a) H'
def rSortK (K : PySem.W.Frag) : List V → Hp → VK → Prop := rSortT K
theorem cr_sortedK {X : Cx} (K : PySem.W.Frag) (h : X.K = K := by rfl) : CallR X (.builtin "sorted") (rSortK K) := by
  subst h
  exact cr_sortedT
theorem act_do {x who : Str} {pick : Int} (hx : nameB x = true) (hw : nameB who = true) (p5 : pick < 5) : ∀ r ∈ actR x pick.toNat who, IsDo r := fun r hr => by
  unfold actR at hr
  obtain ⟨i, hi, rfl⟩ := List.mem_map.mp hr
  have := List.mem_range.mp hi
  exact ⟨x, who, (i : Nat), rfl, hx, hw, by omega, by omega⟩
theorem lawD_do {day n : Int} {ws : List Int} {d : DeedD} {ys : List Str} (hx : nameB d.x = true) (hy : ∀ y ∈ ys, nameB y = true) (p5 : d.pick < 5) : ∀ r ∈ lawD day n ws d ys, IsDo r := fun r hr => by
  unfold lawD at hr
  by_cases c : canB day n ws d = true
  · rw [if_pos c] at hr
    obtain ⟨y, yy, hr⟩ := List.mem_flatMap.mp hr
    exact act_do hx (hy y yy) p5 r hr
  · rw [if_neg c] at hr
    cases hr
theorem lawL_do {h : HouseD} {yss : List (List Str)} {ws : List Int} {n : Int} (ok : h.Ok) (dr : Drawn h.people h.ds yss) : ∀ r ∈ lawL h yss ws n, IsDo r := fun r hr => by
  unfold lawL at hr
  obtain ⟨l, hl, hr⟩ := List.mem_flatten.mp hr
  obtain ⟨i, hi⟩ := List.getElem?_of_mem hl
  rw [List.getElem?_zipWith] at hi
  cases ed : h.ds[i]? with
  | none => rw [ed] at hi; cases hi
  | some d =>
    cases ey : yss[i]? with
    | none => rw [ed, ey] at hi; cases hi
    | some ys =>
      rw [ed, ey] at hi
      have hi : lawD h.day n ws d ys = l := Option.some.inj hi
      subst hi
      have dok := ok.dok d (List.mem_of_getElem? ed)
      obtain ⟨_, _, sub, _, _⟩ := dr.2 i d ys ed ey
      exact lawD_do dok.1 (fun y hy => (ok.pok y (sub y hy)).1) dok.2.2.2.2.2.1 r hr
/-- rows at their places -/
theorem tpa_any {K : PySem.W.Frag} {H : Hp} : ∀ {qs : List (Addr × List V)}, (∀ q ∈ qs, SqT K H q.1 q.2 ∧ (q.2 = [V.str "night"] ∨ IsDo q.2)) → TpAll K H (qs.map fun q => V.ref q.1) ((qs.map (·.2)).map rowD)
  | [], _ => .nil
  | q :: qs, h => by
    obtain ⟨s, c⟩ := h q (List.mem_cons_self ..)
    refine .cons ?_ (tpa_any fun r hr => h r (List.mem_cons_of_mem _ hr))
    rcases c with c | ⟨x, y, i, c, _⟩
    · show Tp K H (.ref q.1) (rowD q.2)
      rw [c] at s ⊢
      exact .tup s (.cons (.str _) .nil)
    · show Tp K H (.ref q.1) (rowD q.2)
      rw [c] at s ⊢
      exact .tup s (.cons (.str _) (.cons (.str _) (.cons (.str _) (.cons (.int _) .nil))))
/-- what is sorted ends with the night -/
theorem sorted_night {m l : List (List V)} (hl : ∀ r ∈ l, IsDo r) (pm : m.Perm ([V.str "night"] :: l)) (pw : m.Pairwise fun x y => rowLt y x = false) : ∃ rs, m = rs ++ [[V.str "night"]] ∧ rs.Perm l ∧ rs.Pairwise fun x y => rowLt y x = false := by
  have nn : ∀ r, IsDo r → r ≠ [V.str "night"] := fun r hr z => by
    obtain ⟨x, y, i, e, _⟩ := hr
    rw [e] at z
    cases z
  have p1 : (m.filter fun r => decide (r ≠ [V.str "night"])).Perm l := by
    have q := pm.filter fun r => decide (r ≠ [V.str "night"])
    rw [List.filter_cons_of_neg (by simp)] at q
    rwa [List.filter_eq_self.mpr fun r hr => decide_eq_true (nn r (hl r hr))] at q
  have w1 := pw.filter fun r => decide (r ≠ [V.str "night"])
  refine ⟨_, ?_, p1, w1⟩
  have dos : ∀ r ∈ m.filter (fun r => decide (r ≠ [V.str "night"])), IsDo r := fun r hr => hl r (p1.mem_iff.mp hr)
  refine rows_one (shape := shp) (fun r hr => ?_) pw (with_night dos w1) (pm.trans ?_)
  · rcases List.mem_cons.mp (pm.mem_iff.mp hr) with rfl | hr
    · exact night_fit
    · exact (hl r hr).fit
  · exact (List.Perm.cons _ p1.symm).trans (List.perm_append_singleton _ _).symm
section
variable {P : Program} {w : World} {K : PySem.W.Frag} {mg : Str → Option Value} {base : Heap}
abbrev xTurn : TE := tTup (tCons (tC (.str "do")) (tCons (tVar 3) (tCons (tVar 9) (tCons (tVar 10) tNil))))
abbrev mExt (K : PySem.W.Frag) : TS := tDrop (tBM K "list" rExtend (tVar 2) (tCons (tLc (iRng1 (tCons (tVar 6) tNil)) (gName 10) tYes xTurn [10]) tNil))
abbrev mWho (K : PySem.W.Frag) : TS := tFor (iTup K (tIf (tB (tCall (spCan K) [] E0 (tCons (tVar 0) (tCons (tVar 5) (tCons (tVar 1) tNil))))) (tVar 4) (tTup tNil))) (gName 9) (mExt K)
theorem go_c {v : V} {σ : L2.St} {H : Hp} {Q : VK} (h : Q v H) : tC v σ H Q := h
def stM (hd va lf : Addr) (t3 t4 t5 t6 t7 t8 t9 : Option V) : L2.St := [some (.ref hd), some (.ref va), some (.ref lf), t3, t4, t5, t6, t7, t8, t9, none]
theorem sqt_barl {lf a : Addr} {H1 H2 : Hp} {ys xs : List V} (e : H1 lf = some (.lst ys)) (b : Bar lf H1 H2) (h : SqT K H1 a xs) : SqT K H2 a xs := by
  rcases h with (h | ⟨o, h⟩) | h
  · exact .inl (.inl (b _ _ (fun z => by rw [z, e] at h; cases h) h))
  · exact .inl (.inr ⟨o, b _ _ (fun z => by rw [z, e] at h; cases h) h⟩)
  · exact .inr h
theorem same_bar {lf : Addr} {H0 H1 H2 : Hp} (n0 : H0 lf = none) (s : Same H0 H1) (b : Bar lf H1 H2) : Same H0 H2 := fun c o e => b c o (fun z => by rw [z, n0] at e; cases e) (s c o e)
theorem ext_turn {hd va lf : Addr} {x who : Str} {pick : Int} {t4 t5 t7 t8 : Option V} {H : Hp} {ps : List (Addr × List V)} {D : Ends} (el : H lf = some (.lst (ps.map fun q => V.ref q.1))) (few : ps.length ≤ 900) (p1 : 1 ≤ pick) (p5 : pick < 5)
    (k : ∀ (qs : List (Addr × List V)) (H' : Hp), Bar lf H H' → H' lf = some (.lst ((ps ++ qs).map fun q => V.ref q.1)) → qs.map (·.2) = actR x pick.toNat who → (∀ q ∈ qs, SqT K H' q.1 q.2) → D.nx (stM hd va lf (some (.str x)) t4 t5 (some (.int pick)) t7 t8 (some (.str who))) H') :
    mExt K D (stM hd va lf (some (.str x)) t4 t5 (some (.int pick)) t7 t8 (some (.str who))) H := by
  refine ⟨_, rfl, .inl ⟨rfl, _, SqL.of el⟩, go_cons ⟨_, rfl, pick, rfl, by omega, by omega, fun G hG => ?_⟩⟩
  have nG : G ≠ lf := ne_of_none el hG |>.symm
  refine lc_it (walk_range (lo := 0) (n := pick.toNat)) (fun i H' => Same H H' ∧ ∃ qs : List (Addr × List V), qs.map (·.2) = actR x i who ∧ H' G = some (.lst (qs.map fun q => V.ref q.1)) ∧ ∀ q ∈ qs, SqT K H' q.1 q.2) ⟨same_new hG _, [], rfl, upd_same, fun q hq => by cases hq⟩ (fun i H' _ z => trivial) ?_ ?_
  · rintro i v H1 H2 hi ⟨sm, qs, eq, eG, each⟩ ⟨rfl, rfl⟩
    refine ⟨set2, yes (go_tup (go_cons (go_c (go_cons ⟨_, rfl, go_cons ⟨_, rfl, go_cons ⟨_, get_same (by show 10 < 11; decide), go_nil ⟨sz (by decide : 4 ≤ 1000), fun u hu => ?_⟩⟩⟩⟩))))⟩
    have su := same_new hu (.tup [.str "do", .str x, .str who, .int (0 + (i : Nat))])
    have eu : (upd H2 u (.tup [.str "do", .str x, .str who, .int (0 + (i : Nat))])) u = some (.tup [.str "do", .str x, .str who, .int (0 + (i : Nat))]) := upd_same
    have eG2 := su _ _ eG
    have lq : qs.length = i := by
      have := congrArg List.length eq
      rw [List.length_map, act_len] at this
      exact this
    refine ⟨_, eG2, ?_, same_grow hG (sm.trans su), qs ++ [(u, [.str "do", .str x, .str who, .int (i : Nat)])], ?_, ?_, fun q hq => ?_⟩
    · rw [List.length_map]
      exact small1000 (by omega)
    · rw [List.map_append, eq]
      unfold actR
      rw [List.range_succ, List.map_append]
      rfl
    · rw [upd_same, List.map_append]
      rfl
    · rcases List.mem_append.mp hq with hq | hq
      · exact sqt_lst eG2 (same_sqt su (each q hq))
      · rw [List.mem_singleton.mp hq]
        refine sqt_lst eG2 (SqT.of ?_)
        show (upd H2 u (.tup [.str "do", .str x, .str who, .int (0 + (i : Nat))])) u = some (.tup [.str "do", .str x, .str who, .int (i : Nat)])
        rw [Int.zero_add]
        exact upd_same
  · rintro H1 ⟨sm, qs, eq, eG, each⟩
    have lq : qs.length = pick.toNat := by
      have := congrArg List.length eq
      rw [List.length_map, act_len] at this
      exact this
    have el1 := sm _ _ el
    refine go_nil ⟨lf, G, _, _, rfl, rfl, el1, eG, sz (by rw [List.length_map, List.length_map]; omega), ?_⟩
    refine k qs _ ((Bar.of sm).trans (Bar.upd lf H1 _)) ?_ eq fun q hq => sqt_lst el1 (each q hq)
    rw [upd_same, List.map_append]
theorem who_loop {hd va lf yb ta : Addr} {x : Str} {ys : List Str} {pick n : Int} {t7 t8 t9 : Option V} {H : Hp} {ps : List (Addr × List V)} {D : Ends} {h : HouseD} {yss : List (List Str)} {ts : List TestD} {ws : List Int} {b : Bool}
    (el : H lf = some (.lst (ps.map fun q => V.ref q.1))) (each : ∀ q ∈ ps, SqT K H q.1 q.2) (few : ps.length ≤ 500) (sy : SqT K H yb (ys.map V.str)) (y9 : ys.length ≤ 9) (p1 : 1 ≤ pick) (p5 : pick < 5)
    (fh : FullHall K H hd h yss) (ok : h.Ok) (tt : Tp K H (.ref ta) (.tuple (ts.map (TestD.l h.cs)))) (tok : ∀ t ∈ ts, t.ok h.cs) (t2 : ts.length ≤ 2) (tv : Tp K H (.ref va) (standD ws n)) (fit : Fits h.cs ws) (eb : (decide (n < h.day) && holdsB ts ws) = b)
    (k : ∀ (t9 : Option V) (qs : List (Addr × List V)) (H' : Hp), Bar lf H H' → H' lf = some (.lst ((ps ++ qs).map fun q => V.ref q.1)) → qs.map (·.2) = (if b = true then ys.flatMap (actR x pick.toNat) else []) → (∀ q ∈ ps ++ qs, SqT K H' q.1 q.2) → D.nx (stM hd va lf (some (.str x)) (some (.ref yb)) (some (.ref ta)) (some (.int pick)) t7 t8 t9) H') :
    mWho K D (stM hd va lf (some (.str x)) (some (.ref yb)) (some (.ref ta)) (some (.int pick)) t7 t8 t9) H := by
  have loop : ∀ (a : Addr) (zs : List Str) (H1 : Hp), Same H H1 → SqT K H1 a (zs.map V.str) → zs.length ≤ 9 → (∀ (t9 : Option V) (qs : List (Addr × List V)) (H' : Hp), Bar lf H1 H' → H' lf = some (.lst ((ps ++ qs).map fun q => V.ref q.1)) → qs.map (·.2) = zs.flatMap (actR x pick.toNat) → (∀ q ∈ ps ++ qs, SqT K H' q.1 q.2) → D.nx (stM hd va lf (some (.str x)) (some (.ref yb)) (some (.ref ta)) (some (.int pick)) t7 t8 t9) H') →
      ∃ W : Nat → Nat → L2.St → Hp → Prop, (∃ m, W 0 m (stM hd va lf (some (.str x)) (some (.ref yb)) (some (.ref ta)) (some (.int pick)) t7 t8 t9) H1) ∧ ∀ (i m : Nat) (σ : L2.St) (H : Hp), W i m σ H → ((Itt K a).stop i H ∧ D.nx σ H) ∨ ((Itt K a).go i H ∧ ∃ N : L2.St → Hp → Prop, (∀ σ' H', N σ' H' → ∃ m', m' < m ∧ W (i + 1) m' σ' H') ∧ ∀ (x : V) (H' : Hp), (Itt K a).yld i H x H' → gName 9 x σ H' fun σ2 H2 => mExt K { nx := N, rt := D.rt, bk := D.nx, ct := N } σ2 H2) := by
    intro a zs H1 s1 sz z9 kk
    refine for_tup (D := D) (xs := zs.map V.str) (fun i σ H' => ∃ (t9 : Option V) (qs : List (Addr × List V)), σ = stM hd va lf (some (.str x)) (some (.ref yb)) (some (.ref ta)) (some (.int pick)) t7 t8 t9 ∧ Bar lf H1 H' ∧ H' lf = some (.lst ((ps ++ qs).map fun q => V.ref q.1)) ∧ qs.map (·.2) = (zs.take i).flatMap (actR x pick.toNat) ∧ ∀ q ∈ ps ++ qs, SqT K H' q.1 q.2)
      ⟨_, [], rfl, Bar.of (Same.refl _), by rw [List.append_nil]; exact s1 _ _ el, rfl, fun q hq => by rw [List.append_nil] at hq; exact same_sqt s1 (each q hq)⟩ (fun i σ H' _ z => by obtain ⟨_, _, _, b1, _⟩ := z; exact sqt_barl (s1 _ _ el) b1 sz) ?_ ?_
    · rintro i v σ H2 hi ⟨t9', qs, rfl, b1, e1, eq, each1⟩
      obtain ⟨y, ey, rfl⟩ := str_at hi
      have il : i < zs.length := (List.getElem?_eq_some_iff.mp ey).1
      have lq : qs.length = (zs.take i).length * pick.toNat := by
        have := congrArg List.length eq
        rw [List.length_map, flat_act_len] at this
        exact this
      have lt : (zs.take i).length = i := by rw [List.length_take]; omega
      have lq2 : qs.length ≤ 36 := by
        rw [lq, lt]
        have a1 : i ≤ 9 := by omega
        have a2 : pick.toNat ≤ 4 := by omega
        exact Nat.le_trans (Nat.mul_le_mul a1 a2) (by decide)
      refine ext_turn e1 (by rw [List.length_append]; omega) p1 p5 fun qs2 H3 b2 e2 eq2 each2 => ?_
      refine ⟨_, qs ++ qs2, rfl, b1.trans b2, by rw [← List.append_assoc]; exact e2, ?_, fun q hq => ?_⟩
      · rw [List.map_append, eq, eq2, List.take_add_one, ey, List.flatMap_append]
        simp
      · rw [← List.append_assoc] at hq
        rcases List.mem_append.mp hq with hq | hq
        · exact sqt_barl e1 b2 (each1 q hq)
        · exact each2 q hq
    · rintro σ H2 ⟨t9', qs, rfl, b1, e1, eq, each1⟩
      rw [List.length_map, List.take_length] at eq
      exact kk _ qs H2 b1 e1 eq each1
  refine go_tif ⟨_, rfl, go_cons ⟨_, rfl, go_cons ⟨_, rfl, hd, h, yss, .ref ta, .ref va, ts, ws, n, rfl, fh, ok, tt, tok, t2, tv, fit, fun H1 s1 => ⟨_, rfl, ?_⟩⟩⟩⟩
  rw [eb]
  cases b with
  | true => exact iteT ⟨_, rfl, yb, rfl, ⟨_, same_sqt s1 sy⟩, loop yb ys H1 s1 (same_sqt s1 sy) y9 fun t9 qs H' b e q each1 => k t9 qs H' ((Bar.of s1).trans b) e (by rw [if_pos rfl]; exact q) each1⟩
  | false =>
    refine iteF (go_tup (go_nil ⟨sz (by decide : 0 ≤ 1000), fun u hu => ⟨u, rfl, ⟨[], SqT.of upd_same⟩, ?_⟩⟩))
    have s2 := same_new hu (.tup [])
    exact loop u [] _ (s1.trans s2) (SqT.of upd_same) (by decide) fun t9 qs H' b e q each1 => k t9 qs H' ((Bar.of (s1.trans s2)).trans b) e (by rw [if_neg Bool.false_ne_true]; exact q) each1
theorem ok_movesL {f : Addr} {fd : FuncData} (F : Fun K "_law_moves" "_law_moves" sMovesL f fd) (GC : DefOk P w K mg base "_law_can" 2 ["_law_hall", "_law_tests", "_law_stand"] (spCan K)) (mr : mg "range" = none) (mtu : mg "tuple" = none) (ms : mg "sorted" = none) : FnOk P w K mg base CX0 3 f fd ["_law_hall", "_law_stand"] (spMovesL K) := by
  refine F.ok scMovesL (fun vs H Q E h => ?_) (fun cdv A outer s H vs Q E hr h => ?_)
  · obtain ⟨hd, h, yss, v, ws, n, rfl, _⟩ := h
    rfl
  obtain ⟨hd, h, yss, v, ws, n, rfl, fh, ok, dr, tv, fit, k⟩ := h
  have nd := scMovesL.nd
  refine ⟨_, pss_cons (ps_set (i := 2) nd rfl (.inl rfl) (pe_lst (pa_cons (pe_tup (pa_cons pe_str pa_nil)) pa_nil)))
    (pss_cons (ps_for PassesOwn.never rfl (pi_tupK K (pe_dget (hu_of hr) (pv 0) pe_str (fun _ _ => rfl))) (pg_tupK K (pgs_cons (pg_name (i := 3) nd rfl (.inr rfl)) (pgs_cons (pg_name (i := 4) nd rfl (.inl rfl)) (pgs_cons (pg_name (i := 5) nd rfl (.inl rfl)) (pgs_cons (pg_name (i := 6) nd rfl (.inl rfl)) (pgs_cons (pg_name (i := 7) nd rfl (.inl rfl)) (pgs_cons (pg_name (i := 8) nd rfl (.inl rfl)) pgs_nil)))))))
      (pss_one (ps_for PassesOwn.never rfl (pi_tupK K (pe_ifExp (pt_val (pe_D GC hr rfl (pa_cons (pv 0) (pa_cons (pv 5) (pa_cons (pv 1) pa_nil))))) (pv 4) (pe_tup pa_nil))) (pg_name (i := 9) nd rfl (.inr rfl))
        (pss_one (ps_expr (pe_bm PySem.F.plainAttrs_list PySem.F.slot_list_extend PySem.F.type_list_extend mt_extend (pv 2) (pa_cons
          (pe_lc (own := [("_law_it", 10)]) (g := gName 10) (tt := tYes) rfl nd (pi_range1 rfl mr (pa_cons (pv 6) pa_nil)) (blkOk_by (N := nMovesL) (sc := defScope sMovesL) (by decide +kernel)) (fun _ _ _ _ _ => pg_name (i := 10) nd rfl (Or.inl rfl)) (fun _ _ _ _ _ => pts_nil)
            (fun _ _ _ _ _ => pe_tup (pa_cons pe_str (pa_cons (pv 3) (pa_cons (pv 9) (pa_cons (pv 10) pa_nil)))))) pa_nil)))))))
    (pss_one (ps_ret (pe_callTy (call_tuple_ofK K) rfl mtu PyProof.Rows.Boot.«tuple» (pa_cons (pe_callB (cr_sortedK K) rfl ms PyProof.Rows.Boot.«sorted» (pa_cons (pv 2) pa_nil)) pa_nil))))), ?_⟩
  obtain ⟨pa, ca, ka, da, eh, sp, tc, tk, td⟩ := fh.at5
  obtain ⟨va, vys, rfl, hva, hvy⟩ := tp_tup tv
  refine seq_set (go_lst (go_cons (go_tup (go_cons (go_c (go_nil ⟨sz (by decide : 1 ≤ 1000), fun q0 hq0 => go_nil ⟨sz (by decide : 1 ≤ 1000), fun lf hlf => ?_⟩⟩))))))
  have s1 := same_new hq0 (.tup [.str "night"])
  have eq0 : (upd H q0 (.tup [.str "night"])) q0 = some (.tup [.str "night"]) := upd_same
  show tSeq _ _ _ (stM hd va lf none none none none none none none) (upd (upd H q0 (.tup [.str "night"])) lf (.lst [.ref q0]))
  generalize upd H q0 (.tup [.str "night"]) = H1 at s1 eq0 hlf
  have s2 := same_new hlf (.lst [.ref q0])
  have el2 : (upd H1 lf (.lst [.ref q0])) lf = some (.lst [.ref q0]) := upd_same
  generalize upd H1 lf (.lst [.ref q0]) = H2 at s2 el2
  have s02 := s1.trans s2
  have nlf : H lf = none := by
    cases e : H lf with
    | none => rfl
    | some o => rw [s1 _ _ e] at hlf; cases hlf
  obtain ⟨da', xs, eda, hsd, htd⟩ := tp_tup td
  have eda : da = da' := V.ref.inj eda
  subst eda
  have ln := htd.length
  rw [List.length_zipWith, dr.1, Nat.min_self] at ln
  refine seq_tup ⟨_, rfl, hd, _, rfl, dget_at (s02 _ _ eh) rfl, da, rfl, ⟨_, same_sqt s02 hsd⟩, ?_⟩
  refine fit_tup (xs := xs) (fun i σ' H' => ∃ (t3 t4 t5 t6 t7 t8 t9 : Option V) (ps : List (Addr × List V)), σ' = stM hd va lf t3 t4 t5 t6 t7 t8 t9 ∧ Same H H' ∧ H' lf = some (.lst (ps.map fun q => V.ref q.1)) ∧ ps.map (·.2) = [V.str "night"] :: ((List.zipWith (lawD h.day n ws) h.ds yss).take i).flatten ∧ (∀ q ∈ ps, SqT K H' q.1 q.2) ∧ ps.length ≤ 1 + 36 * i)
    ⟨_, _, _, _, _, _, _, [(q0, [V.str "night"])], rfl, s02, el2, rfl, fun q hq => by rw [List.mem_singleton.mp hq]; exact SqT.of (s2 _ _ eq0), by show 1 ≤ 1; decide⟩ (fun i σ' H' _ z => by obtain ⟨_, _, _, _, _, _, _, _, _, s, _⟩ := z; exact same_sqt s hsd) ?_ ?_
  · rintro i v σ1 H3 hx ⟨t3, t4, t5, t6, t7, t8, t9, ps, rfl, sm, el, eps, each, few⟩
    have ix := (List.getElem?_eq_some_iff.mp hx).1
    obtain ⟨d', ed', tp⟩ := htd.get hx
    have d4 := ok.d4
    have i1 : i < h.ds.length := by omega
    have i2 : i < yss.length := by rw [dr.1]; exact i1
    have es : h.ds[i]? = some h.ds[i] := List.getElem?_eq_getElem i1
    have ey : yss[i]? = some yss[i] := List.getElem?_eq_getElem i2
    rw [List.getElem?_zipWith, es, ey] at ed'
    have ed' : d' = DeedD.l h.cs h.ks h.ds[i] yss[i] := (Option.some.inj ed').symm
    subst ed'
    obtain ⟨_, _, _, _, y9⟩ := dr.2 i _ _ es ey
    have dok := ok.dok _ (List.mem_of_getElem? es)
    have ez : (List.zipWith (lawD h.day n ws) h.ds yss).take (i + 1) = (List.zipWith (lawD h.day n ws) h.ds yss).take i ++ [lawD h.day n ws h.ds[i] yss[i]] := by
      rw [List.take_add_one, List.getElem?_zipWith, es, ey]
      rfl
    generalize h.ds[i] = d at es tp dok ez
    generalize yss[i] = ys at ey tp y9 ez
    obtain ⟨nm, _, d2, dt, p1, p5, _⟩ := dok
    obtain ⟨t, us, rfl, ht, hu⟩ := tp_tup (tp.same sm)
    cases hu with
    | cons u1 h2 => cases h2 with
      | cons u2 h3 => cases h3 with
        | cons u3 h4 => cases h4 with
          | cons u4 h5 => cases h5 with
            | cons u5 h6 => cases h6 with
              | cons u6 h7 => cases h7 with
                | nil =>
                  cases u1
                  cases u4
                  obtain ⟨ab, wb, rfl, hab, hwb⟩ := tp_tup u2
                  obtain ⟨tb, wt, rfl, htb, hwt⟩ := tp_tup u3
                  have ewb : wb = ys.map V.str := by
                    have : ∀ (ss : List Str) (vs : List V), TpAll K H3 vs (ss.map PyData.str) → vs = ss.map V.str := by
                      intro ss
                      induction ss with
                      | nil => intro vs h; cases h; rfl
                      | cons s ss ih =>
                        intro vs h
                        cases h with
                        | cons h1 h2 =>
                          cases h1
                          rw [ih _ h2]
                          rfl
                    exact this _ _ hwb
                  subst ewb
                  refine ⟨t, _, rfl, ht, rfl, _, _, rfl, _, _, rfl, _, _, rfl, _, _, rfl, _, _, rfl, _, _, rfl, rfl, ?_⟩
                  refine who_loop (b := canB h.day n ws d) el each (by omega) hab y9 p1 p5 (fh.same sm) ok u3 dt d2 (tv.same sm) fit rfl fun t9 qs H' b e q each1 => ?_
                  have lq : qs.length ≤ 36 := by
                    have z := congrArg List.length q
                    rw [List.length_map] at z
                    by_cases c : canB h.day n ws d = true
                    · rw [if_pos c, flat_act_len] at z
                      rw [z]
                      exact Nat.le_trans (Nat.mul_le_mul y9 (show d.pick.toNat ≤ 4 by omega)) (by decide)
                    · rw [if_neg c] at z
                      rw [z]
                      exact Nat.zero_le _
                  refine ⟨_, _, _, _, _, _, _, ps ++ qs, rfl, same_bar nlf sm b, e, ?_, each1, ?_⟩
                  · rw [List.map_append, eps, q, ez, List.flatten_append]
                    unfold lawD
                    simp
                  · rw [List.length_append]
                    omega
  · rintro σ1 H3 ⟨t3, t4, t5, t6, t7, t8, t9, ps, rfl, sm, el, eps, each, few⟩
    have d4 := ok.d4
    rw [List.take_of_length_le (by rw [List.length_zipWith, dr.1]; omega)] at eps
    have eps : ps.map (·.2) = [V.str "night"] :: lawL h yss ws n := eps
    have dos := lawL_do (ws := ws) (n := n) ok dr
    have rows : ∀ q ∈ ps, q.2 = [V.str "night"] ∨ IsDo q.2 := fun q hq => by
      have z : q.2 ∈ [V.str "night"] :: lawL h yss ws n := by
        rw [← eps]
        exact List.mem_map_of_mem hq
      rcases List.mem_cons.mp z with z | z
      · exact .inl z
      · exact .inr (dos _ z)
    show tRet _ _ (stM hd va lf t3 t4 t5 t6 t7 t8 t9) H3
    refine go_cb (go_cons (go_cb (go_cons ⟨_, rfl, go_nil ⟨lf, ps, shp, rfl, SqL.of el, fun q hq => ⟨each q hq, ?_, ?_⟩, by omega, fun qs p1 pm pw np => ?_⟩⟩)))
    · rcases rows q hq with z | ⟨x, y, j, z, _⟩ <;> rw [z] <;> exact List.cons_ne_nil _ _
    · rcases rows q hq with z | z
      · rw [z]
        exact night_fit
      · exact z.fit
    · have s4 := same_new np (.lst (qs.map fun q => V.ref q.1))
      refine go_nil ⟨p1, _, rfl, .inl ⟨SqL.of upd_same, fun l hl => ?_⟩⟩
      have s5 := same_new hl (.tup (qs.map fun q => V.ref q.1))
      have s35 := s4.trans s5
      have pm2 : (qs.map (·.2)).Perm ([V.str "night"] :: lawL h yss ws n) := by
        rw [← eps]
        exact pm.map _
      obtain ⟨rs, er, p2, w2⟩ := sorted_night dos pm2 (List.pairwise_map.mpr pw)
      have tq := tpa_any (K := K) (H := upd (upd H3 p1 (.lst (qs.map fun q => V.ref q.1))) l (.tup (qs.map fun q => V.ref q.1))) (qs := qs) fun q hq => ⟨same_sqt s35 (each q (pm.mem_iff.mp hq)), rows q (pm.mem_iff.mp hq)⟩
      rw [er, List.map_append] at tq
      exact k l rs _ (sm.trans s35) (.tup (SqT.of upd_same) tq) p2 w2
end
end Hx
set_option maxRecDepth 100000
set_option maxHeartbeats 1000000
/-! What a word comes to. -/
namespace Hx
open PySem PySem.Spec PyProof.Rows L2
abbrev sWorkL : Stmt := top 59
abbrev nWorkL : List Str := ["_law_hall", "_law_worths", "_law_move", "_law_size", "_law_word", "_law_name", "_law_upmost", "_law_first"]
theorem scWorkL : FnScope nWorkL ["_law_hall", "_law_worths", "_law_move", "_law_size", "_law_word"] (defScope sWorkL) := ⟨rfl, rfl, rfl, by decide +kernel, rfl, by decide +kernel, by decide +kernel⟩
def outV (ws : List Int) (who : Str) (it : Int) : Src → V
  | .it => .int it
  | .cell j => .int (ws.getD j 0)
  | .who => .str who
  | .num v => .int v
  | .person x => .str x
theorem out_tp {K : PySem.W.Frag} {H : Hp} {ws : List Int} {who : Str} {it : Int} (s : Src) : Tp K H (outV ws who it s) (s.out ws who it) := by
  cases s with
  | it => exact .int _
  | cell j => exact .int _
  | who => exact .str _
  | num v => exact .int _
  | person x => exact .str _
def spWorkL (K : PySem.W.Frag) : Sp := fun vs H Q _ => ∃ (hd aw am : Addr) (h : HouseD) (yss : List (List Str)) (z : Option Int) (s : Src) (ws : List Int) (x who : Str) (it pick : Int), vs = [.ref hd, .ref aw, .ref am, szV z, .str (s.w h.cs)] ∧ FullHall K H hd h yss ∧ h.Ok ∧ SqT K H aw (ws.map V.int) ∧ ws.length = h.cs.length ∧
  SqT K H am [.str "do", .str x, .str who, .int it] ∧ wordOk h.people h.cs pick z s ∧ (∀ y, z = some y → y < 10) ∧ ∀ H', Same H H' → Q (outV ws who it s) H'
theorem lc_names {K : PySem.W.Frag} {σ : L2.St} {H : Hp} {Q : VK} {hd : Addr} {h : HouseD} {yss : List (List Str)} (l8 : σ.length = 8) (e0 : σ[0]? = some (some (.ref hd))) (fh : FullHall K H hd h yss) (c3 : h.cs.length ≤ 3) (k : ∀ G H', Same H H' → H' G = some (.lst ((h.cs.map (·.x)).map V.str)) → Q (.ref G) H') :
    tLc (iTup K (tDGet (tVar 0) (tC (.str "cells")))) (gTup K 3 (gCons (gName 5) (gCons (gName 6) (gCons (gName 7) gNil)))) tYes (tVar 5) [5, 6, 7] σ H Q := by
  obtain ⟨pa, ca, ka, da, eh, sp, tc, tk, td⟩ := fh.at5
  refine lc_cells (cs := h.cs) (hd := hd) e0 eh tc (fun D i H' => Same H H' ∧ H' D = some (.lst (((h.cs.take i).map (·.x)).map V.str))) (fun D hD => ⟨same_new hD _, upd_same⟩) (fun D i H1 _ z => same_sqt z.1) ?_ ?_
  · rintro D i d H1 hD ed ⟨sm, eD⟩
    refine yes ⟨.str d.x, ?_, _, eD, ?_, same_grow hD sm, ?_⟩
    · rw [List.getElem?_set_ne (by decide), List.getElem?_set_ne (by decide)]
      exact List.getElem?_set_self (by rw [wipe_length]; omega)
    · rw [List.length_map, List.length_map, List.length_take]
      exact small1000 (by omega)
    · rw [upd_same, List.take_add_one, ed, List.map_append, List.map_append]
      rfl
  · rintro D H1 hD ⟨sm, eD⟩
    rw [List.take_length] at eD
    exact k D H1 sm eD
theorem num_short {v : Int} (h0 : 0 ≤ v) (h : v < 10) : (numS v).length ≤ 640 :=
  ten h0 h (fun i => (numS i).length ≤ 640) (by decide +kernel) (by decide +kernel) (by decide +kernel) (by decide +kernel) (by decide +kernel) (by decide +kernel) (by decide +kernel) (by decide +kernel) (by decide +kernel) (by decide +kernel)
section
variable {P : Program} {w : World} {K : PySem.W.Frag} {mg : Str → Option Value} {base : Heap}
theorem ok_workL {f : Addr} {fd : FuncData} (F : Fun K "_law_worked_out" "_law_worked_out" sWorkL f fd) (GC : DefOk P w K mg base "_law_cell_at" 1 ["_law_hall", "_law_name"] (spCellAt K)) (mi : mg "int" = none) : FnOk P w K mg base CX0 2 f fd ["_law_hall", "_law_worths", "_law_move", "_law_size", "_law_word"] (spWorkL K) := by
  refine F.ok scWorkL (fun vs H Q E h => ?_) (fun cdv A outer s H vs Q E hr h => ?_)
  · obtain ⟨hd, aw, am, h, yss, z, s, ws, x, who, it, pick, rfl, _⟩ := h
    rfl
  obtain ⟨hd, aw, am, h, yss, z, s, ws, x, who, it, pick, rfl, fh, ok, hw, lw, hm, wok, z10, k⟩ := h
  have nd := scWorkL.nd
  have hr1 : Room 1 (A.deeper (envOfC "_law_worked_out" (defScope sWorkL) _ f cdv)) := hr.mono (by decide)
  refine ⟨_, pss_cons (ps_if (pt_cmpR op_isN (pv 3) pe_non (nomark _)) (pss_one (ps_ret (pe_ifExp (pt_cmpR op_eq (pv 4) pe_str (nomark _)) (pe_ix (ix_tupK K) (pv 2) pe_int (fun _ _ => rfl)) (pv 4)))) pss_nil)
    (pss_cons (ps_if (pt_cmpR op_eq (pv 4) pe_str (nomark _)) (pss_one (ps_ret (pe_ix (ix_tupK K) (pv 2) pe_int (fun _ _ => rfl)))) pss_nil)
    (pss_cons (ps_if (pt_cmpR (op_in_seqK K) (pv 4) (pe_lc (own := [("_law_name", 5), ("_law_upmost", 6), ("_law_first", 7)]) (g := gTup K 3 (gCons (gName 5) (gCons (gName 6) (gCons (gName 7) gNil)))) (tt := tYes) rfl nd (pi_tupK K (pe_dget (hu_of hr) (pv 0) pe_str (fun _ _ => rfl))) (blkOk_by (N := nWorkL) (sc := defScope sWorkL) (by decide +kernel))
        (fun _ _ _ _ _ => pg_tupK K (pgs_cons (pg_name (i := 5) nd rfl (Or.inl rfl)) (pgs_cons (pg_name (i := 6) nd rfl (Or.inl rfl)) (pgs_cons (pg_name (i := 7) nd rfl (Or.inl rfl)) pgs_nil)))) (fun _ _ _ _ _ => pts_nil) (fun _ _ _ _ _ => pv 5)) (by rfl))
      (pss_one (ps_ret (pe_ix (ix_tupK K) (pv 1) (pe_D GC hr1 rfl (pa_cons (pv 0) (pa_cons (pv 4) pa_nil))) (fun _ _ => rfl)))) pss_nil)
    (pss_one (ps_ret (pe_callTy call_int_str rfl mi PyProof.Rows.Boot.«int» (pa_cons (pv 4) pa_nil)))))), ?_⟩
  cases z with
  | none =>
    have e : decide (szV none = V.non) = true := decide_eq_true rfl
    refine seq_if (go_test (go_op ⟨_, rfl, rfl, _, rfl, ?_⟩))
    rw [e]
    refine iteT (go_tif (go_test (go_op ⟨_, rfl, rfl, _, rfl, ?_⟩)))
    cases s with
    | it => exact wok.elim
    | cell j => exact wok.elim
    | num v => exact wok.elim
    | who =>
      rw [show decide (V.str (Src.w h.cs .who) = V.str "who") = true from decide_eq_true rfl]
      exact iteT ⟨_, rfl, am, _, 2, _, rfl, rfl, hm, atI_nat (j := 2) rfl, k H (Same.refl _)⟩
    | person y =>
      rw [show decide (V.str (Src.w h.cs (.person y)) = V.str "who") = false from decide_eq_false fun q => wok.2 (V.str.inj q)]
      exact iteF ⟨_, rfl, k H (Same.refl _)⟩
  | some z =>
    have e : decide (szV (some z) = V.non) = false := decide_eq_false (fun q => by cases q)
    refine seq_if (go_test (go_op ⟨_, rfl, rfl, _, rfl, ?_⟩))
    rw [e]
    refine iteF (seq_if (go_test (go_op ⟨_, rfl, rfl, _, rfl, ?_⟩)))
    cases s with
    | who => exact wok.elim
    | person y => exact wok.elim
    | it =>
      rw [show decide (V.str (Src.w h.cs .it) = V.str "it") = true from decide_eq_true rfl]
      exact iteT ⟨_, rfl, am, _, 3, _, rfl, rfl, hm, atI_nat (j := 3) rfl, k H (Same.refl _)⟩
    | cell j =>
      obtain ⟨c, ec, _⟩ := wok
      have ew : Src.w h.cs (.cell j) = c.x := by
        show (h.cs[j]?.map (·.x)).getD Str.empty = c.x
        rw [ec]
        rfl
      obtain ⟨_, cit, _⟩ := ok.cok.2.1 c (List.mem_of_getElem? ec)
      rw [ew]
      rw [show decide (V.str c.x = V.str "it") = false from decide_eq_false fun q => cit (V.str.inj q)]
      refine iteF (seq_if (go_test (go_op ⟨_, rfl, ?_⟩)))
      refine lc_names rfl rfl fh ok.cok.1 fun G H1 s1 eG => ⟨G, _, rfl, .inl (SqL.of eG), rfl, flat_words _, _, rfl, ?_⟩
      rw [if_neg Bool.false_ne_true, in_words, decide_eq_true (List.mem_map_of_mem (f := fun c : CellD => c.x) (List.mem_of_getElem? ec))]
      have jl : j < ws.length := by
        rw [lw]
        exact (List.getElem?_eq_some_iff.mp ec).1
      exact iteT ⟨_, rfl, go_call ⟨_, rfl, _, rfl, hd, h, yss, j, c, rfl, fh.same s1, ok.cok.1, ok.cok.2.2, ec, fun H2 s2 => ⟨aw, _, (j : Nat), _, rfl, rfl, same_sqt (s1.trans s2) hw, atI_nat (int_at jl), k H2 (s1.trans s2)⟩⟩⟩
    | num v =>
      obtain ⟨v0, vz, z9⟩ := wok
      have nn := num_no v0 (show v < 10 by omega)
      rw [show decide (V.str (Src.w h.cs (.num v)) = V.str "it") = false from decide_eq_false fun q => nn.2 (V.str.inj q)]
      refine iteF (seq_if (go_test (go_op ⟨_, rfl, ?_⟩)))
      refine lc_names rfl rfl fh ok.cok.1 fun G H1 s1 eG => ⟨G, _, rfl, .inl (SqL.of eG), rfl, flat_words _, _, rfl, ?_⟩
      have no : ¬ numS v ∈ h.cs.map (·.x) := fun q => by
        obtain ⟨c, hc, e⟩ := List.mem_map.mp q
        have := (ok.cok.2.1 c hc).1
        rw [e, nn.1] at this
        cases this
      rw [if_neg Bool.false_ne_true, in_words, show decide (Src.w h.cs (.num v) ∈ h.cs.map (·.x)) = false from decide_eq_false no]
      have ni := num_ok v0 (show v < 10 by omega)
      exact iteF ⟨_, rfl, _, v, rfl, ni.2.1, num_short v0 (by omega), k H1 s1⟩
end
end Hx
set_option maxRecDepth 100000
set_option maxHeartbeats 1000000
/-! Tuples cut and joined; what a change makes of the worths. -/
namespace Hx
open PySem PySem.Spec PyProof.Rows L2
section
variable {X : Cx}
theorem op_eqDK (K : PySem.W.Frag) (hu : X.A.units + 64 < cLine) (h : X.K = K := by rfl) : OpR X (compareOp .Eq) (rEqD K) := by
  subst h
  exact op_eqD hu
theorem ix_listK (K : PySem.W.Frag) (h : X.K = K := by rfl) : IxR X (rIxL K) := by
  subst h
  exact ix_list
theorem sl_tupAK (K : PySem.W.Frag) (h : X.K = K := by rfl) : SlR X (rSlA K) := by
  subst h
  exact sl_tupA
def rDictP (K : PySem.W.Frag) : List V → Hp → VK → Prop := fun xs H Q => ∃ (a : Addr) (ps : List Addr) (kvs : List (Key × V)), xs = [.ref a] ∧ SqL K H a (ps.map V.ref) ∧ Paired (fun p kv => SqT K H p [kV kv.1, kv.2]) ps kvs ∧ ∀ p, H p = none → Q (.ref p) (upd H p (.dK (mergeK [] kvs)))
theorem call_dictPK (K : PySem.W.Frag) (hc : X.calm = true) (h : X.K = K := by rfl) : CallR X (.type "dict") (rDictP K) := by
  subst h
  exact call_dictP hc
def rListOf (K : PySem.W.Frag) : List V → Hp → VK → Prop := fun xs H Q => ∃ p ys, xs = [.ref p] ∧ (SqL K H p ys ∨ SqT K H p ys) ∧ ∀ l, H l = none → Q (.ref l) (upd H l (.lst ys))
theorem call_listK (K : PySem.W.Frag) (h : X.K = K := by rfl) : CallR X (.type "list") (rListOf K) := by
  subst h
  exact call_list_of
theorem pi_zipK (K : PySem.W.Frag) {e e2 : Expr} {ta : TA} {p pos tpos : Pos} {elts : List Expr} {kk : Nat} (hg : Gl X "zip") (hm : X.mg "zip" = none) (ha : PA X [e, e2] ta) (h : X.K = K := by rfl)
    (he : starEach [e, e2] X.env = (false, eval e X.env) :: starEach [e2] X.env := by rfl) (hpl : (backTo pos (starEach [e2] X.env)).any (·.1) = false := by rfl) : PI X (.Tuple elts kk tpos) (.Call (.Name "zip" p) [e, e2] [] pos) (RZ.iZipA K ta) := by
  subst h
  exact RZ.pi_zipA hg hm ha (hs := he) (hpl := hpl)
end
section
variable {K : PySem.W.Frag} {H : Hp} {Q : VK}
theorem cat_any {a b : Addr} {xs ys : List V} (ha : SqT K H a xs) (hb : SqT K H b ys) (l : xs.length + ys.length ≤ 900) (k : ∀ q H', Same H H' → SqT K H' q (xs ++ ys) → Q (.ref q) H') : rCatA K (.ref a) (.ref b) H Q :=
  ⟨a, b, xs, ys, rfl, rfl, ha, hb, sz (by omega), (fun z => k b H (Same.refl _) (by rw [z]; exact hb)), (fun _ z => k a H (Same.refl _) (by rw [z, List.append_nil]; exact ha)), fun _ _ q nq => k q _ (same_new nq _) (SqT.of upd_same)⟩
theorem slice_any {a : Addr} {xs : List V} {lo hi : Option Int} (h : SqT K H a xs) (k : ∀ q H', Same H H' → SqT K H' q (cutV xs lo hi) → Q (.ref q) H') : rSlA K (.ref a) lo hi H Q := by
  refine ⟨a, xs, rfl, h, fun w => k a H (Same.refl _) ?_, fun _ q nq => k q _ (same_new nq _) (SqT.of upd_same)⟩
  have e : cutV xs lo hi = xs := by
    unfold cutV
    rw [w.1, w.2, List.drop_zero, Nat.sub_zero, List.take_length]
  rw [e]
  exact h
theorem cut_to (xs : List V) (j : Nat) (h : j ≤ xs.length) : cutV xs none (some (j : Int)) = xs.take j := by
  unfold cutV
  rw [HT.sIx_none, HT.sIx_nat, Nat.min_eq_left h, List.drop_zero, Nat.sub_zero]
theorem cut_from (xs : List V) (j : Nat) (h : j ≤ xs.length) : cutV xs (some (j : Int)) none = xs.drop j := by
  unfold cutV
  rw [HT.sIx_none, HT.sIx_nat, Nat.min_eq_left h]
  exact List.take_of_length_le (by rw [List.length_drop]; exact Nat.le_refl _)
end
theorem set_cut (xs : List V) (j : Nat) (x : V) (h : j < xs.length) : xs.take j ++ [x] ++ xs.drop (j + 1) = xs.set j x := by
  rw [List.set_eq_take_append_cons_drop, if_pos h, List.append_assoc]
  rfl
/-! ### worths stay worths -/
theorem fits_set {cs : List CellD} {ws : List Int} {j : Nat} {c : CellD} {x : Int} (fit : Fits cs ws) (ec : cs[j]? = some c) (x0 : 0 ≤ x) (xz : x < c.z) : Fits cs (ws.set j x) := by
  refine ⟨by rw [List.length_set]; exact fit.1, fun i d ed => ?_⟩
  have jl : j < ws.length := by
    rw [fit.1]
    exact (List.getElem?_eq_some_iff.mp ec).1
  by_cases e : j = i
  · subst e
    rw [ec] at ed
    cases ed
    rw [List.getD_eq_getElem?_getD, List.getElem?_set_self jl]
    exact ⟨x0, xz⟩
  · rw [List.getD_eq_getElem?_getD, List.getElem?_set_ne e, ← List.getD_eq_getElem?_getD]
    exact fit.2 i d ed
theorem size_at {cs : List CellD} {j : Nat} {c : CellD} (ec : cs[j]? = some c) : sizeAt cs j = c.z := by
  unfold sizeAt
  rw [ec]
  rfl
theorem num_in {cs : List CellD} {ws : List Int} {z p it : Int} {s : Src} (fit : Fits cs ws) (h : s.fits cs z p) (i0 : 0 ≤ it) (i1 : it < p) : 0 ≤ s.num? ws it ∧ s.num? ws it < z := by
  cases s with
  | it =>
    have h : p ≤ z := h
    show 0 ≤ it ∧ it < z
    omega
  | cell j =>
    obtain ⟨c, ec, cz⟩ := h
    have := fit.2 j c ec
    show 0 ≤ ws.getD j 0 ∧ ws.getD j 0 < z
    omega
  | num v =>
    obtain ⟨v0, v1, _⟩ := h
    exact ⟨v0, v1⟩
  | who => exact h.elim
  | person x => exact h.elim
theorem out_num {cs : List CellD} {ws : List Int} {z p it : Int} {who : Str} {s : Src} (h : s.fits cs z p) : outV ws who it s = .int (s.num? ws it) := by
  cases s with
  | who => exact h.elim
  | person x => exact h.elim
  | _ => rfl
/-- what the law makes of a worth -/
theorem step_worth {cs : List CellD} {ws : List Int} {t : ChangeD} {c : CellD} {pick it : Int} (fit : Fits cs ws) (ec : cs[t.j]? = some c) (cz : 2 ≤ c.z) (f : t.s.fits cs c.z pick) (i0 : 0 ≤ it) (i1 : it < pick) :
    ws.set t.j ((t.s.num? ws it + (if t.add = true then 1 else 0) * ws.getD t.j 0) % c.z) = chStep cs it ws t ∧ 0 ≤ (t.s.num? ws it + (if t.add = true then 1 else 0) * ws.getD t.j 0) % c.z ∧ (t.s.num? ws it + (if t.add = true then 1 else 0) * ws.getD t.j 0) % c.z < c.z := by
  have n := num_in fit f i0 i1
  refine ⟨?_, Int.emod_nonneg _ (by omega), Int.emod_lt_of_pos _ (by omega)⟩
  unfold chStep
  rw [size_at ec]
  cases t.add with
  | true =>
    rw [if_pos rfl, if_pos rfl, Int.one_mul, Int.fmod_eq_emod_of_nonneg _ (by omega), Int.add_comm]
  | false =>
    rw [if_neg Bool.false_ne_true, if_neg Bool.false_ne_true, Int.zero_mul, Int.add_zero, Int.emod_eq_of_lt n.1 n.2]
end Hx
set_option maxRecDepth 100000
set_option maxHeartbeats 1000000
/-! A kind's fields found by its name; a row's words worked out. -/
namespace Hx
open PySem PySem.Spec PyProof.Rows L2
theorem putK_new {acc : List (Key × V)} {k : Key} {v : V} (h : ∀ q ∈ acc, q.1 ≠ k) : putK acc k v = acc ++ [(k, v)] := by
  unfold putK
  rw [if_neg]
  intro z
  obtain ⟨q, hq, e⟩ := List.any_eq_true.mp z
  exact h q hq (of_decide_eq_true e)
theorem mergeK_new : ∀ {kvs acc : List (Key × V)}, (kvs.map (·.1)).Nodup → (∀ q ∈ acc, ∀ p ∈ kvs, q.1 ≠ p.1) → mergeK acc kvs = acc ++ kvs
  | [], acc, _, _ => by
    rw [List.append_nil]
    rfl
  | p :: kvs, acc, nd, h => by
    have nd' := List.nodup_cons.mp nd
    show mergeK (putK acc p.1 p.2) kvs = acc ++ (p :: kvs)
    rw [putK_new fun q hq => h q hq p (List.mem_cons_self ..)]
    rw [mergeK_new nd'.2 fun q hq r hr => ?_]
    · rw [List.append_assoc]
      rfl
    · rcases List.mem_append.mp hq with hq | hq
      · exact h q hq r (List.mem_cons_of_mem _ hr)
      · rw [List.mem_singleton.mp hq]
        intro z
        have z : p.1 = r.1 := z
        exact nd'.1 (List.mem_map.mpr ⟨r, hr, z.symm⟩)
theorem valV_in : ∀ {kvs : List (Key × V)} {i : Nat} {k : Key} {v : V}, (kvs.map (·.1)).Nodup → kvs[i]? = some (k, v) → valV kvs k = some v
  | [], i, k, v, _, h => by simp at h
  | p :: kvs, 0, k, v, _, h => by
    cases h
    exact valV_pos rfl
  | p :: kvs, i + 1, k, v, nd, h => by
    have nd' := List.nodup_cons.mp nd
    have h : kvs[i]? = some (k, v) := h
    have ne : ¬ p.1 = k := fun z => nd'.1 (List.mem_map.mpr ⟨_, List.mem_of_getElem? h, z.symm⟩)
    rw [valV_neg ne]
    exact valV_in nd'.2 h
theorem kinds_pairs {K : PySem.W.Frag} {H : Hp} : ∀ {xs : List V} {ks : List KindD}, TpAll K H xs (ks.map KindD.d) → ∃ (ps : List Addr) (kvs : List (Key × V)), xs = ps.map V.ref ∧ Paired (fun p kv => SqT K H p [kV kv.1, kv.2]) ps kvs ∧ kvs.map (·.1) = ks.map (fun k => (Sum.inr k.x : Key)) ∧
    ∀ (i : Nat) (k : KindD), ks[i]? = some k → ∃ fa, kvs[i]? = some ((Sum.inr k.x : Key), V.ref fa) ∧ Tp K H (.ref fa) (.tuple (k.fs.map FieldD.d))
  | _, [], h => by
    cases h
    exact ⟨[], [], rfl, .nil, rfl, fun i k e => by simp at e⟩
  | _, k :: ks, h => by
    cases h with
    | cons h1 h2 =>
    obtain ⟨ps, kvs, e, pr, en, at_⟩ := kinds_pairs h2
    obtain ⟨p, us, rfl, hp, hu⟩ := tp_tup h1
    cases hu with
    | cons u1 hu =>
    cases hu with
    | cons u2 hu =>
    cases hu
    cases u1
    obtain ⟨fa, fx, rfl, hf, hx⟩ := tp_tup u2
    refine ⟨p :: ps, ((Sum.inr k.x : Key), V.ref fa) :: kvs, by rw [e]; rfl, .cons hp pr, by rw [List.map_cons, en]; rfl, fun i kd ek => ?_⟩
    cases i with
    | zero =>
      cases ek
      exact ⟨fa, rfl, .tup hf hx⟩
    | succ i => exact at_ i kd ek
theorem paired_imp {α β : Type} {F G : α → β → Prop} (h : ∀ a b, F a b → G a b) : ∀ {xs : List α} {ys : List β}, Paired F xs ys → Paired G xs ys
  | _, _, .nil => .nil
  | _, _, .cons a t => .cons (h _ _ a) (paired_imp h t)
/-- dict(list(hall["kinds"]))[kind] -/
theorem get_fields {K : PySem.W.Frag} {σ : L2.St} {H : Hp} {Q : VK} {hd pa ca ka da : Addr} {day : Int} {ks : List KindD} {j : Nat} {kd : KindD} (e0 : σ[0]? = some (some (.ref hd))) (e18 : σ[18]? = some (some (.str kd.x))) (eh : H hd = some (.dK (kv5 pa ca ka da day))) (tk : Tp K H (.ref ka) (.tuple (ks.map KindD.d)))
    (kn : (ks.map (·.x)).Nodup) (ek : ks[j]? = some kd) (k : ∀ fa H', Same H H' → Tp K H' (.ref fa) (.tuple (kd.fs.map FieldD.d)) → Q (.ref fa) H') :
    tDGet (tCB (rDictP K) (tCons (tCB (rListOf K) (tCons (tDGet (tVar 0) (tC (.str "kinds"))) tNil)) tNil)) (tVar 18) σ H Q := by
  obtain ⟨ka', xs, eka, hs, hx⟩ := tp_tup tk
  have eka : ka = ka' := V.ref.inj eka
  subst eka
  obtain ⟨ps, kvs, rfl, pr, en, at_⟩ := kinds_pairs hx
  have nd : (kvs.map (·.1)).Nodup := by
    rw [en]
    have : ks.map (fun k => (Sum.inr k.x : Key)) = (ks.map (·.x)).map (fun x => (Sum.inr x : Key)) := by rw [List.map_map]; rfl
    rw [this]
    exact List.Pairwise.map _ (fun a b h z => h (Sum.inr.inj z)) kn
  refine go_dget (go_cb (go_cons (go_cb (go_cons (go_dget ⟨_, e0, hd, .ref ka, rfl, dget_at eh rfl, ?_⟩)))))
  refine go_nil ⟨ka, _, rfl, .inr hs, fun l hl => ?_⟩
  have s1 := same_new hl (.lst (ps.map V.ref))
  have el : (upd H l (.lst (ps.map V.ref))) l = some (.lst (ps.map V.ref)) := upd_same
  show tNil _ (upd H l (.lst (ps.map V.ref))) _
  generalize upd H l (.lst (ps.map V.ref)) = H1 at s1 el
  refine go_nil ⟨l, ps, kvs, rfl, SqL.of el, paired_imp (fun a b e => same_sqt s1 e) pr, fun d hd' => ?_⟩
  have s2 := same_new hd' (.dK (mergeK [] kvs))
  obtain ⟨fa, ef, tf⟩ := at_ j kd ek
  refine ⟨_, e18, d, .ref fa, rfl, dget_at upd_same ?_, k fa _ (s1.trans s2) (tf.same (s1.trans s2))⟩
  rw [mergeK_new nd (fun q hq => by cases hq), List.nil_append]
  exact valV_in nd ef
end Hx
set_option maxRecDepth 100000
set_option maxHeartbeats 1000000
/-! What a move does, as the law works it out: its statements. -/
namespace Hx
open PySem PySem.Spec PyProof.Rows L2
abbrev sDone : Stmt := top 60
abbrev nDone : List Str := ["_law_hall", "_law_stand", "_law_move", "_law_worths", "_law_today", "_law_name", "_law_by", "_law_tests", "_law_pick", "_law_changes_here", "_law_past_rows", "_law_word", "_law_cell", "_law_made", "_law_at", "_law_size", "_law_worth", "_law_rows", "_law_kind", "_law_lot", "_law_fields", "_law_values", "_law_deed", "_law_field"]
theorem scDone : FnScope nDone ["_law_hall", "_law_stand", "_law_move"] (defScope sDone) := ⟨rfl, rfl, rfl, by decide +kernel, rfl, by decide +kernel, by decide +kernel⟩
def spDoneL (K : PySem.W.Frag) : Sp := fun vs H Q _ => ∃ (hd : Addr) (h : HouseD) (yss : List (List Str)) (v u : V) (ws : List Int) (n : Int) (m : MoveD) (s b : PyData), vs = [.ref hd, v, u] ∧ FullHall K H hd h yss ∧ h.Ok ∧ Drawn h.people h.ds yss ∧ Tp K H v (standD ws n) ∧ Fits h.cs ws ∧ Tp K H u m.d ∧ IsMv h m ∧ Behind h ws n m s b ∧
  ∀ a H', Same H H' → Tp K H' a (.tuple [s, b]) → Q a H'
def stD (hd va ua wa : Addr) (n : Int) (d5 d6 d7 d8 d9 d10 c11 c12 c13 c14 c15 c16 r17 r18 r19 r20 r21 : Option V) : L2.St :=
  [some (.ref hd), some (.ref va), some (.ref ua), some (.ref wa), some (.int n), d5, d6, d7, d8, d9, d10, c11, c12, c13, c14, c15, c16, r17, r18, r19, r20, r21, none, none]
theorem go_noP {σ : L2.St} {H : Hp} {Q : Option Int → Hp → Prop} (h : Q none H) : tNoPart σ H Q := h
theorem go_asg {te : TE} {g : TG} {D : Ends} {σ : L2.St} {H : Hp} (h : te σ H fun x H1 => g x σ H1 D.nx) : tAsg te g D σ H := h
theorem mv_it {h : HouseD} {j : Nat} {d : DeedD} {who : Str} {it : Int} (dn : (h.ds.map (·.x)).Nodup) (ed : h.ds[j]? = some d) (im : IsMv h (.act d.x who it)) : 0 ≤ it ∧ it < d.pick := by
  generalize ex : MoveD.act d.x who it = m at im
  cases im with
  | night => cases ex
  | @act j2 d2 who2 it2 e2 _ _ _ i0 i1 =>
    injection ex with x1 x2 x3
    subst x3
    have ej : j = j2 := nodup_ix dn (by rw [List.getElem?_map, ed]; exact congrArg some x1) (by rw [List.getElem?_map, e2]; rfl)
    subst ej
    rw [ed] at e2
    cases e2
    exact ⟨i0, i1⟩
/-- the deed of this name -/
theorem lc_deed {K : PySem.W.Frag} {σ : L2.St} {H : Hp} {Q : VK} {hd ua pa ca ka da : Addr} {h : HouseD} {yss : List (List Str)} {j : Nat} {d : DeedD} {ys : List Str} {who : Str} {it : Int} (l24 : σ.length = 24) (e0 : σ[0]? = some (some (.ref hd))) (e2 : σ[2]? = some (some (.ref ua))) (eh : H hd = some (.dK (kv5 pa ca ka da h.day)))
    (td : Tp K H (.ref da) (.tuple (List.zipWith (DeedD.l h.cs h.ks) h.ds yss))) (dn : (h.ds.map (·.x)).Nodup) (dl : yss.length = h.ds.length) (ed : h.ds[j]? = some d) (ey : yss[j]? = some ys) (hu : SqT K H ua [.str "do", .str d.x, .str who, .int it])
    (k : ∀ G x H', Same H H' → H' G = some (.lst [x]) → Tp K H' x (DeedD.l h.cs h.ks d ys) → Q (.ref G) H') :
    tLc (iTup K (tDGet (tVar 0) (tC (.str "deeds")))) (gName 22) (tTest (tOp rEq (tOp (rIxT K) (tVar 22) (tC (.int 0))) (tOp (rIxT K) (tVar 2) (tC (.int 1))))) (tVar 22) [22] σ H Q := by
  obtain ⟨da', xs, eda, hs, hx⟩ := tp_tup td
  have eda : da = da' := V.ref.inj eda
  subst eda
  have ln := hx.length
  rw [List.length_zipWith, dl, Nat.min_self] at ln
  have jl : j < h.ds.length := (List.getElem?_eq_some_iff.mp ed).1
  have xj : xs[j]? = some xs[j] := List.getElem?_eq_getElem (by omega)
  refine ⟨_, e0, hd, .ref da, rfl, dget_at eh rfl, da, rfl, ⟨_, hs⟩, fun G hG => lc_tup (xs := xs) (fun i H' => Same H H' ∧ H' G = some (.lst (if j < i then [xs[j]] else []))) ⟨same_new hG _, by rw [upd_same]; rfl⟩ (fun i H' _ z => same_sqt z.1 hs) ?_ ?_⟩
  · rintro i x H' hi ⟨sm, eG⟩
    have il : i < xs.length := (List.getElem?_eq_some_iff.mp hi).1
    obtain ⟨q, eq_, tq⟩ := hx.get hi
    have e1 : h.ds[i]? = some h.ds[i] := List.getElem?_eq_getElem (by omega)
    have e3 : yss[i]? = some yss[i] := List.getElem?_eq_getElem (by omega)
    rw [List.getElem?_zipWith, e1, e3] at eq_
    have eq_ : q = DeedD.l h.cs h.ks h.ds[i] yss[i] := (Option.some.inj eq_).symm
    subst eq_
    obtain ⟨t, us, rfl, ht, hu'⟩ := tp_tup (tq.same sm)
    cases hu' with
    | cons u1 h2 =>
    cases u1
    have g22 : ((wipe σ [22]).set 22 (some (V.ref t)))[22]? = some (some (V.ref t)) := List.getElem?_set_self (by rw [wipe_length]; omega)
    have g2 : ((wipe σ [22]).set 22 (some (V.ref t)))[2]? = some (some (V.ref ua)) := by
      rw [List.getElem?_set_ne (by decide), wipe_get, if_neg (by decide)]
      exact e2
    refine ⟨set2, go_test (go_op (go_op ⟨_, g22, t, _, 0, _, rfl, rfl, ht, atI_nat (j := 0) rfl, ⟨_, g2, ua, _, 1, _, rfl, rfl, same_sqt sm hu, atI_nat (j := 1) rfl, rfl, _, rfl, ?_⟩⟩))⟩
    by_cases e : i = j
    · subst e
      rw [e1] at ed
      have ed : h.ds[i] = d := Option.some.inj ed
      rw [ed, decide_eq_true rfl]
      refine iteT ⟨_, g22, _, eG, ?_, same_grow hG sm, ?_⟩
      · rw [if_neg (by omega)]
        exact small1000 (by decide)
      · rw [upd_same, if_neg (by omega), if_pos (by omega)]
        rw [hi] at xj
        rw [← Option.some.inj xj]
        rfl
    · have ne : h.ds[i].x ≠ d.x := fun z => e (nodup_ix dn (by rw [List.getElem?_map, e1]; exact congrArg some z) (by rw [List.getElem?_map, ed]; rfl))
      rw [decide_eq_false (fun z => ne (V.str.inj z))]
      refine iteF ⟨sm, ?_⟩
      rw [eG]
      by_cases c : j < i
      · rw [if_pos c, if_pos (by omega)]
      · rw [if_neg c, if_neg (by omega)]
  · rintro H' ⟨sm, eG⟩
    rw [if_pos (by omega)] at eG
    obtain ⟨q, eq_, tq⟩ := hx.get xj
    rw [List.getElem?_zipWith, ed, ey] at eq_
    have eq_ : q = DeedD.l h.cs h.ks d ys := (Option.some.inj eq_).symm
    subst eq_
    exact k G _ H' sm eG (tq.same sm)
/-- a row's words, worked out -/
theorem lc_vals {K : PySem.W.Frag} {H : Hp} {Q : VK} {hd va ua w2 rl lt fa : Addr} {n : Int} {d5 d6 d7 d8 d9 d10 c11 c12 c13 c14 c15 c16 r21 : Option V} {kx x who : Str} {it pick : Int} {h : HouseD} {yss : List (List Str)} {kd : KindD} {ss : List Src} {W : List Int}
    (fh : FullHall K H hd h yss) (ok : h.Ok) (tf : Tp K H (.ref fa) (.tuple (kd.fs.map FieldD.d))) (tl : Tp K H (.ref lt) (.tuple (ss.map fun s => .str (s.w h.cs)))) (l1 : ss.length = kd.fs.length) (l3 : kd.fs.length ≤ 3) (each : ∀ (i : Nat) (f : FieldD) (s : Src), kd.fs[i]? = some f → ss[i]? = some s → srcOk h.people h.cs pick f s) (fok : ∀ f ∈ kd.fs, f.ok)
    (hw : SqT K H w2 (W.map V.int)) (lw : W.length = h.cs.length) (hm : SqT K H ua [.str "do", .str x, .str who, .int it])
    (k : ∀ G vs H', Same H H' → H' G = some (.lst vs) → TpAll K H' vs (ss.map (Src.out W who it)) → Q (.ref G) H') :
    tLc (RZ.iZipA K (tCons (tVar 20) (tCons (tVar 19) tNil))) (gTup K 2 (gCons (gTup K 2 (gCons (gName 23) (gCons (gName 15) gNil))) (gCons (gName 11) gNil))) tYes (tCall (spWorkL K) [] E0 (tCons (tVar 0) (tCons (tVar 3) (tCons (tVar 2) (tCons (tVar 15) (tCons (tVar 11) tNil)))))) [23, 15, 11]
      (stD hd va ua w2 n d5 d6 d7 d8 d9 d10 c11 c12 c13 c14 c15 c16 (some (.ref rl)) (some (.str kx)) (some (.ref lt)) (some (.ref fa)) r21) H Q := by
  obtain ⟨fa', fx, efa, hf, hfx⟩ := tp_tup tf
  have efa : fa = fa' := V.ref.inj efa
  subst efa
  obtain ⟨lt', lx, elt, hl, hlx⟩ := tp_tup tl
  have elt : lt = lt' := V.ref.inj elt
  subst elt
  have nf := hfx.length
  have nl := hlx.length
  rw [List.length_map] at nf nl
  refine ⟨_, rfl, _, rfl, fa, lt, fx, lx, rfl, .inr ⟨hf, hl, ?_⟩⟩
  intro G hG
  refine lc_it (walk_zipT (xs := fx) (ys := lx) (n := ss.length) (by omega) nl) (fun i H' => Same H H' ∧ ∃ vs, H' G = some (.lst vs) ∧ TpAll K H' vs ((ss.take i).map (Src.out W who it))) ⟨same_new hG _, [], upd_same, .nil⟩ (fun i H' _ z => ⟨same_sqt z.1 hf, same_sqt z.1 hl⟩) ?_ ?_
  · rintro i v H1 H2 hi ⟨sm, vs, eG, tvs⟩ ⟨T', u, y, rfl, hT, rfl, eu, ey⟩
    have sT := same_new hT (.tup [u, y])
    obtain ⟨q, eq_, tq⟩ := hfx.get eu
    rw [List.getElem?_map] at eq_
    obtain ⟨f, ef, rfl⟩ : ∃ f, kd.fs[i]? = some f ∧ q = FieldD.d f := by
      cases e : kd.fs[i]? with
      | none => rw [e] at eq_; cases eq_
      | some f => rw [e] at eq_; exact ⟨f, rfl, (Option.some.inj eq_).symm⟩
    obtain ⟨q2, eq2, tq2⟩ := hlx.get ey
    rw [List.getElem?_map] at eq2
    obtain ⟨s, es, rfl⟩ : ∃ s, ss[i]? = some s ∧ q2 = .str (s.w h.cs) := by
      cases e : ss[i]? with
      | none => rw [e] at eq2; cases eq2
      | some s => rw [e] at eq2; exact ⟨s, rfl, (Option.some.inj eq2).symm⟩
    cases tq2
    have so := each i f s ef es
    obtain ⟨_, fz⟩ := fok f (List.mem_of_getElem? ef)
    have sT2 := sm.trans sT
    obtain ⟨a, ys, rfl, hya, hy⟩ := tp_tup (tq.same sT2)
    cases hy with
    | cons g0 g1 =>
    cases g1 with
    | cons g1 g2 =>
    cases g2
    rename_i v0 v1
    have ev : v1 = szV f.z := by
      cases e : f.z with
      | none =>
        rw [e] at g1
        cases g1
        rfl
      | some z =>
        rw [e] at g1
        cases g1
        rfl
    subst ev
    have wok : wordOk h.people h.cs pick f.z s := by
      unfold srcOk at so
      unfold wordOk
      cases e : f.z with
      | none => rw [e] at so; exact so
      | some z => rw [e] at so; exact so
    refine ⟨T', _, rfl, SqT.of upd_same, rfl, _, _, rfl, a, _, rfl, hya, rfl, _, _, rfl, _, _, rfl, rfl, _, _, rfl, rfl, set3d, yes ?_⟩
    refine go_call ⟨_, rfl, _, rfl, _, rfl, _, rfl, _, rfl, hd, w2, ua, h, yss, f.z, s, W, x, who, it, pick, rfl, fh.same sT2, ok, same_sqt sT2 hw, lw, same_sqt sT2 hm, wok, (fun z e => by have := (fz z e).2; omega), fun H3 s3 => ?_⟩
    have eG3 := (sT.trans s3) _ _ eG
    have lv : vs.length ≤ 3 := by
      have := tvs.length
      rw [List.length_map, List.length_take] at this
      omega
    refine ⟨vs, eG3, small1000 (by omega), same_grow hG (sT2.trans s3), vs ++ [outV W who it s], upd_same, ?_⟩
    rw [List.take_add_one, es, List.map_append]
    exact TpAll.append ((tvs.same (sT.trans s3)).lst eG3) (.cons (out_tp s) .nil)
  · rintro H1 ⟨sm, vs, eG, tvs⟩
    rw [List.take_length] at tvs
    exact k G vs H1 sm eG tvs
section
variable {P : Program} {w : World} {K : PySem.W.Frag} {mg : Str → Option Value} {base : Heap}
theorem ok_doneL {f : Addr} {fd : FuncData} (F : Fun K "_law_done" "_law_done" sDone f fd) (GC : DefOk P w K mg base "_law_cell_at" 1 ["_law_hall", "_law_name"] (spCellAt K)) (GW : DefOk P w K mg base "_law_worked_out" 2 ["_law_hall", "_law_worths", "_law_move", "_law_size", "_law_word"] (spWorkL K))
    (mi : mg "int" = none) (mtu : mg "tuple" = none) (mli : mg "list" = none) (md : mg "dict" = none) (mz : mg "zip" = none) : FnOk P w K mg base CX0 3 f fd ["_law_hall", "_law_stand", "_law_move"] (spDoneL K) := by
  refine F.ok scDone (fun vs H Q E h => ?_) (fun cdv A outer s H vs Q E hr h => ?_)
  · obtain ⟨hd, h, yss, v, u, ws, n, m, s, b, rfl, _⟩ := h
    rfl
  obtain ⟨hd, h, yss, v, u, ws, n, m, st, bk, rfl, fh, ok, dr, tv, fit, tu, im, be, k⟩ := h
  have nd := scDone.nd
  have hu := hr.units
  have hr1 : Room 1 (A.deeper (envOfC "_law_done" (defScope sDone) s.heap.objs.size f cdv)) := hr.mono (by decide)
  refine ⟨_, pss_cons (ps_asg (pv 1) (pg_tupK K (pgs_cons (pg_name (i := 3) nd rfl (.inr rfl)) (pgs_cons (pg_name (i := 4) nd rfl (.inl rfl)) pgs_nil))))
    (pss_cons (ps_if (pt_cmpR (op_eqDK K hu) (pv 2) (pe_tup (pa_cons pe_str pa_nil)) (nomark _)) (pss_one (ps_ret (pe_tup (pa_cons (pe_tup (pa_cons (pv 3) (pa_cons pe_int pa_nil))) (pa_cons (pe_tup pa_nil) pa_nil))))) pss_nil)
    (pss_cons (ps_asg (pe_ix (ix_listK K) (pe_lc (own := [("_law_deed", 22)]) (g := gName 22) (tt := tTest (tOp rEq (tOp (rIxT K) (tVar 22) (tC (.int 0))) (tOp (rIxT K) (tVar 2) (tC (.int 1))))) rfl nd (pi_tupK K (pe_dget (hu_of hr) (pv 0) pe_str (fun _ _ => rfl))) (blkOk_by (N := nDone) (sc := defScope sDone) (by decide +kernel))
          (fun _ _ _ _ _ => pg_name (i := 22) nd rfl (Or.inl rfl)) (fun _ _ _ _ _ => pts_one (pt_cmpR op_eq (pe_ix (ix_tupK K) (pv 22) pe_int (fun _ _ => rfl)) (pe_ix (ix_tupK K) (pv 2) pe_int (fun _ _ => rfl)) (nomark _))) (fun _ _ _ _ _ => pv 22)) pe_int (fun _ _ => rfl))
        (pg_tupK K (pgs_cons (pg_name (i := 5) nd rfl (.inl rfl)) (pgs_cons (pg_name (i := 6) nd rfl (.inl rfl)) (pgs_cons (pg_name (i := 7) nd rfl (.inl rfl)) (pgs_cons (pg_name (i := 8) nd rfl (.inl rfl)) (pgs_cons (pg_name (i := 9) nd rfl (.inl rfl)) (pgs_cons (pg_name (i := 10) nd rfl (.inl rfl)) pgs_nil))))))))
    (pss_cons (ps_for PassesOwn.never rfl (pi_tupK K (pv 9)) (pg_tupK K (pgs_cons (pg_name (i := 11) nd rfl (.inl rfl)) (pgs_cons (pg_name (i := 12) nd rfl (.inl rfl)) (pgs_cons (pg_name (i := 13) nd rfl (.inl rfl)) pgs_nil))))
      (pss_cons (ps_set (i := 14) nd rfl (.inl rfl) (pe_D GC hr1 rfl (pa_cons (pv 0) (pa_cons (pv 12) pa_nil))))
      (pss_cons (ps_set (i := 15) nd rfl (.inl rfl) (pe_ix (ix_tupK K) (pe_ix (ix_tupK K) (pe_dget (hu_of hr) (pv 0) pe_str (fun _ _ => rfl)) (pv 14) (fun _ _ => rfl)) pe_int (fun _ _ => rfl)))
      (pss_cons (ps_set (i := 16) nd rfl (.inl rfl) (pe_op op_add (pe_D GW hr rfl (pa_cons (pv 0) (pa_cons (pv 3) (pa_cons (pv 2) (pa_cons (pv 15) (pa_cons (pv 13) pa_nil)))))) (pe_op op_mul (pe_callTy call_int1 rfl mi PyProof.Rows.Boot.«int» (pa_cons (pe_cmpR op_eq (pv 11) pe_str (nomark _)) pa_nil)) (pe_ix (ix_tupK K) (pv 3) (pv 14) (fun _ _ => rfl)))))
      (pss_one (ps_set (i := 3) nd rfl (.inr rfl) (pe_op (op_catAK K) (pe_op (op_catAK K) (pe_slice (sl_tupAK K) (pv 3) po_none (po_some (pv 14))) (pe_tup (pa_cons (pe_op op_mod (pe_callTy call_int1 rfl mi PyProof.Rows.Boot.«int» (pa_cons (pv 16) pa_nil)) (pv 15)) pa_nil))) (pe_slice (sl_tupAK K) (pv 3) (po_some (pe_op op_add (pv 14) pe_int)) po_none))))))))
    (pss_cons (ps_set (i := 17) nd rfl (.inl rfl) (pe_lst pa_nil))
    (pss_cons (ps_for PassesOwn.never rfl (pi_tupK K (pv 10)) (pg_tupK K (pgs_cons (pg_name (i := 18) nd rfl (.inl rfl)) (pgs_cons (pg_name (i := 19) nd rfl (.inl rfl)) pgs_nil)))
      (pss_cons (ps_set (i := 20) nd rfl (.inl rfl) (pe_dget (hu_of hr) (pe_callTy (call_dictPK K rfl) rfl md PyProof.Rows.Boot.«dict» (pa_cons (pe_callTy (call_listK K) rfl mli PyProof.Rows.Boot.«list» (pa_cons (pe_dget (hu_of hr) (pv 0) pe_str (fun _ _ => rfl)) pa_nil)) pa_nil)) (pv 18) (fun _ _ => rfl)))
      (pss_cons (ps_setLc (i := 21) (own := [("_law_field", 23), ("_law_size", 15), ("_law_word", 11)]) (g := gTup K 2 (gCons (gTup K 2 (gCons (gName 23) (gCons (gName 15) gNil))) (gCons (gName 11) gNil))) (tt := tYes) rfl nd rfl rfl (sw_true rfl rfl rfl (by decide +kernel)) (pi_zipK K rfl mz (pa_cons (pv 20) (pa_cons (pv 19) pa_nil))) (blkOk_by (N := nDone) (sc := defScope sDone) (by decide +kernel))
          (fun _ _ _ _ _ => pg_tupK K (pgs_cons (pg_tupK K (pgs_cons (pg_name (i := 23) nd rfl (Or.inl rfl)) (pgs_cons (pg_name (i := 15) nd rfl (Or.inl rfl)) pgs_nil))) (pgs_cons (pg_name (i := 11) nd rfl (Or.inl rfl)) pgs_nil))) (fun _ _ _ _ _ => pts_nil)
          (fun _ _ _ _ _ => pe_D GW hr rfl (pa_cons (pv 0) (pa_cons (pv 3) (pa_cons (pv 2) (pa_cons (pv 15) (pa_cons (pv 11) pa_nil)))))))
      (pss_one (ps_expr (pe_bm PySem.F.plainAttrs_list PySem.F.slot_list_append PySem.F.type_list_append mt_append (pv 17) (pa_cons (pe_tup (pa_cons (pv 18) (pa_cons (pe_callTy (call_tuple_ofK K) rfl mtu PyProof.Rows.Boot.«tuple» (pa_cons (pv 21) pa_nil)) pa_nil))) pa_nil))))))) 
    (pss_one (ps_ret (pe_tup (pa_cons (pe_tup (pa_cons (pv 3) (pa_cons (pe_op op_add (pv 4) pe_int) pa_nil))) (pa_cons (pe_callTy (call_tuple_ofK K) rfl mtu PyProof.Rows.Boot.«tuple» (pa_cons (pv 17) pa_nil)) pa_nil)))))))))), ?_⟩
  obtain ⟨pa, ca, ka, da, eh, sp, tc, tk, td⟩ := fh.at5
  obtain ⟨va, vys, rfl, hva, hvy⟩ := tp_tup tv
  cases hvy with
  | cons g0 g1 =>
  cases g1 with
  | cons g1 g2 =>
  cases g2
  cases g1
  obtain ⟨wa, wxs, rfl, hwa, hwx⟩ := tp_tup g0
  have ewx := tpa_ints hwx
  subst ewx
  obtain ⟨ua, uxs, rfl, hua, hux⟩ : ∃ ua uxs, u = .ref ua ∧ SqT K H ua uxs ∧ True := by
    cases m <;> obtain ⟨ua, uxs, rfl, h1, _⟩ := tp_tup tu <;> exact ⟨ua, uxs, rfl, h1, trivial⟩
  refine seq_set ⟨_, rfl, va, _, rfl, hva, rfl, _, _, rfl, _, _, rfl, rfl, ?_⟩
  show tSeq (tIfS _ _ _) _ _ (stD hd va ua wa n none none none none none none none none none none none none none none none none none) H
  refine seq_if (go_test (go_op ⟨_, rfl, ?_⟩))
  refine go_tup (go_cons (go_c (go_nil ⟨sz (by decide : 1 ≤ 1000), fun q0 nq0 => ?_⟩)))
  have s1 := same_new nq0 (.tup [.str "night"])
  have eq0 : SqT K (upd H q0 (.tup [.str "night"])) q0 [.str "night"] := SqT.of upd_same
  show rEqD K _ _ (upd H q0 (.tup [.str "night"])) _
  generalize upd H q0 (.tup [.str "night"]) = H1 at s1 eq0
  cases be with
  | night =>
    refine ⟨MoveD.night.d, MoveD.night.d, (tu.same s1).dp, (tp_night eq0).dp, shaped_night, shaped_night, _, rfl, ?_⟩
    rw [eq_night]
    refine iteT (go_tup (go_cons (go_tup (go_cons ⟨_, rfl, ?_⟩))))
    refine go_cons (go_c (go_nil ⟨sz (by decide : 2 ≤ 1000), fun t1 n1 => go_cons (go_tup (go_nil ⟨sz (by decide : 0 ≤ 1000), fun t2 n2 => go_nil ⟨sz (by decide : 2 ≤ 1000), fun t3 n3 => ?_⟩⟩))⟩))
    have s2 := same_new n1 (.tup [.ref wa, .int 0])
    have s3 := same_new n2 (.tup [])
    have s4 := same_new n3 (.tup [.ref t1, .ref t2])
    exact k _ _ (s1.trans (s2.trans (s3.trans s4))) (.tup (SqT.of upd_same) (.cons (.tup (same_sqt (s3.trans s4) (SqT.of upd_same)) (.cons (.tup (same_sqt (s1.trans (s2.trans (s3.trans s4))) hwa) (tpa_of_ints _)) (.cons (.int _) .nil))) (.cons (.tup (same_sqt s4 (SqT.of upd_same)) .nil) .nil)))
  | @act j d who it ed o1 o2 df =>
    refine ⟨(MoveD.act d.x who it).d, MoveD.night.d, (tu.same s1).dp, (tp_night eq0).dp, shaped_act it o1 o2, shaped_night, _, rfl, ?_⟩
    rw [eq_act]
    refine iteF ?_
    have hmv : SqT K H ua [.str "do", .str d.x, .str who, .int it] := by
      obtain ⟨a', xs', ea, hh, tt⟩ := tp_tup tu
      have ea : ua = a' := V.ref.inj ea
      subst ea
      cases tt with
      | cons x1 tt => cases tt with
        | cons x2 tt => cases tt with
          | cons x3 tt => cases tt with
            | cons x4 tt =>
              cases tt
              cases x1
              cases x2
              cases x3
              cases x4
              exact hh
    show tSeq (tAsg _ _) _ _ (stD hd va ua wa n none none none none none none none none none none none none none none none none none) H1
    have jl : j < h.ds.length := (List.getElem?_eq_some_iff.mp ed).1
    obtain ⟨ys0, ey⟩ : ∃ ys0, yss[j]? = some ys0 := by
      have jy : j < yss.length := by rw [dr.1]; exact jl
      exact ⟨_, List.getElem?_eq_getElem jy⟩
    refine seq_set (go_op ?_)
    refine lc_deed rfl rfl rfl (s1 _ _ eh) (td.same s1) ok.dn dr.1 ed ey (same_sqt s1 hmv) fun G x H2 s2 eG tx => ?_
    refine go_c ?_
    refine ⟨G, _, 0, x, rfl, rfl, SqL.of eG, atI_nat (j := 0) rfl, ?_⟩
    obtain ⟨tx0, us, rfl, htx, hu'⟩ := tp_tup tx
    cases hu' with
    | cons u1 h2 => cases h2 with
      | cons u2 h3 => cases h3 with
        | cons u3 h4 => cases h4 with
          | cons u4 h5 => cases h5 with
            | cons u5 h6 => cases h6 with
              | cons u6 h7 => cases h7 with
                | nil =>
                  cases u1
                  cases u4
                  rename_i v2 v3 v5 v6
                  obtain ⟨cb, wc, rfl, hcb, hwc⟩ := tp_tup u5
                  obtain ⟨rb, wr, rfl, hrb, hwr⟩ := tp_tup u6
                  refine ⟨tx0, _, rfl, htx, rfl, _, _, rfl, _, _, rfl, _, _, rfl, _, _, rfl, _, _, rfl, _, _, rfl, rfl, ?_⟩
                  show tSeq (tFor _ _ _) _ _ (stD hd va ua wa n (some (.str d.x)) (some v2) (some v3) (some (.int d.pick)) (some (.ref cb)) (some (.ref rb)) none none none none none none none none none none none) H2
                  have s02 := s1.trans s2
                  have dok := ok.dok d (List.mem_of_getElem? ed)
                  obtain ⟨nm, _, d2, dt, p1, p5, c3, dch, r2, drs⟩ := dok
                  have itb := mv_it ok.dn ed im
                  have lc := hwc.length
                  rw [List.length_map] at lc
                  refine seq_tup ⟨_, rfl, cb, rfl, ⟨_, hcb⟩, ?_⟩
                  refine fit_tup (xs := wc) (fun i σ' H' => ∃ (w2 : Addr) (c11 c12 c13 c14 c15 c16 : Option V), σ' = stD hd va ua w2 n (some (.str d.x)) (some v2) (some v3) (some (.int d.pick)) (some (.ref cb)) (some (.ref rb)) c11 c12 c13 c14 c15 c16 none none none none none ∧ Same H2 H' ∧ SqT K H' w2 ((chAll h.cs it ws (d.chs.take i)).map V.int) ∧ Fits h.cs (chAll h.cs it ws (d.chs.take i)))
                    ⟨wa, _, _, _, _, _, _, rfl, Same.refl _, same_sqt s02 hwa, fit⟩ (fun i σ' H' _ z => by obtain ⟨_, _, _, _, _, _, _, _, s, _⟩ := z; exact same_sqt s hcb) ?_ ?_
                  · rintro i v σ1 H3 hx ⟨w2, c11, c12, c13, c14, c15, c16, rfl, sm, hw2, fit2⟩
                    obtain ⟨q, eq_, tq⟩ := hwc.get hx
                    rw [List.getElem?_map] at eq_
                    obtain ⟨t, et', rfl⟩ : ∃ t, d.chs[i]? = some t ∧ q = ChangeD.l h.cs t := by
                      cases e : d.chs[i]? with
                      | none =>
                        rw [e] at eq_
                        cases eq_
                      | some t =>
                        rw [e] at eq_
                        exact ⟨t, rfl, (Option.some.inj eq_).symm⟩
                    obtain ⟨a, ys, rfl, ha, hy⟩ := tp_tup (tq.same sm)
                    cases hy with
                    | cons y0 y1 =>
                    cases y1 with
                    | cons y1 y2 =>
                    cases y2 with
                    | cons y2 y3 =>
                    cases y3
                    cases y0
                    cases y1
                    cases y2
                    obtain ⟨c, ec, tf⟩ := dch t (List.mem_of_getElem? et')
                    have ex : cellX h.cs t.j = c.x := by
                      unfold cellX
                      rw [ec]
                      rfl
                    rw [ex] at ha
                    refine ⟨a, _, rfl, ha, rfl, _, _, rfl, _, _, rfl, _, _, rfl, rfl, ?_⟩
                    have ws2 : ∃ w3, chAll h.cs it ws (d.chs.take i) = w3 := ⟨_, rfl⟩
                    have est := chAll_take (cs := h.cs) (it := it) (ws := ws) et'
                    generalize chAll h.cs it ws (d.chs.take i) = w3 at hw2 fit2 est
                    obtain ⟨_, _, cz2, cz5, _, _⟩ := ok.cok.2.1 c (List.mem_of_getElem? ec)
                    have st := step_worth fit2 ec cz2 tf itb.1 itb.2
                    have jl3 : t.j < w3.length := by
                      rw [fit2.1]
                      exact (List.getElem?_eq_some_iff.mp ec).1
                    refine seq_set (go_call ⟨_, rfl, _, rfl, hd, h, yss, t.j, c, rfl, fh.same (s02.trans sm), ok.cok.1, ok.cok.2.2, ec, fun H4 s4 => ?_⟩)
                    show tSeq (tAsg _ _) _ _ (stD hd va ua w2 n (some (.str d.x)) (some v2) (some v3) (some (.int d.pick)) (some (.ref cb)) (some (.ref rb)) (some (.str (verb t.add))) (some (.str c.x)) (some (.str (t.s.w h.cs))) (some (.int (t.j : Nat))) c15 c16 none none none none none) H4
                    have s24 := sm.trans s4
                    have s04 := s02.trans s24
                    obtain ⟨cxs, pc, cys, hcx, ecx, hpc, epc⟩ := cell_at (tc.same s04) ec
                    refine seq_set (go_op (go_op (go_dget ⟨_, rfl, hd, _, rfl, dget_at (s04 _ _ eh) rfl, ?_⟩)))
                    refine ⟨_, rfl, ca, cxs, (t.j : Nat), _, rfl, rfl, hcx, ecx, pc, cys, 1, _, rfl, rfl, hpc, epc, ?_⟩
                    show tSeq (tAsg _ _) _ _ (stD hd va ua w2 n (some (.str d.x)) (some v2) (some v3) (some (.int d.pick)) (some (.ref cb)) (some (.ref rb)) (some (.str (verb t.add))) (some (.str c.x)) (some (.str (t.s.w h.cs))) (some (.int (t.j : Nat))) (some (.int c.z)) c16 none none none none none) H4
                    have hw4 := same_sqt s4 hw2
                    refine seq_set (go_op (go_call ⟨_, rfl, _, rfl, _, rfl, _, rfl, _, rfl, hd, w2, ua, h, yss, some c.z, t.s, w3, d.x, who, it, d.pick, rfl, fh.same s04, ok, hw4, fit2.1, same_sqt s04 hmv, tf, (fun y e => by cases e; omega), fun H5 s5 => ?_⟩))
                    have hw5 := same_sqt s5 hw4
                    refine go_op (go_cb (go_cons (go_op ⟨_, rfl, rfl, .inr ⟨_, rfl, ?_⟩⟩)))
                    have eadd : decide (V.str (verb t.add) = V.str "add") = t.add := by
                      cases t.add <;> decide +kernel
                    rw [eadd]
                    refine ⟨_, rfl, _, rfl, w2, _, (t.j : Nat), _, rfl, rfl, hw5, atI_nat (int_at jl3), _, _, rfl, rfl, .inl ⟨bit_lo _, bit_hi _⟩, ?_⟩
                    refine ⟨t.s.num? w3 it, _, out_num tf, rfl, ?_⟩
                    have st2 : ∃ y, (t.s.num? w3 it + (if t.add = true then 1 else 0) * w3.getD t.j 0) = y := ⟨_, rfl⟩
                    show tAsg _ _ _ (stD hd va ua w2 n (some (.str d.x)) (some v2) (some v3) (some (.int d.pick)) (some (.ref cb)) (some (.ref rb)) (some (.str (verb t.add))) (some (.str c.x)) (some (.str (t.s.w h.cs))) (some (.int (t.j : Nat))) (some (.int c.z)) (some (.int (t.s.num? w3 it + (if t.add = true then 1 else 0) * w3.getD t.j 0))) none none none none none) H5
                    generalize (t.s.num? w3 it + (if t.add = true then 1 else 0) * w3.getD t.j 0) = y at st
                    refine go_asg (go_op (go_op ⟨_, rfl, ?_⟩))
                    refine go_noP ?_
                    refine ⟨_, rfl, _, rfl, slice_any hw5 fun q1 H6 s6 h6 => ?_⟩
                    have l3 := ok.cok.1
                    have lw3 := fit2.1
                    rw [cut_to _ _ (by rw [List.length_map]; omega)] at h6
                    refine go_tup (go_cons (go_op (go_cb (go_cons ⟨_, rfl, .inl ⟨_, rfl, ?_⟩⟩))))
                    refine ⟨_, rfl, _, _, rfl, rfl, by show 0 < c.z; omega, ?_⟩
                    refine go_nil ⟨sz (by decide : 1 ≤ 1000), fun u7 n7 => ?_⟩
                    have s7 := same_new n7 (.tup [.int (y % c.z)])
                    have e7 : SqT K (upd H6 u7 (.tup [.int (y % c.z)])) u7 [.int (y % c.z)] := SqT.of upd_same
                    show rCatA K _ _ (upd H6 u7 (.tup [.int (y % c.z)])) _
                    generalize upd H6 u7 (.tup [.int (y % c.z)]) = H7 at s7 e7
                    refine cat_any (same_sqt s7 h6) e7 (by rw [List.length_take, List.length_map]; show _ + 1 ≤ 900; omega) fun q2 H8 s8 h8 => ?_
                    have hw8 := same_sqt (s6.trans (s7.trans s8)) hw5
                    refine ⟨_, rfl, ?_⟩
                    refine ⟨_, rfl, _, _, rfl, rfl, _, rfl, ?_⟩
                    refine go_noP ?_
                    refine slice_any hw8 fun q3 H9 s9 h9 => ?_
                    rw [show ((t.j : Nat) : Int) + 1 = ((t.j + 1 : Nat) : Int) by omega, cut_from _ _ (by rw [List.length_map]; omega)] at h9
                    refine cat_any (same_sqt s9 h8) h9 (by rw [List.length_append, List.length_take, List.length_drop, List.length_map]; show _ + 1 + _ ≤ 900; omega) fun q4 H10 s10 h10 => ?_
                    rw [set_cut _ _ _ (by rw [List.length_map]; exact jl3)] at h10
                    refine ⟨q4, _, _, _, _, _, _, rfl, s24.trans (s5.trans (s6.trans (s7.trans (s8.trans (s9.trans s10))))), ?_, ?_⟩
                    · rw [est, ← st.1, List.map_set]
                      exact h10
                    · rw [est, ← st.1]
                      exact fits_set fit2 ec st.2.1 st.2.2
                  · rintro σ1 H3 ⟨w2, c11, c12, c13, c14, c15, c16, rfl, sm, hw2, fit2⟩
                    rw [lc, List.take_length] at hw2 fit2
                    generalize chAll h.cs it ws d.chs = W at hw2 fit2 k
                    show tSeq (tAsg _ _) _ _ (stD hd va ua w2 n (some (.str d.x)) (some v2) (some v3) (some (.int d.pick)) (some (.ref cb)) (some (.ref rb)) c11 c12 c13 c14 c15 c16 none none none none none) H3
                    refine seq_set (go_lst (go_nil ⟨sz (by decide : 0 ≤ 1000), fun rl nrl => ?_⟩))
                    have s4 := same_new nrl (.lst [])
                    have erl : (upd H3 rl (.lst [])) rl = some (.lst []) := upd_same
                    show tSeq (tFor _ _ _) _ _ (stD hd va ua w2 n (some (.str d.x)) (some v2) (some v3) (some (.int d.pick)) (some (.ref cb)) (some (.ref rb)) c11 c12 c13 c14 c15 c16 (some (.ref rl)) none none none none) (upd H3 rl (.lst []))
                    generalize upd H3 rl (.lst []) = H4 at s4 erl
                    have s03 := s02.trans sm
                    have lr := hwr.length
                    rw [List.length_map] at lr
                    refine seq_tup ⟨_, rfl, rb, rfl, ⟨_, same_sqt (sm.trans s4) hrb⟩, ?_⟩
                    refine fit_tup (xs := wr) (fun i σ' H' => ∃ (r18 r19 r20 r21 : Option V) (xd : List V), σ' = stD hd va ua w2 n (some (.str d.x)) (some v2) (some v3) (some (.int d.pick)) (some (.ref cb)) (some (.ref rb)) c11 c12 c13 c14 c15 c16 (some (.ref rl)) r18 r19 r20 r21 ∧ Same H3 H' ∧ H' rl = some (.lst xd) ∧ TpAll K H' xd ((d.rs.take i).map (RowD.out h.ks W who it)))
                      ⟨_, _, _, _, [], rfl, s4, erl, .nil⟩ (fun i σ' H' _ z => by obtain ⟨_, _, _, _, _, _, s, _⟩ := z; exact same_sqt (sm.trans s) hrb) ?_ ?_
                    · rintro i v σ1 H5 hx ⟨r18, r19, r20, r21, xd, rfl, s35, erl5, txd⟩
                      have s05 := s03.trans s35
                      obtain ⟨q, eq_, tq⟩ := hwr.get hx
                      rw [List.getElem?_map] at eq_
                      obtain ⟨r, er, rfl⟩ : ∃ r, d.rs[i]? = some r ∧ q = RowD.l h.cs h.ks r := by
                        cases e : d.rs[i]? with
                        | none => rw [e] at eq_; cases eq_
                        | some r => rw [e] at eq_; exact ⟨r, rfl, (Option.some.inj eq_).symm⟩
                      obtain ⟨a, ys, rfl, ha, hy⟩ := tp_tup (tq.same (sm.trans s35))
                      cases hy with
                      | cons y0 y1 =>
                      cases y1 with
                      | cons y1 y2 =>
                      cases y2
                      cases y0
                      obtain ⟨lt, lxs, rfl, hlt, hlx⟩ := tp_tup y1
                      obtain ⟨kd, ek, sl, f3, each⟩ := drs r (List.mem_of_getElem? er)
                      have exk : kindX h.ks r.j = kd.x := by
                        unfold kindX
                        rw [ek]
                        rfl
                      rw [exk] at ha
                      obtain ⟨_, _, _, fok⟩ := ok.kok kd (List.mem_of_getElem? ek)
                      refine ⟨a, _, rfl, ha, rfl, _, _, rfl, _, _, rfl, rfl, ?_⟩
                      show tSeq (tAsg _ _) _ _ (stD hd va ua w2 n (some (.str d.x)) (some v2) (some v3) (some (.int d.pick)) (some (.ref cb)) (some (.ref rb)) c11 c12 c13 c14 c15 c16 (some (.ref rl)) (some (.str kd.x)) (some (.ref lt)) r20 r21) H5
                      refine seq_set (get_fields rfl rfl (s05 _ _ eh) (tk.same s05) ok.kn ek fun fa H6 s6 tf => ?_)
                      show tSeq (tAsg _ _) _ _ (stD hd va ua w2 n (some (.str d.x)) (some v2) (some v3) (some (.int d.pick)) (some (.ref cb)) (some (.ref rb)) c11 c12 c13 c14 c15 c16 (some (.ref rl)) (some (.str kd.x)) (some (.ref lt)) (some (.ref fa)) r21) H6
                      have s06 := s05.trans s6
                      refine seq_set (lc_vals (fh.same s06) ok tf (y1.same s6) sl f3 each fok (same_sqt (s35.trans s6) hw2) fit2.1 (same_sqt s06 hmv) fun G vs H7 s7 eG tvs => ?_)
                      have s57 := s6.trans s7
                      have erl7 := s57 _ _ erl5
                      refine ⟨_, rfl, .inl ⟨rfl, _, SqL.of erl7⟩, ?_⟩
                      refine go_cons (go_tup (go_cons ⟨_, rfl, ?_⟩))
                      refine go_cons (go_cb (go_cons ⟨_, rfl, ?_⟩))
                      refine go_nil ⟨G, _, rfl, .inl ⟨SqL.of eG, fun tl ntl => ?_⟩⟩
                      have s8 := same_new ntl (.tup vs)
                      have e8 : SqT K (upd H7 tl (.tup vs)) tl vs := SqT.of upd_same
                      show tNil _ (upd H7 tl (.tup vs)) _
                      generalize upd H7 tl (.tup vs) = H8 at s8 e8
                      refine go_nil ⟨sz (by decide : 2 ≤ 1000), fun tr ntr => ?_⟩
                      have s9 := same_new ntr (.tup [.str kd.x, .ref tl])
                      have e9 : SqT K (upd H8 tr (.tup [.str kd.x, .ref tl])) tr [.str kd.x, .ref tl] := SqT.of upd_same
                      show tNil _ (upd H8 tr (.tup [.str kd.x, .ref tl])) _
                      generalize upd H8 tr (.tup [.str kd.x, .ref tl]) = H9 at s9 e9
                      have erl9 := (s8.trans s9) _ _ erl7
                      have lx : xd.length ≤ 2 := by
                        have := txd.length
                        rw [List.length_map, List.length_take] at this
                        omega
                      refine go_nil ⟨rl, xd, .ref tr, rfl, rfl, erl9, small1000 (by omega), ?_⟩
                      refine ⟨_, _, _, _, xd ++ [.ref tr], rfl, same_grow nrl (s35.trans (s57.trans (s8.trans s9))), upd_same, ?_⟩
                      rw [List.take_add_one, er, List.map_append]
                      have tr0 : Tp K H9 (.ref tr) (RowD.out h.ks W who it r) := by
                        unfold RowD.out
                        rw [show (h.ks[r.j]?.map (·.x)).getD Str.empty = kd.x from exk]
                        exact .tup e9 (.cons (.str _) (.cons (.tup (same_sqt s9 e8) (tvs.same (s8.trans s9))) .nil))
                      exact TpAll.append ((txd.same (s57.trans (s8.trans s9))).lst erl9) (.cons (tr0.lst erl9) .nil)
                    · rintro σ1 H5 ⟨r18, r19, r20, r21, xd, rfl, s35, erl5, txd⟩
                      rw [lr, List.take_length] at txd
                      show tRet _ _ (stD hd va ua w2 n (some (.str d.x)) (some v2) (some v3) (some (.int d.pick)) (some (.ref cb)) (some (.ref rb)) c11 c12 c13 c14 c15 c16 (some (.ref rl)) r18 r19 r20 r21) H5
                      refine go_tup (go_cons (go_tup (go_cons ⟨_, rfl, ?_⟩)))
                      refine go_cons (go_op ⟨_, rfl, _, _, rfl, rfl, ?_⟩)
                      refine go_nil ⟨sz (by decide : 2 ≤ 1000), fun t1 n1 => ?_⟩
                      have s6 := same_new n1 (.tup [.ref w2, .int (n + 1)])
                      have e6 : SqT K (upd H5 t1 (.tup [.ref w2, .int (n + 1)])) t1 [.ref w2, .int (n + 1)] := SqT.of upd_same
                      show tCons _ _ _ (upd H5 t1 (.tup [.ref w2, .int (n + 1)])) _
                      generalize upd H5 t1 (.tup [.ref w2, .int (n + 1)]) = H6 at s6 e6
                      refine go_cons (go_cb (go_cons ⟨_, rfl, ?_⟩))
                      refine go_nil ⟨rl, xd, rfl, .inl ⟨SqL.of (s6 _ _ erl5), fun t2 n2 => ?_⟩⟩
                      have s7 := same_new n2 (.tup xd)
                      have e7 : SqT K (upd H6 t2 (.tup xd)) t2 xd := SqT.of upd_same
                      show tNil _ (upd H6 t2 (.tup xd)) _
                      generalize upd H6 t2 (.tup xd) = H7 at s7 e7
                      refine go_nil ⟨sz (by decide : 2 ≤ 1000), fun t3 n3 => ?_⟩
                      have s8 := same_new n3 (.tup [.ref t1, .ref t2])
                      have sx := s03.trans (s35.trans (s6.trans (s7.trans s8)))
                      exact k _ _ sx (.tup (SqT.of upd_same) (.cons (.tup (same_sqt (s7.trans s8) e6) (.cons (.tup (same_sqt (s35.trans (s6.trans (s7.trans s8))) hw2) (tpa_of_ints _)) (.cons (.int _) .nil))) (.cons (.tup (same_sqt s8 e7) (txd.same (s6.trans (s7.trans s8)))) .nil)))
end
end Hx
set_option maxRecDepth 100000
set_option maxHeartbeats 1000000
/-! The law's moves are the program's; what is shown is small. -/
namespace Hx
open PySem PySem.Spec PyProof.Rows L2
theorem byOf_sub {people : List Str} {b : Option (List Str)} : ∀ x ∈ byOf people b, x ∈ people := fun x hx => by
  cases b with
  | none => exact hx
  | some ns => exact (List.mem_filter.mp hx).1
theorem byOf_wr {people ys : List Str} : byOf people (byWr people ys) = people.filter fun x => decide (x ∈ ys) := by
  unfold byWr
  by_cases h : ys = people
  · rw [if_pos h, h]
    show people = _
    exact (List.filter_eq_self.mpr fun x hx => decide_eq_true hx).symm
  · rw [if_neg h]
    rfl
theorem by_perm {people ys : List Str} (pn : people.Nodup) (yn : ys.Nodup) (sub : ∀ y ∈ ys, y ∈ people) : ys.Perm (byOf people (byWr people ys)) := by
  rw [byOf_wr]
  refine (List.perm_ext_iff_of_nodup yn (pn.filter _)).mpr fun x => ?_
  rw [List.mem_filter]
  exact ⟨fun h => ⟨sub x h, decide_eq_true h⟩, fun h => of_decide_eq_true h.2⟩
/-! ### which moves there are -/
theorem lawL_in {h : HouseD} {yss : List (List Str)} {ws : List Int} {n : Int} (dr : Drawn h.people h.ds yss) : ∀ r ∈ lawL h yss ws n, ∃ (j : Nat) (d : DeedD) (who : Str) (it : Int), h.ds[j]? = some d ∧ r = [V.str "do", .str d.x, .str who, .int it] ∧ who ∈ byOf h.people d.by_ ∧ who ∈ h.people ∧ 0 ≤ it ∧ it < d.pick ∧ n < h.day ∧ holdsB d.ts ws = true := fun r hr => by
  unfold lawL at hr
  obtain ⟨l, hl, hr⟩ := List.mem_flatten.mp hr
  obtain ⟨i, hi⟩ := List.getElem?_of_mem hl
  rw [List.getElem?_zipWith] at hi
  cases ed : h.ds[i]? with
  | none => rw [ed] at hi; cases hi
  | some d =>
    cases ey : yss[i]? with
    | none => rw [ed, ey] at hi; cases hi
    | some ys =>
      rw [ed, ey] at hi
      have hi : lawD h.day n ws d ys = l := Option.some.inj hi
      subst hi
      obtain ⟨eb, _, sub, _, _⟩ := dr.2 i d ys ed ey
      unfold lawD at hr
      by_cases c : canB h.day n ws d = true
      · rw [if_pos c] at hr
        obtain ⟨y, hy, hr⟩ := List.mem_flatMap.mp hr
        unfold actR at hr
        obtain ⟨k, hk, rfl⟩ := List.mem_map.mp hr
        have hk := List.mem_range.mp hk
        unfold canB at c
        obtain ⟨c1, c2⟩ := Bool.and_eq_true_iff.mp c
        refine ⟨i, d, y, (k : Nat), ed, rfl, ?_, sub y hy, by omega, by omega, of_decide_eq_true c1, c2⟩
        rw [eb, byOf_wr]
        exact List.mem_filter.mpr ⟨sub y hy, decide_eq_true hy⟩
      · rw [if_neg c] at hr
        cases hr
theorem lawL_none {h : HouseD} {yss : List (List Str)} {ws : List Int} {n : Int} (dr : Drawn h.people h.ds yss) (hn : ¬ n < h.day) : lawL h yss ws n = [] :=
  List.eq_nil_iff_forall_not_mem.mpr fun r hr => by
    obtain ⟨_, _, _, _, _, _, _, _, _, _, z, _⟩ := lawL_in dr r hr
    exact hn z
/-- a deed's rows among those that are ready -/
theorem ready_rows {ready : List Str} {people : List Str} {d : DeedD} : (doOf people d).filter (inReady ready) = if d.x ∈ ready then doOf people d else [] := by
  have all : ∀ r ∈ doOf people d, inReady ready r = decide (d.x ∈ ready) := fun r hr => by
    unfold doOf at hr
    obtain ⟨y, hy, hr⟩ := List.mem_flatMap.mp hr
    obtain ⟨k, hk, rfl⟩ := List.mem_map.mp hr
    rfl
  by_cases c : d.x ∈ ready
  · rw [if_pos c]
    exact List.filter_eq_self.mpr fun r hr => by rw [all r hr]; exact decide_eq_true c
  · rw [if_neg c]
    exact List.filter_eq_nil_iff.mpr fun r hr z => by
      rw [all r hr] at z
      exact c (of_decide_eq_true z)
theorem ready_in {ds : List DeedD} {ws : List Int} {d : DeedD} (dn : (ds.map (·.x)).Nodup) (hd : d ∈ ds) : d.x ∈ readyOf ds ws ↔ holdsB d.ts ws = true := by
  unfold readyOf
  constructor
  · intro hx
    obtain ⟨e, he, ex⟩ := List.mem_map.mp hx
    obtain ⟨he, hh⟩ := List.mem_filter.mp he
    obtain ⟨i, ei⟩ := List.getElem?_of_mem hd
    obtain ⟨j, ej⟩ := List.getElem?_of_mem he
    have ij : i = j := nodup_ix dn (by rw [List.getElem?_map, ei]; rfl) (by rw [List.getElem?_map, ej]; exact congrArg some ex)
    subst ij
    rw [ei] at ej
    cases ej
    exact hh
  · intro hh
    exact List.mem_map.mpr ⟨d, List.mem_filter.mpr ⟨hd, hh⟩, rfl⟩
theorem act_do_of {people : List Str} {d : DeedD} {ys : List Str} (pn : people.Nodup) (eb : d.by_ = byWr people ys) (yn : ys.Nodup) (sub : ∀ y ∈ ys, y ∈ people) : (ys.flatMap (actR d.x d.pick.toNat)).Perm (doOf people d) := by
  unfold doOf
  rw [eb]
  exact (by_perm pn yn sub).flatMap_right _
theorem law_perm {people : List Str} {all : List DeedD} {day n : Int} {ws : List Int} (pn : people.Nodup) (dn : (all.map (·.x)).Nodup) (hn : n < day) : ∀ (ds : List DeedD) (yss : List (List Str)), yss.length = ds.length → (∀ d ∈ ds, d ∈ all) →
    (∀ (i : Nat) (d : DeedD) (ys : List Str), ds[i]? = some d → yss[i]? = some ys → d.by_ = byWr people ys ∧ ys.Nodup ∧ ∀ y ∈ ys, y ∈ people) → (List.zipWith (lawD day n ws) ds yss).flatten.Perm ((doL people ds).filter (inReady (readyOf all ws)))
  | [], yss, _, _, _ => by
    rw [List.zipWith_nil_left]
    exact .nil
  | d :: ds, [], l, _, _ => by cases l
  | d :: ds, ys :: yss, l, sub, each => by
    obtain ⟨eb, yn, ysub⟩ := each 0 d ys rfl rfl
    have ih := law_perm (ws := ws) pn dn hn ds yss (Nat.succ.inj l) (fun e he => sub e (List.mem_cons_of_mem _ he)) fun i e zs h1 h2 => each (i + 1) e zs h1 h2
    rw [List.zipWith_cons_cons, List.flatten_cons]
    show (lawD day n ws d ys ++ _).Perm ((doOf people d ++ doL people ds).filter _)
    rw [List.filter_append]
    refine List.Perm.append ?_ ih
    rw [ready_rows]
    have q := ready_in (ws := ws) dn (sub d (List.mem_cons_self ..))
    unfold lawD canB
    rw [decide_eq_true hn, Bool.true_and]
    by_cases c : holdsB d.ts ws = true
    · rw [if_pos c, if_pos (q.mpr c)]
      exact act_do_of pn eb yn ysub
    · rw [if_neg c, if_neg (fun z => c (q.mp z))]
theorem lawL_perm {h : HouseD} {yss : List (List Str)} {ws : List Int} {n : Int} (ok : h.Ok) (dr : Drawn h.people h.ds yss) (hn : n < h.day) : (lawL h yss ws n).Perm ((doL h.people h.ds).filter (inReady (readyOf h.ds ws))) :=
  law_perm ok.pn ok.dn hn h.ds yss dr.1 (fun d hd => hd) fun i d ys h1 h2 => by
    obtain ⟨a, b, c, _, _⟩ := dr.2 i d ys h1 h2
    exact ⟨a, b, c⟩
/-- both lists of moves are one -/
theorem moves_one {h : HouseD} {yss : List (List Str)} {ws : List Int} {n : Int} {rs rl : List (List V)} (ok : h.Ok) (dr : Drawn h.people h.ds yss) (n1 : n ≤ h.day) (e0 : n = h.day → rs = []) (e1 : n ≠ h.day → rs.Perm ((doL h.people h.ds).filter (inReady (readyOf h.ds ws))) ∧ rs.Pairwise fun x y => rowLt y x = false)
    (pl : rl.Perm (lawL h yss ws n)) (wl : rl.Pairwise fun x y => rowLt y x = false) : rs = rl := by
  by_cases c : n = h.day
  · rw [e0 c]
    rw [lawL_none dr (by omega)] at pl
    exact (List.Perm.eq_nil pl).symm
  · obtain ⟨p1, w1⟩ := e1 c
    have p2 := pl.trans (lawL_perm ok dr (show n < h.day by omega))
    exact rows_one (shape := shp) (fun r hr => (lawL_do ok dr r (pl.mem_iff.mp ((p1.trans p2.symm).mem_iff.mp hr))).fit) w1 wl (p1.trans p2.symm)
theorem doL_few {h : HouseD} (ok : h.Ok) : (doL h.people h.ds).length ≤ 48 := by
  have a := doL_len (people := h.people) (ds := h.ds) fun d hd => by
    have b := byOf_len h.people d.by_
    have p3 := ok.p3
    have := (ok.dok d hd).2.2.2.2.2.1
    exact ⟨by omega, by omega⟩
  have := ok.d4
  omega
theorem lawL_few {h : HouseD} {yss : List (List Str)} {ws : List Int} {n : Int} (ok : h.Ok) (dr : Drawn h.people h.ds yss) : (lawL h yss ws n).length ≤ 48 := by
  by_cases c : n < h.day
  · have := (lawL_perm (ws := ws) ok dr c).length_eq
    have f := List.length_filter_le (inReady (readyOf h.ds ws)) (doL h.people h.ds)
    have := doL_few ok
    omega
  · rw [lawL_none dr c]
    exact Nat.zero_le _
/-! ### a deed fits its worths -/
theorem tests_in {cs : List CellD} {ws : List Int} {ts : List TestD} (fit : Fits cs ws) (h : ∀ t ∈ ts, t.ok cs) : ∀ t ∈ ts, t.j < ws.length := fun t ht => by
  obtain ⟨c, ec, _⟩ := h t ht
  rw [fit.1]
  exact (List.getElem?_eq_some_iff.mp ec).1
theorem fits_isW {cs : List CellD} {ws : List Int} {z p : Int} {s : Src} (fit : Fits cs ws) (h : s.fits cs z p) : s.isW ws := by
  cases s with
  | it => trivial
  | cell j =>
    obtain ⟨c, ec, _⟩ := h
    show j < ws.length
    rw [fit.1]
    exact (List.getElem?_eq_some_iff.mp ec).1
  | num v => trivial
  | who => exact h.elim
  | person x => exact h.elim
theorem word_inn {people : List Str} {cs : List CellD} {ws : List Int} {p : Int} {f : FieldD} {s : Src} (fit : Fits cs ws) (h : srcOk people cs p f s) : s.inn ws := by
  cases s with
  | cell j =>
    unfold srcOk at h
    cases e : f.z with
    | none => rw [e] at h; exact h.elim
    | some z =>
      rw [e] at h
      obtain ⟨c, ec, _⟩ := h
      show j < ws.length
      rw [fit.1]
      exact (List.getElem?_eq_some_iff.mp ec).1
  | _ => trivial
theorem deed_fit {h : HouseD} {ws : List Int} {d : DeedD} (fit : Fits h.cs ws) (hd : d.ok h.people h.cs h.ks) : DeedFit ws d := by
  obtain ⟨_, _, d2, dt, _, _, c3, dch, r2, drs⟩ := hd
  refine ⟨tests_in fit dt, d2, fun c hc => ?_, fun r hr => ?_, by omega⟩
  · obtain ⟨cl, ec, f⟩ := dch c hc
    refine ⟨?_, fits_isW fit f⟩
    rw [fit.1]
    exact (List.getElem?_eq_some_iff.mp ec).1
  · obtain ⟨kd, ek, sl, f3, each⟩ := drs r hr
    refine ⟨fun s hs => ?_, by omega⟩
    obtain ⟨i, es⟩ := List.getElem?_of_mem hs
    have il : i < kd.fs.length := by
      have := (List.getElem?_eq_some_iff.mp es).1
      omega
    exact word_inn fit (each i _ s (List.getElem?_eq_getElem il) es)
theorem chAll_fits {h : HouseD} {d : DeedD} {it : Int} (ok : h.Ok) (i0 : 0 ≤ it) (i1 : it < d.pick) : ∀ (chs : List ChangeD), (∀ t ∈ chs, t.ok h.cs d.pick) → ∀ ws, Fits h.cs ws → Fits h.cs (chAll h.cs it ws chs)
  | [], _, ws, fit => fit
  | t :: chs, hok, ws, fit => by
    obtain ⟨c, ec, f⟩ := hok t (List.mem_cons_self ..)
    obtain ⟨_, _, cz2, _, _, _⟩ := ok.cok.2.1 c (List.mem_of_getElem? ec)
    have st := step_worth fit ec cz2 f i0 i1
    show Fits h.cs (chAll h.cs it (chStep h.cs it ws t) chs)
    refine chAll_fits ok i0 i1 chs (fun u hu => hok u (List.mem_cons_of_mem _ hu)) _ ?_
    rw [← st.1]
    exact fits_set fit ec st.2.1 st.2.2
end Hx
set_option maxRecDepth 100000
set_option maxHeartbeats 1000000
/-! What the law shows is small; repr of tuples. -/
namespace Hx
open PySem PySem.Spec PyProof.Rows L2
/-- data that are small, of such a depth and so many -/
structure Sm (d : PyData) (dep n : Nat) : Prop where
  b : smB d = true
  dp : d.depth ≤ dep
  nn : nodes d ≤ n
theorem Sm.tup {ds : List PyData} {dep n m : Nat} (h : ∀ d ∈ ds, Sm d dep n) (l : ds.length ≤ m) : Sm (.tuple ds) (dep + 1) (n * m + 1) := by
  have a := nodes_forall fun d hd => (h d hd).nn
  have b := dep_forall fun d hd => (h d hd).dp
  have c := Nat.mul_le_mul_left n l
  refine ⟨?_, ?_, ?_⟩
  · simp only [smB]
    exact sm_forall fun d hd => (h d hd).b
  · simp only [PyData.depth]
    omega
  · simp only [nodes]
    omega
theorem Sm.mono {d : PyData} {dep n dep' n' : Nat} (h : Sm d dep n) (h1 : dep ≤ dep') (h2 : n ≤ n') : Sm d dep' n' := ⟨h.b, Nat.le_trans h.dp h1, Nat.le_trans h.nn h2⟩
theorem Sm.str {x : Str} (h : nameB x = true) : Sm (.str x) 0 1 := ⟨by simpa [smB] using h, by simp [PyData.depth], by simp [nodes]⟩
theorem Sm.int {i : Int} (h0 : 0 ≤ i) (h1 : i < 10) : Sm (.int i) 0 1 := ⟨by simp [smB, h0, h1], by simp [PyData.depth], by simp [nodes]⟩
theorem Sm.small {d : PyData} {dep n : Nat} (h : Sm d dep n) (h1 : dep ≤ 20) (h2 : n ≤ 1000) : Small d := ⟨h.b, Nat.le_trans h.dp h1, Nat.le_trans h.nn h2⟩
theorem stand_sm {h : HouseD} {ws : List Int} {n : Int} (ok : h.Ok) (fit : Fits h.cs ws) (n0 : 0 ≤ n) (n9 : n < 10) : Sm (standD ws n) 2 10 := by
  have l3 := ok.cok.1
  have lw := fit.1
  have a : Sm (.tuple (ws.map PyData.int)) 1 4 := Sm.tup (dep := 0) (n := 1) (m := 3) (fun d hd => by
    obtain ⟨x, hx, rfl⟩ := List.mem_map.mp hd
    obtain ⟨j, ej⟩ := List.getElem?_of_mem hx
    have jl : j < h.cs.length := by
      rw [← lw]
      exact (List.getElem?_eq_some_iff.mp ej).1
    have q := fit.2 j _ (List.getElem?_eq_getElem jl)
    have e : ws.getD j 0 = x := by rw [List.getD_eq_getElem?_getD, ej]; rfl
    rw [e] at q
    obtain ⟨_, _, _, z5, _, _⟩ := ok.cok.2.1 _ (List.getElem_mem jl)
    exact Sm.int q.1 (by omega)) (by rw [List.length_map]; omega)
  exact (Sm.tup (dep := 1) (n := 4) (m := 2) (fun d hd => by
    have hd : d = .tuple (ws.map PyData.int) ∨ d = .int n := by simpa [standD] using hd
    rcases hd with rfl | rfl
    · exact a
    · exact (Sm.int n0 n9).mono (by decide) (by decide)) (by simp)).mono (by decide) (by decide)
theorem out_sm {h : HouseD} {W : List Int} {who : Str} {it pick : Int} {f : FieldD} {s : Src} (ok : h.Ok) (fit : Fits h.cs W) (fk : ∀ z, f.z = some z → z < 5) (so : srcOk h.people h.cs pick f s) (hw : nameB who = true) (i0 : 0 ≤ it) (i9 : it < 10) : Sm (s.out W who it) 0 1 := by
  cases s with
  | it => exact Sm.int i0 i9
  | who => exact Sm.str hw
  | cell j =>
    unfold srcOk at so
    cases e : f.z with
    | none => rw [e] at so; exact so.elim
    | some z =>
      rw [e] at so
      obtain ⟨c, ec, _⟩ := so
      have q := fit.2 j c ec
      obtain ⟨_, _, _, z5, _, _⟩ := ok.cok.2.1 c (List.mem_of_getElem? ec)
      exact Sm.int q.1 (by omega)
  | num v =>
    unfold srcOk at so
    cases e : f.z with
    | none => rw [e] at so; exact so.elim
    | some z =>
      rw [e] at so
      obtain ⟨v0, v1, v9⟩ := so
      exact Sm.int v0 (by omega)
  | person x =>
    unfold srcOk at so
    cases e : f.z with
    | none =>
      rw [e] at so
      exact Sm.str (ok.pok x so.1).1
    | some z => rw [e] at so; exact so.elim
theorem row_sm {h : HouseD} {W : List Int} {who : Str} {it : Int} {d : DeedD} {r : RowD} (ok : h.Ok) (fit : Fits h.cs W) (hd : d.ok h.people h.cs h.ks) (hr : r ∈ d.rs) (hw : nameB who = true) (i0 : 0 ≤ it) (i9 : it < 10) : Sm (r.out h.ks W who it) 2 9 := by
  obtain ⟨_, _, _, _, _, _, _, _, _, drs⟩ := hd
  obtain ⟨kd, ek, sl, f3, each⟩ := drs r hr
  obtain ⟨kx, _, _, fok⟩ := ok.kok kd (List.mem_of_getElem? ek)
  have a : Sm (.tuple (r.ss.map (Src.out W who it))) 1 4 := Sm.tup (dep := 0) (n := 1) (m := 3) (fun e he => by
    obtain ⟨s, hs, rfl⟩ := List.mem_map.mp he
    obtain ⟨i, es⟩ := List.getElem?_of_mem hs
    have il : i < kd.fs.length := by
      have := (List.getElem?_eq_some_iff.mp es).1
      omega
    exact out_sm ok fit (fun z ez => ((fok _ (List.getElem_mem il)).2 z ez).2) (each i _ s (List.getElem?_eq_getElem il) es) hw i0 i9) (by rw [List.length_map]; omega)
  have ex : (h.ks[r.j]?.map (·.x)).getD Str.empty = kd.x := by
    rw [ek]
    rfl
  exact (Sm.tup (dep := 1) (n := 4) (m := 2) (fun e he => by
    rw [ex] at he
    have he : e = .str kd.x ∨ e = .tuple (r.ss.map (Src.out W who it)) := by simpa using he
    rcases he with rfl | rfl
    · exact (Sm.str kx).mono (by decide) (by decide)
    · exact a) (by simp)).mono (by decide) (by decide)
theorem pair_sm {s b : PyData} (hs : Sm s 2 10) (hb : Sm b 3 20) : Small (.tuple [s, b]) :=
  (Sm.tup (dep := 3) (n := 20) (m := 2) (fun e he => by
    have he : e = s ∨ e = b := by simpa using he
    rcases he with rfl | rfl
    · exact hs.mono (by decide) (by decide)
    · exact hb) (by simp)).small (by decide) (by decide)
/-- what comes of a move is small -/
theorem behind_sm {h : HouseD} {ws : List Int} {n : Int} {m : MoveD} {s b : PyData} (ok : h.Ok) (fit : Fits h.cs ws) (n0 : 0 ≤ n) (n1 : n ≤ h.day) (im : IsMv h m) (be : Behind h ws n m s b) (wn : ∀ x who it, m = .act x who it → nameB who = true) : Small (.tuple [s, b]) := by
  have y4 := ok.y4
  cases be with
  | night => exact pair_sm (stand_sm ok fit (by decide) (by decide)) ((Sm.tup (ds := []) (dep := 0) (n := 1) (m := 0) (fun d hd => by cases hd) (by decide)).mono (by decide) (by decide))
  | @act j d who it ed o1 o2 df =>
    have dk := ok.dok d (List.mem_of_getElem? ed)
    have itb := mv_it ok.dn ed im
    have p5 := dk.2.2.2.2.2.1
    have fitW := chAll_fits ok itb.1 itb.2 d.chs dk.2.2.2.2.2.2.2.1 ws fit
    have hw := wn _ _ _ rfl
    refine pair_sm (stand_sm ok fitW (by omega) (by omega)) ((Sm.tup (dep := 2) (n := 9) (m := 2) (fun e he => ?_) (by rw [List.length_map]; exact dk.2.2.2.2.2.2.2.2.1)).mono (by decide) (by decide))
    obtain ⟨r, hr, rfl⟩ := List.mem_map.mp he
    exact row_sm ok fitW dk hr hw itb.1 (by omega)
/-- repr of such tuples -/
def rReprT (K : PySem.W.Frag) : List V → Hp → VK → Prop := fun xs H Q => ∃ (x : V) (ds : List PyData), xs = [x] ∧ Tp K H x (.tuple ds) ∧ Small (.tuple ds) ∧ Q (.str (PyData.tuple ds).shown) H
theorem call_reprT {X : Cx} (K : PySem.W.Frag) (hg : X.A.guards = some []) (hu : X.A.units + 64 < cLine) (hK : X.K = K := by rfl) : CallR X (.builtin "repr") (rReprT K) := by
  subst hK
  intro pins s σ H xs us Q I r h
  obtain ⟨x, ds, rfl, tx, sm, q⟩ := h
  obtain ⟨u, rfl, ru⟩ := vals1 r
  obtain ⟨as, hr⟩ := Dp.reads I _ x u tx.dp ru
  obtain ⟨a, xs, rfl, _, _⟩ := tp_tup tx
  obtain rfl := (show u = Value.ref _ from ru)
  have hd := sm.dep
  have s := sm_all _ sm.b
  exact repr_of_reads' hr s.p2 (fun z => by rw [s.p4] at z; cases z) hg (by omega) (fun _ _ e => e) (fun h' u tk k => ⟨.str _, H, I.kept k, ⟨_, rfl⟩, q⟩) sm.len
end Hx
set_option maxRecDepth 100000
set_option maxHeartbeats 1000000
/-! The law's own look: its parts. -/
namespace Hx
open PySem PySem.Spec PyProof.Rows L2
section
variable {K : PySem.W.Frag} {D E : Addr} {H H' : Hp} {p : Addr} {c : Int}
theorem off_pot (hp : Pot H p c) {a : Addr} {xs : List V} {ds : List PyData} (e : H a = some (.lst xs)) (h : TpAll K H xs ds) (hd : ∀ d ∈ ds, ∃ l, d = PyData.tuple l) : a ≠ p := fun z => by
  obtain ⟨A, B, C, ep, _⟩ := hp
  rw [z, ep] at e
  cases e
  cases h with
  | @cons _ _ d ds h1 h2 =>
    obtain ⟨l, rfl⟩ := hd d (List.mem_cons_self ..)
    cases h1
theorem map_tup {α : Type} {f : α → PyData} (hf : ∀ x, ∃ l, f x = PyData.tuple l) (xs : List α) : ∀ d ∈ xs.map f, ∃ l, d = PyData.tuple l := fun d hd => by
  obtain ⟨x, _, rfl⟩ := List.mem_map.mp hd
  exact hf x
theorem DeedAt.pot {q : Addr} {people : List Str} {ks : List KindD} {d : DeedD} {N : Addr → Prop} (hp : Pot H p c) (b : Bar p H H') (h : DeedAt K D H q people ks d N) : DeedAt K D H' q people ks d N := by
  obtain ⟨dx, ab, a1, a2, a3, n, e, t, ⟨x1, e1, t1⟩, ⟨x2, e2, t2⟩, ⟨x3, e3, t3⟩⟩ := h.ex
  obtain ⟨A, B, C, ep, _⟩ := id hp
  exact ⟨dx, ab, a1, a2, a3, n, b _ _ (fun z => by rw [z, ep] at e; cases e) e, t.pot hp b, ⟨x1, b _ _ (off_pot hp e1 t1 (map_tup (fun x => ⟨_, rfl⟩) _)) e1, t1.pot hp b⟩, ⟨x2, b _ _ (off_pot hp e2 t2 (map_tup (fun x => ⟨_, rfl⟩) _)) e2, t2.pot hp b⟩, ⟨x3, b _ _ (off_pot hp e3 t3 (map_tup (fun x => ⟨_, rfl⟩) _)) e3, t3.pot hp b⟩⟩
theorem HouseAt.pot {q : Addr} {t : Str} {h : HouseD} (hp : Pot H p c) (b : Bar p H H') (a : HouseAt K D E H q t h) : HouseAt K D E H' q t h := by
  obtain ⟨dx, ap, ac, ak, ad, as_, ao, ps, qs, ob, pp, tc, tk, td, es, dd, ro, ra, pm, pw⟩ := a.ex
  obtain ⟨A, B, C, ep, _⟩ := id hp
  exact ⟨dx, ap, ac, ak, ad, as_, ao, ps, qs, b _ _ (fun z => by rw [z, ep] at ob; cases ob) ob, sqt_pot hp b pp, tc.pot hp b, tk.pot hp b, td.pot hp b, b _ _ (fun z => by rw [z, ep] at es; cases es) es, dd.map fun _ _ _ z => z.pot hp b, sqt_pot hp b ro, fun q hq => sqt_pot hp b (ra q hq), pm, pw⟩
end
/-- a stand of this house -/
def StandV (K : PySem.W.Frag) (H : Hp) (h : HouseD) (v : V) : Prop := ∃ ws n, Tp K H v (standD ws n) ∧ Fits h.cs ws ∧ 0 ≤ n ∧ n ≤ h.day
theorem begun_fits {h : HouseD} (ok : h.Ok) : Fits h.cs (h.cs.map (·.i)) := by
  refine ⟨by rw [List.length_map], fun j c e => ?_⟩
  rw [List.getD_eq_getElem?_getD, List.getElem?_map, e]
  obtain ⟨_, _, _, _, i0, iz⟩ := ok.cok.2.1 c (List.mem_of_getElem? e)
  exact ⟨i0, iz⟩
theorem made_same {H H' : Hp} {x dx E : Addr} (hx : H x = none) (hdx : H dx = none) (b : Bar x (upd (upd H dx (.own x)) x (.ins E dx [])) H') : Same H H' := fun q o e => by
  have m1 : q ≠ x := fun z => by rw [z, hx] at e; cases e
  have m2 : q ≠ dx := fun z => by rw [z, hdx] at e; cases e
  exact b q o m1 (by rw [upd_ne m1, upd_ne m2]; exact e)
/-- what a shown row of the list is -/
theorem mv_of {h : HouseD} {yss : List (List Str)} {ws : List Int} {n : Int} {rl : List (List V)} (ok : h.Ok) (dr : Drawn h.people h.ds yss) (fit : Fits h.cs ws) (sub : ∀ r ∈ rl, r ∈ lawL h yss ws n) : ∀ dd ∈ rl.map rowD ++ [MoveD.night.d], ∃ m s b, dd = MoveD.d m ∧ IsMv h m ∧ MayB h ws n m true ∧ Behind h ws n m s b ∧ ∀ x who it, m = .act x who it → nameB who = true := fun dd hd => by
  rcases List.mem_append.mp hd with hd | hd
  · obtain ⟨r, hr, rfl⟩ := List.mem_map.mp hd
    obtain ⟨j, d, who, it, ed, rfl, hw, hp, i0, i1, hn, hh⟩ := lawL_in dr r (sub r hr)
    have dk := ok.dok d (List.mem_of_getElem? ed)
    have dx := name_str dk.1
    have hwn := (ok.pok who hp).1
    have wx := name_str hwn
    have fitd := deed_fit fit dk
    refine ⟨.act d.x who it, _, _, rfl, .act ed dx wx hw i0 i1, ?_, .act ed dx wx fitd, fun x w i e => ?_⟩
    · have e : (decide (n < h.day) && holdsB d.ts ws) = true := by rw [hh, decide_eq_true hn]; rfl
      have q : MayB h ws n (.act d.x who it) (decide (n < h.day) && holdsB d.ts ws) := .act ed dx wx (tests_in fit dk.2.2.2.1) dk.2.2.1
      rw [e] at q
      exact q
    · injection e with _ e2 _
      rw [← e2]
      exact hwn
  · rw [List.mem_singleton.mp hd]
    exact ⟨.night, _, _, rfl, .night, .night, .night, fun x w i e => by cases e⟩
/-- [drawn_stand(pot, hall) for turn in range(6)] -/
theorem lc_drawn {K : PySem.W.Frag} {σ : L2.St} {H : Hp} {Q : VK} {p hd : Addr} {c : Int} {h : HouseD} {yss : List (List Str)} (e0 : σ[0]? = some (some (.ref p))) (e1 : σ[1]? = some (some (.ref hd))) (hp : Pot H p c) (hc : c ≤ 1700) (fh : FullHall K H hd h yss) (ok : h.Ok)
    (k : ∀ D vs H', D ≠ p → Bar p H H' → Pot H' p (c + 24) → H' D = some (.lst vs) → vs.length = 6 → (∀ v ∈ vs, StandV K H' h v) → Q (.ref D) H') :
    tLc (iRng1 (tCons (tC (.int 6)) tNil)) (gName 5) tYes (tCall (spDrawn K) [] E0 (tCons (tVar 0) (tCons (tVar 1) tNil))) [5] σ H Q := by
  refine ⟨6, rfl, by decide, by decide, fun D hD => ?_⟩
  have nD : D ≠ p := fun z => by
    obtain ⟨A, B, C, ep, _⟩ := hp
    rw [z, ep] at hD
    cases hD
  refine lc_range (fun j H' => Bar p H H' ∧ Pot H' p (c + 4 * (j : Nat)) ∧ ∃ vs, H' D = some (.lst vs) ∧ vs.length = j ∧ ∀ v ∈ vs, StandV K H' h v) ⟨Bar.new hD _, by simpa using hp.new hD _, [], upd_same, rfl, fun v hv => by cases hv⟩ ?_ ?_
  · rintro j H' hj ⟨b, pt, vs, eD, lv, all⟩
    have hj6 : j < 6 := hj
    refine ⟨set2, yes (go_call ⟨_, get_other e0 (by decide), _, get_other e1 (by decide), p, hd, c + 4 * (j : Nat), h, yss, rfl, pt, by omega, fh.pot hp b, ok, fun v ws n H3 b3 pt3 fit n0 n1 tv => ?_⟩)⟩
    have eD3 := b3 D _ nD eD
    refine ⟨_, eD3, small1000 (by omega), Bar.put (b.trans b3) hD _, (pt3.put nD _).mono (by omega), vs ++ [v], upd_same, by rw [List.length_append, lv]; rfl, fun u hu => ?_⟩
    rcases List.mem_append.mp hu with hu | hu
    · obtain ⟨w1, n1', t1, r⟩ := all u hu
      exact ⟨w1, n1', (t1.pot pt b3).lst eD3, r⟩
    · rw [List.mem_singleton.mp hu]
      exact ⟨ws, n, tv.lst eD3, fit, n0, n1⟩
  · rintro H' ⟨b, pt, vs, eD, lv, all⟩
    exact k D vs H' nD b pt eD lv all
/-- what comes of each move, worked out twice -/
theorem lc_each {K : PySem.W.Frag} {D E : Addr} {σ : L2.St} {H : Hp} {Q : VK} {hd x a : Addr} {v : V} {t : Str} {h : HouseD} {yss : List (List Str)} {ws : List Int} {n : Int} {rl : List (List V)} (l7 : σ.length = 7) (e1 : σ[1]? = some (some (.ref hd))) (e2 : σ[2]? = some (some (.ref x))) (e3 : σ[3]? = some (some v)) (e4 : σ[4]? = some (some (.ref a)))
    (fh : FullHall K H hd h yss) (ha : HouseAt K D E H x t h) (ok : h.Ok) (dr : Drawn h.people h.ds yss) (tv : Tp K H v (standD ws n)) (fit : Fits h.cs ws) (n0 : 0 ≤ n) (n1 : n ≤ h.day) (ta : Tp K H (.ref a) (.tuple (rl.map rowD ++ [MoveD.night.d]))) (few : rl.length ≤ 48) (sub : ∀ r ∈ rl, r ∈ lawL h yss ws n)
    (k : ∀ G m H', Same H H' → H' G = some (.lst ((List.replicate m true).map V.bl)) → Q (.ref G) H') :
    tLc (iTup K (tVar 4)) (gName 6) tYes (tOp rEq (tCB (rReprT K) (tCons (tCall (spAfter D E K) [] E0 (tCons (tVar 2) (tCons (tVar 3) (tCons (tVar 6) tNil)))) tNil)) (tCB (rReprT K) (tCons (tCall (spDoneL K) [] E0 (tCons (tVar 1) (tCons (tVar 3) (tCons (tVar 6) tNil)))) tNil))) [6] σ H Q := by
  obtain ⟨a', xs, ea, hs, hx⟩ := tp_tup ta
  cases ea
  have ln := hx.length
  rw [List.length_append, List.length_map] at ln
  have ln : xs.length = rl.length + 1 := ln
  refine ⟨_, e4, a, rfl, ⟨_, hs⟩, fun G hG => lc_tup (xs := xs) (fun i H' => Same H H' ∧ H' G = some (.lst ((List.replicate i true).map V.bl))) ⟨same_new hG _, upd_same⟩ (fun i H' _ z => same_sqt z.1 hs) ?_ ?_⟩
  · rintro i u H' hi ⟨sm, eG⟩
    have il : i < xs.length := (List.getElem?_eq_some_iff.mp hi).1
    obtain ⟨q, eq_, tq⟩ := hx.get hi
    obtain ⟨m, s, b, rfl, im, may, be, wn⟩ := mv_of ok dr fit sub q (List.mem_of_getElem? eq_)
    have small := behind_sm ok fit n0 n1 im be wn
    refine ⟨set2, yes (go_op (go_cb (go_cons (go_call ⟨_, get_other e2 (by decide), _, get_other e3 (by decide), _, get_same (by omega), x, t, h, v, u, ws, n, m, s, b, rfl, ha.same sm, ok.dn, ok.cok.1, fit, n0, n1, fun c hc => ?_, tv.same sm, tq.same sm, im, may, be, fun y1 H1 s1 t1 => ?_⟩))))⟩
    · obtain ⟨_, _, z2, _⟩ := ok.cok.2.1 c hc
      omega
    · refine go_nil ⟨y1, _, rfl, t1, small, ?_⟩
      refine go_cb (go_cons (go_call ⟨_, get_other e1 (by decide), _, get_other e3 (by decide), _, get_same (by omega), hd, h, yss, v, u, ws, n, m, s, b, rfl, fh.same (sm.trans s1), ok, dr, tv.same (sm.trans s1), fit, tq.same (sm.trans s1), im, be, fun y2 H2 s2 t2 => ?_⟩))
      refine go_nil ⟨y2, _, rfl, t2, small, ?_⟩
      refine ⟨rfl, ?_⟩
      have s12 := s1.trans s2
      refine ⟨_, s12 _ _ eG, ?_, same_grow hG (sm.trans s12), ?_⟩
      · rw [List.length_map, List.length_replicate]
        exact small1000 (by omega)
      · rw [upd_same, decide_eq_true rfl, List.replicate_succ', List.map_append]
        rfl
  · rintro H' ⟨sm, eG⟩
    exact k G _ H' sm eG
theorem each_ok {K : PySem.W.Frag} {A : TS} {Z : Ends} {D E : Addr} {σ : L2.St} {H : Hp} {hd x a : Addr} {v : V} {t : Str} {h : HouseD} {yss : List (List Str)} {ws : List Int} {n : Int} {rl : List (List V)} (l7 : σ.length = 7) (e1 : σ[1]? = some (some (.ref hd))) (e2 : σ[2]? = some (some (.ref x))) (e3 : σ[3]? = some (some v)) (e4 : σ[4]? = some (some (.ref a)))
    (fh : FullHall K H hd h yss) (ha : HouseAt K D E H x t h) (ok : h.Ok) (dr : Drawn h.people h.ds yss) (tv : Tp K H v (standD ws n)) (fit : Fits h.cs ws) (n0 : 0 ≤ n) (n1 : n ≤ h.day) (ta : Tp K H (.ref a) (.tuple (rl.map rowD ++ [MoveD.night.d]))) (few : rl.length ≤ 48) (sub : ∀ r ∈ rl, r ∈ lawL h yss ws n)
    (k : ∀ H', Same H H' → Z.nx σ H') :
    tIfS (tNot (tB (tCB (rAll K) (tCons (tLc (iTup K (tVar 4)) (gName 6) tYes (tOp rEq (tCB (rReprT K) (tCons (tCall (spAfter D E K) [] E0 (tCons (tVar 2) (tCons (tVar 3) (tCons (tVar 6) tNil)))) tNil)) (tCB (rReprT K) (tCons (tCall (spDoneL K) [] E0 (tCons (tVar 1) (tCons (tVar 3) (tCons (tVar 6) tNil)))) tNil))) [6]) tNil)))) A tNext Z σ H := by
  show tLc (iTup K (tVar 4)) (gName 6) tYes (tOp rEq (tCB (rReprT K) (tCons (tCall (spAfter D E K) [] E0 (tCons (tVar 2) (tCons (tVar 3) (tCons (tVar 6) tNil)))) tNil)) (tCB (rReprT K) (tCons (tCall (spDoneL K) [] E0 (tCons (tVar 1) (tCons (tVar 3) (tCons (tVar 6) tNil)))) tNil))) [6] σ H fun y H1 => rAll K [y] H1 fun z H2 => ∃ b, z = .bl b ∧ if (!b) = true then A Z σ H2 else Z.nx σ H2
  refine lc_each l7 e1 e2 e3 e4 fh ha ok dr tv fit n0 n1 ta few sub fun G2 m2 H12 s12 e12 => ?_
  refine ⟨G2, List.replicate m2 true, rfl, SqL.of e12, _, rfl, ?_⟩
  have an : (List.replicate m2 true).all id = true := by
    rw [List.all_eq_true]
    intro z hz
    rw [(List.mem_replicate.mp hz).2]
    rfl
  rw [an]
  exact iteF (k H12 s12)
end Hx
set_option maxRecDepth 100000
set_option maxHeartbeats 1000000
/-! The law's own look: its statements. -/
namespace Hx
open PySem PySem.Spec PyProof.Rows L2

abbrev nRight : List Str := ["_law_pot", "_law_hall", "_law_house", "_law_stand", "_law_some", "_law_turn", "_law_move"]
theorem scRight : FnScope nRight ["_law_pot"] (defScope sRight) := ⟨rfl, rfl, rfl, by decide +kernel, rfl, by decide +kernel, by decide +kernel⟩
def spRight : Sp := fun vs H Q _ => ∃ (p : Addr) (c : Int), vs = [.ref p] ∧ Pot H p c ∧ c ≤ 1000 ∧ ∀ H', Bar p H H' → Pot H' p (c + 264) → Q (.bl true) H'
theorem pi_listK' {X : Cx} (K : PySem.W.Frag) {tg l : Expr} {tl : TE} (hl : PE X l tl) (h : X.K = K := by rfl) : PI X tg l (iList K tl) := by
  subst h
  exact pi_list hl
section
variable {P : Program} {w : World} {K : PySem.W.Frag} {mg : Str → Option Value} {base : Heap} {C D E : Addr}
theorem ok_right {f fH : Addr} {fd fdH : FuncData} (F : Fun K "_law_right" "_law_right" sRight f fd) (GW : DefOk P w K mg base "_law_wide_house" 5 ["_law_pot"] (spWH K)) (GP : DefOk P w K mg base "_law_page" 1 ["_law_hall"] (spPage K))
    (HT : HTxt K mg E fH) (GH : FnOk P w K mg base CX0 7 fH fdH ["self", "text"] (spHouse D E K)) (bH : L2.Binds K fdH ["self", "text"] [])
    (GF : DefOk P w K mg base "first_stand" 1 ["house"] (spFirst D E K)) (GM : DefOk P w K mg base "moves" 3 ["house", "stand"] (spMoves D E K)) (GA : DefOk P w K mg base "after" 4 ["house", "stand", "move"] (spAfter D E K))
    (GB : DefOk P w K mg base "_law_begun" 1 ["_law_hall"] (spBegun K)) (GD : DefOk P w K mg base "_law_drawn_stand" 2 ["_law_pot", "_law_hall"] (spDrawn K)) (GL : DefOk P w K mg base "_law_moves" 3 ["_law_hall", "_law_stand"] (spMovesL K)) (GN : DefOk P w K mg base "_law_done" 3 ["_law_hall", "_law_stand", "_law_move"] (spDoneL K))
    (mre : mg "repr" = none) (mr : mg "range" = none) (ma : mg "all" = none) : FnG P w K mg base 9 f fd ["_law_pot"] spRight := by
  refine F.okG scRight (fun vs H Q E h => ?_) (fun cdv A outer s H vs Q hA hr h => ?_)
  · obtain ⟨p, c, rfl, _⟩ := h
    rfl
  obtain ⟨p, c, rfl, hp, hc, k⟩ := h
  have hA' : (A.deeper (envOfC "_law_right" (defScope sRight) s.heap.objs.size f cdv)).guards = some [] := hA
  have hu : (A.deeper (envOfC "_law_right" (defScope sRight) s.heap.objs.size f cdv)).units + 64 < cLine := hr.units
  have hr1 : Room 1 (A.deeper (envOfC "_law_right" (defScope sRight) s.heap.objs.size f cdv)) := hr.mono (by decide)
  have hr2 : Room 2 (A.deeper (envOfC "_law_right" (defScope sRight) s.heap.objs.size f cdv)) := hr.mono (by decide)
  have hr3 : Room 3 (A.deeper (envOfC "_law_right" (defScope sRight) s.heap.objs.size f cdv)) := hr.mono (by decide)
  have hr4 : Room 4 (A.deeper (envOfC "_law_right" (defScope sRight) s.heap.objs.size f cdv)) := hr.mono (by decide)
  have hr5 : Room 5 (A.deeper (envOfC "_law_right" (defScope sRight) s.heap.objs.size f cdv)) := hr.mono (by decide)
  have nd := scRight.nd
  refine ⟨_, (pss_cons (ps_set (i := 1) nd rfl (.inr rfl) (pe_D GW hr5 rfl (pa_cons (pv 0) pa_nil)))
    (pss_cons (ps_set (i := 2) nd rfl (.inr rfl) (pe_make HT.maker GH hr rfl HT.mgH bH .nil pass0 (pa_cons (pe_D GP hr1 rfl (pa_cons (pv 1) pa_nil)) pa_nil)))
    (pss_cons (ps_if (pt_cmpR op_ne (pe_callB (call_reprT K hA' hu) rfl mre PyProof.Rows.boot_repr (pa_cons (pe_D GF hr1 rfl (pa_cons (pv 2) pa_nil)) pa_nil)) (pe_callB (call_reprT K hA' hu) rfl mre PyProof.Rows.boot_repr (pa_cons (pe_D GB hr1 rfl (pa_cons (pv 1) pa_nil)) pa_nil)) (nomark _)) (pss_one (ps_ret pe_bl)) pss_nil)
    (pss_cons (ps_for PassesOwn.never rfl (pi_listK' K (pe_op op_cat (pe_lst (pa_cons (pe_D GB hr1 rfl (pa_cons (pv 1) pa_nil)) pa_nil)) (pe_lc (own := [("_law_turn", 5)]) (g := gName 5) (tt := tYes) rfl nd (pi_range1 rfl mr (pa_cons pe_int pa_nil)) (blkOk_by (N := nRight) (sc := defScope sRight) (by decide +kernel))
          (fun _ _ _ _ _ => pg_name (i := 5) nd rfl (Or.inl rfl)) (fun _ _ _ _ _ => pts_nil) (fun _ _ _ _ _ => pe_D GD hr2 rfl (pa_cons (pv 0) (pa_cons (pv 1) pa_nil)))))) (pg_name (i := 3) nd rfl (.inr rfl))
      (pss_cons (ps_set (i := 4) nd rfl (.inl rfl) (pe_D GL hr3 rfl (pa_cons (pv 1) (pa_cons (pv 3) pa_nil))))
      (pss_cons (ps_if (pt_cmpR op_ne (pe_callB (call_reprT K hA' hu) rfl mre PyProof.Rows.boot_repr (pa_cons (pe_D GM hr3 rfl (pa_cons (pv 2) (pa_cons (pv 3) pa_nil))) pa_nil)) (pe_callB (call_reprT K hA' hu) rfl mre PyProof.Rows.boot_repr (pa_cons (pv 4) pa_nil)) (nomark _)) (pss_one (ps_ret pe_bl)) pss_nil)
      (pss_one (ps_if (pt_not (pt_val (pe_callB (cr_all rfl) rfl ma PyProof.Rows.boot_all (pa_cons (pe_lc (own := [("_law_move", 6)]) (g := gName 6) (tt := tYes) rfl nd (pi_tupK K (pv 4)) (blkOk_by (N := nRight) (sc := defScope sRight) (by decide +kernel))
          (fun _ _ _ _ _ => pg_name (i := 6) nd rfl (Or.inl rfl)) (fun _ _ _ _ _ => pts_nil)
          (fun _ _ _ _ _ => pe_cmpR op_eq (pe_callB (call_reprT K hA' hu) rfl mre PyProof.Rows.boot_repr (pa_cons (pe_D GA hr4 rfl (pa_cons (pv 2) (pa_cons (pv 3) (pa_cons (pv 6) pa_nil)))) pa_nil)) (pe_callB (call_reprT K hA' hu) rfl mre PyProof.Rows.boot_repr (pa_cons (pe_D GN hr3 rfl (pa_cons (pv 1) (pa_cons (pv 3) (pa_cons (pv 6) pa_nil)))) pa_nil)) (nomark _))) pa_nil)))) (pss_one (ps_ret pe_bl)) pss_nil)))))
    (pss_one (ps_ret pe_bl)))))), ?_⟩
  refine seq_set (go_call ⟨_, rfl, p, c, rfl, hp, hc, fun hd h yss H1 b1 p1 ok kn dr fh => ?_⟩)
  refine seq_set (go_cons (go_call ⟨_, rfl, hd, h, yss, rfl, ok, dr, fh, fun H2 s2 => ?_⟩))
  intro x dx hx hdx ne
  refine ⟨x, dx, h, rfl, upd_same, ok, page_okD ok, (text_shortD ok).1, fun H3 b3 ha => ⟨rfl, ?_⟩⟩
  have s13 := s2.trans (made_same hx hdx b3)
  have p3 := p1.same s13
  have fh3 := fh.same s13
  have c3 := ok.cok.1
  have y4 := ok.y4
  have bsm := (stand_sm ok (begun_fits ok) (by decide : (0 : Int) ≤ 0) (by decide)).small (by decide) (by decide)
  show tSeq (tIfS _ _ _) _ _ [some (.ref p), some (.ref hd), some (.ref x), none, none, none, none] H3
  refine seq_if (go_test (go_op (go_cb (go_cons (go_call ⟨_, rfl, x, _, h, rfl, ha, c3, fun v1 H4 s4 t4 => ?_⟩)))))
  refine go_nil ⟨v1, _, rfl, t4, bsm, ?_⟩
  refine go_cb (go_cons (go_call ⟨_, rfl, hd, h, yss, rfl, fh3.same s4, c3, fun v2 H5 s5 t5 => ?_⟩))
  refine go_nil ⟨v2, _, rfl, t5, bsm, ?_⟩
  refine ⟨rfl, _, rfl, ?_⟩
  rw [decide_eq_true rfl]
  refine iteF ?_
  have s35 := s4.trans s5
  have p5 := p3.same s35
  have fh5 := fh3.same s35
  have ha5 := ha.same s35
  refine go_op (go_lst (go_cons (go_call ⟨_, rfl, hd, h, yss, rfl, fh5, c3, fun v0 H6 s6 t6 => ?_⟩)))
  refine go_nil ⟨sz (by decide : 1 ≤ 1000), fun l hl => ?_⟩
  have s7 := same_new hl (.lst [v0])
  have el : (upd H6 l (.lst [v0])) l = some (.lst [v0]) := upd_same
  generalize upd H6 l (.lst [v0]) = H7 at s7 el
  have s57 := s6.trans s7
  have p7 := p5.same s57
  refine lc_drawn rfl rfl p7 (by omega) (fh5.same s57) ok fun G vs H8 nG b8 p8 eG l6 all => ?_
  have el8 := b8 l _ (fun z => by
    obtain ⟨A0, B0, C0, ep, _⟩ := p7
    rw [← z, el] at ep
    cases ep) el
  refine ⟨l, G, [v0], vs, rfl, rfl, el8, eG, ?_, fun m hm => ?_⟩
  · rw [List.length_singleton, l6]
    decide
  have s9 := same_new hm (.lst ([v0] ++ vs))
  have em : (upd H8 m (.lst ([v0] ++ vs))) m = some (.lst ([v0] ++ vs)) := upd_same
  generalize upd H8 m (.lst ([v0] ++ vs)) = H9 at s9 em
  have fh9 := ((fh5.same s57).pot p7 b8).same s9
  have ha9 := ((ha5.same s57).pot p7 b8).same s9
  have st0 : StandV K H8 h v0 := ⟨_, _, (t6.same s7).pot p7 b8, begun_fits ok, Int.le_refl 0, by have := ok.y1; omega⟩
  have allst : ∀ v ∈ [v0] ++ vs, StandV K H8 h v := fun v hv => by
    rcases List.mem_append.mp hv with hv | hv
    · rw [List.mem_singleton.mp hv]
      exact st0
    · exact all v hv
  refine ⟨m, rfl, ⟨_, SqL.of em⟩, for_list (xs := [v0] ++ vs) (fun i σ H' => Same H9 H' ∧ ∃ (t3 t4 : Option V), σ = [some (.ref p), some (.ref hd), some (.ref x), t3, t4, none, none]) ⟨Same.refl _, none, none, rfl⟩ (fun i σ H' _ z => SqL.of (z.1 _ _ em)) ?_ ?_⟩
  · rintro i v σ H' hi ⟨sm, t3, t4', rfl⟩
    obtain ⟨ws, n, tv, fit, n0, n1⟩ := allst v (List.mem_of_getElem? hi)
    have tv := tv.same (s9.trans sm)
    have fh' := fh9.same sm
    have ha' := ha9.same sm
    show tSeq (tAsg _ _) _ _ [some (.ref p), some (.ref hd), some (.ref x), some v, t4', none, none] H'
    refine seq_set (go_call ⟨_, rfl, _, rfl, hd, h, yss, v, ws, n, rfl, fh', ok, dr, tv, fit, fun a rl H10 s10 ta pl wl => ?_⟩)
    refine seq_if (go_test (go_op (go_cb (go_cons (go_call ⟨_, rfl, _, rfl, x, _, h, v, ws, n, rfl, ha'.same s10, fun d hd => ⟨tests_in fit (ok.dok d hd).2.2.2.1, (ok.dok d hd).2.2.1⟩, ok.d4, doL_few ok, c3, tv.same s10, fit, n0, n1, fun b rs H11 s11 tb e0 e1 => ?_⟩)))))
    have er : rs = rl := moves_one ok dr n1 e0 e1 pl wl
    subst er
    have few : rs.length ≤ 48 := by
      rw [pl.length_eq]
      exact lawL_few ok dr
    have sub : ∀ r ∈ rs, r ∈ lawL h yss ws n := fun r hr => pl.mem_iff.mp hr
    have rsm : Small (.tuple (rs.map rowD ++ [MoveD.night.d])) := rows_small (fun r hr => lawL_do ok dr r (sub r hr)) few
    refine go_nil ⟨.ref b, _, rfl, tb, rsm, ?_⟩
    refine go_cb (go_cons ⟨_, rfl, go_nil ⟨.ref a, _, rfl, ta.same s11, rsm, ?_⟩⟩)
    refine ⟨rfl, _, rfl, ?_⟩
    rw [decide_eq_true rfl]
    refine iteF ?_
    have s' := s10.trans s11
    refine each_ok (K := K) (D := D) (E := E) (a := a) (σ := [some (.ref p), some (.ref hd), some (.ref x), some v, some (.ref a), none, none]) rfl rfl rfl rfl rfl (fh'.same s') (ha'.same s') ok dr (tv.same s') fit n0 n1 (ta.same s11) few sub fun H12 s12 => ?_
    exact ⟨sm.trans (s'.trans s12), _, _, rfl⟩
  · rintro σ H' ⟨sm, t3, t4', rfl⟩
    have sf := s9.trans sm
    refine k _ ((b1.trans (Bar.of (s13.trans (s35.trans s57)))).trans (b8.trans (Bar.of sf))) ?_
    exact (p8.same sf).mono (by omega)
end
end Hx
set_option maxRecDepth 100000
set_option maxHeartbeats 1000000
namespace Hx
open PySem PySem.Spec PyProof.Rows L2
abbrev nLaw : List Str := ["_law_script", "_law_k", "_law_pot", "_law_turn"]
theorem scLaw : FnScope nLaw ["_law_script"] (defScope sLaw) := ⟨rfl, rfl, rfl, by decide +kernel, rfl, by decide +kernel, by decide +kernel⟩
def spLaw (K : PySem.W.Frag) : Sp := fun vs H Q _ => ∃ (a : Addr) (ns : List Int), vs = [.ref a] ∧ SqL K H a (ns.map V.int) ∧ ∀ H', Q (.bl true) H'
theorem sql_same {K : PySem.W.Frag} {H H' : Hp} {a : Addr} {xs : List V} (s : Same H H') (h : SqL K H a xs) : SqL K H' a xs := by
  rcases h with (h | ⟨o, h⟩) | h
  · exact .inl (.inl (s _ _ h))
  · exact .inl (.inr ⟨o, s _ _ h⟩)
  · exact .inr h
theorem bar_new {p : Addr} {H H' : Hp} {o : HO} (h : H p = none) (b : Bar p (upd H p o) H') : Same H H' := fun c u e => by
  have n := ne_of_none e h
  exact b c u n (by rw [upd_ne n]; exact e)
theorem pot_some {H : Hp} {p : Addr} {c : Int} (h : Pot H p c) : ∃ o, H p = some o := by
  obtain ⟨A, B, C, e, _⟩ := h
  exact ⟨_, e⟩
def tTurn : TE := fun σ H Q => tCons (tVar 2) tNil σ H fun vs H1 => spRight vs H1 Q E0
/-- [right(pot) for turn in range(3)] -/
theorem lc_turns {σ : L2.St} {H : Hp} {p : Addr} {Q : VK} (e2 : σ[2]? = some (some (.ref p))) (hp : Pot H p 0)
    (k : ∀ D H', D ≠ p → Bar p H H' → H' D = some (.lst ((List.replicate 3 true).map V.bl)) → Q (.ref D) H') :
    tLc (iRng1 (tCons (tC (.int 3)) tNil)) (gName 3) tYes tTurn [3] σ H Q := by
  refine ⟨3, rfl, by decide, by decide, fun D hD => ?_⟩
  obtain ⟨o, ep⟩ := pot_some hp
  have nD : p ≠ D := ne_of_none ep hD
  refine lc_range (fun j H' => Bar p H H' ∧ Pot H' p (264 * (j : Nat)) ∧ H' D = some (.lst ((List.replicate j true).map V.bl))) ⟨Bar.new hD _, ?_, upd_same⟩ ?_ ?_
  · exact hp.new hD _
  · rintro j H' hj ⟨b, pt, eD⟩
    have hj4 : j < 3 := hj
    refine ⟨set2, yes ⟨_, get_other e2 (by decide), p, 264 * (j : Nat), rfl, pt, by omega, fun H3 b3 pt3 => ?_⟩⟩
    have eD3 := b3 D _ nD.symm eD
    refine ⟨_, eD3, ?_, ?_, ?_, ?_⟩
    · rw [List.length_map, List.length_replicate]
      exact small1000 (by omega)
    · intro c u n e
      rw [upd_ne (ne_of_none e hD)]
      exact (b.trans b3) c u n e
    · obtain ⟨A, B, C, e, r⟩ := pt3
      refine ⟨A, B, C, by rw [upd_ne nD]; exact e, ?_⟩
      obtain ⟨r1, r2, r3, r4, r5⟩ := r
      exact ⟨r1, r2, r3, r4, by omega⟩
    · rw [upd_same, List.replicate_succ', List.map_append]
      rfl
  · rintro H' ⟨b, pt, eD⟩
    exact k D H' nD.symm b eD
theorem turn_ok {K : PySem.W.Frag} {A : TS} {D : Ends} {σ : L2.St} {H : Hp} {p : Addr} (e2 : σ[2]? = some (some (.ref p))) (hp : Pot H p 0) (k : ∀ H', Bar p H H' → D.nx σ H') :
    tIfS (tNot (tB (tCB (rAll K) (tCons (tLc (iRng1 (tCons (tC (.int 3)) tNil)) (gName 3) tYes tTurn [3]) tNil)))) A tNext D σ H := by
  show tLc (iRng1 (tCons (tC (.int 3)) tNil)) (gName 3) tYes tTurn [3] σ H fun x H1 => rAll K [x] H1 fun y H2 => ∃ b, y = .bl b ∧ if (!b) = true then A D σ H2 else D.nx σ H2
  refine lc_turns e2 hp fun l H1 n b e => ⟨l, _, rfl, SqL.of e, _, rfl, ?_⟩
  exact iteF (k H1 b)
section
variable {P : Program} {w : World} {K : PySem.W.Frag} {mg : Str → Option Value} {base : Heap}
theorem ok_law {f fr : Addr} {fd dr : FuncData} (F : Fun K "law" "law" sLaw f fd)
    (GR : FnG P w K mg base 9 fr dr ["_law_pot"] spRight) (bR : Binds K dr ["_law_pot"] []) (kR : PySem.W.keepIn K (.ref fr) = true) (mR : mg "_law_right" = some (.ref fr))
    (GP : DefOk P w K mg base "_law_pot_of" 1 ["_law_script", "_law_k"] (spPot K))
    (mr : mg "range" = none) (mx : mg "max" = none) (mn : mg "min" = none) (ml : mg "len" = none) (ma : mg "all" = none) : FnG P w K mg base 10 f fd ["_law_script"] (spLaw K) := by
  refine F.okG scLaw (fun vs H Q E h => ?_) (fun cdv A outer s H vs Q hA hr h => ?_)
  · obtain ⟨a, ns, rfl, _⟩ := h
    rfl
  obtain ⟨a, ns, rfl, hS, q⟩ := h
  have hA' : (A.deeper (envOfC "law" (defScope sLaw) s.heap.objs.size f cdv)).guards = some [] := hA
  have hr1 : Room 1 (A.deeper (envOfC "law" (defScope sLaw) s.heap.objs.size f cdv)) := hr.mono (by decide)
  have nd := scLaw.nd
  refine ⟨_, pss_cons (ps_for PassesOwn.never rfl (pi_range1 rfl mr (pa_cons (pe_callB (call_max2 rfl) rfl mx PyProof.Rows.Boot.«max» (pa_cons pe_int (pa_cons (pe_callB (call_min2 rfl) rfl mn PyProof.Rows.Boot.«min» (pa_cons pe_int (pa_cons (pe_callB call_len_seq rfl ml PySem.boot_len (pa_cons (pv 0) pa_nil)) pa_nil))) pa_nil))) pa_nil))
      (pg_name (i := 1) nd rfl (.inl rfl))
      (pss_cons (ps_set (i := 2) nd rfl (.inr rfl) (pe_D GP hr1 rfl (pa_cons (pv 0) (pa_cons (pv 1) pa_nil))))
      (pss_one (ps_if (pt_not (pt_val (pe_callB (cr_all rfl) rfl ma PyProof.Rows.boot_all (pa_cons (pe_lc (own := [("_law_turn", 3)]) (g := gName 3) (tt := tYes) rfl nd (pi_range1 rfl mr (pa_cons pe_int pa_nil)) (blkOk_by (N := nLaw) (sc := defScope sLaw) (by decide +kernel)) (fun _ _ _ _ _ => pg_name (i := 3) nd rfl (Or.inl rfl)) (fun _ _ _ _ _ => pts_nil)
          (fun _ _ _ _ _ => pe_callG GR hA' hr rfl mR kR bR (pa_cons (pv 2) pa_nil))) pa_nil)))) (pss_one (ps_ret pe_bl)) pss_nil))))
    (pss_one (ps_ret pe_bl)), ?_⟩
  refine ⟨_, rfl, a, _, rfl, .inl hS, _, _, rfl, _, _, rfl, _, rfl, ?_⟩
  rw [List.length_map]
  have small : ∃ m : Nat, m ≤ 3 ∧ (if (if ((ns.length : Nat) : Int) < 3 then ((ns.length : Nat) : Int) else 3) > 1 then (if ((ns.length : Nat) : Int) < 3 then ((ns.length : Nat) : Int) else 3) else 1) = (m : Int) := by
    by_cases h1 : ((ns.length : Nat) : Int) < 3
    · rw [if_pos h1]
      by_cases h2 : ((ns.length : Nat) : Int) > 1
      · exact ⟨ns.length, by omega, if_pos h2⟩
      · exact ⟨1, by decide, if_neg h2⟩
    · rw [if_neg h1]
      exact ⟨3, by decide, if_pos (by decide)⟩
  obtain ⟨m, m4, em⟩ := small
  rw [em]
  refine ⟨by omega, by omega, for_range (fun i σ H' => ∃ (t1 t2 : Option V), σ = [some (.ref a), t1, t2, none] ∧ SqL K H' a (ns.map V.int)) ⟨none, none, rfl, hS⟩ ?_ ?_⟩
  · rintro i σ H1 hi ⟨t1, t2, rfl, hS1⟩
    have hi4 : i < 3 := by
      have z : ((m : Int)).toNat = m := Int.toNat_natCast m
      omega
    refine ⟨_, rfl, _, rfl, a, ns, _, rfl, hS1, by omega, by omega, fun p A0 B0 hp hA0 hB0 hB1 => ?_⟩
    generalize eH2 : upd H1 p (.lst [.int A0, .int B0, .int 0]) = H2
    have p2 : H2 p = some (.lst [.int A0, .int B0, .int 0]) := by rw [← eH2]; exact upd_same
    refine turn_ok (K := K) (A := tRet (tC (.bl false))) (p := p) (σ := [some (.ref a), some (.int (0 + (i : Nat))), some (.ref p), none]) rfl ⟨A0, B0, 0, p2, hA0, hB0, hB1, by decide, by decide⟩ fun H3 b => ?_
    refine ⟨_, _, rfl, sql_same (bar_new hp (o := .lst [.int A0, .int B0, .int 0]) ?_) hS1⟩
    rw [eH2]
    exact b
  · rintro σ H' ⟨t1, t2, rfl, hS'⟩
    exact q H'
end
end Hx
set_option maxRecDepth 100000
set_option maxHeartbeats 1000000
/-! What the law leans on, by the head's facts. -/
namespace Hx
open PySem PySem.Spec PyProof.Rows L2
open PySem.W (Frag nsIn keepIn)
def fa : List He.Fa := [
  .free "dict",
  .free "len",
  .free "all",
  .free "int",
  .free "set",
  .free "tuple",
  .free "isinstance",
  .free "bool",
  .free "zip",
  .free "list",
  .free "sorted",
  .free "range",
  .free "enumerate",
  .free "str",
  .free "repr",
  .free "abs",
  .free "max",
  .free "min",
  .glo "Lines",
  .cls "Lines",
  .mkr "Lines",
  .noat "Lines" "rows",
  .noat "Lines" "number",
  .glo "Deed",
  .cls "Deed",
  .mkr "Deed",
  .noat "Deed" "name",
  .noat "Deed" "by",
  .noat "Deed" "tests",
  .noat "Deed" "pick",
  .noat "Deed" "changes",
  .noat "Deed" "rows",
  .glo "House",
  .cls "House",
  .mkr "House",
  .noat "House" "text",
  .noat "House" "people",
  .noat "House" "cells",
  .noat "House" "kinds",
  .noat "House" "deeds",
  .noat "House" "scripts",
  .noat "House" "doings",
  .noat "House" "day",
  .meth "Lines" "__init__",
  .meth "Lines" "need",
  .meth "Lines" "words_ahead",
  .meth "Lines" "is_next",
  .meth "Lines" "is_more",
  .meth "Lines" "take",
  .meth "Lines" "take_exactly",
  .meth "Lines" "take_end",
  .meth "Lines" "new_name",
  .meth "Lines" "place",
  .meth "Lines" "number_from",
  .meth "Deed" "__init__",
  .meth "House" "__init__",
  .glo "is_name",
  .keep "is_name",
  .glo "number_of",
  .keep "number_of",
  .glo "worked_out",
  .keep "worked_out",
  .glo "source_of_worth",
  .keep "source_of_worth",
  .glo "source_of_person",
  .keep "source_of_person",
  .glo "take_by",
  .keep "take_by",
  .glo "take_test",
  .keep "take_test",
  .glo "take_pick",
  .keep "take_pick",
  .glo "take_change",
  .keep "take_change",
  .glo "take_row",
  .keep "take_row",
  .glo "take_deed",
  .keep "take_deed",
  .glo "is_from",
  .keep "is_from",
  .glo "is_tuple_of",
  .keep "is_tuple_of",
  .glo "is_stand",
  .keep "is_stand",
  .glo "is_deed",
  .keep "is_deed",
  .glo "is_move",
  .keep "is_move",
  .glo "first_stand",
  .keep "first_stand",
  .glo "holds",
  .keep "holds",
  .glo "is_possible",
  .keep "is_possible",
  .glo "possible_moves",
  .keep "possible_moves",
  .glo "moves",
  .keep "moves",
  .glo "changed",
  .keep "changed",
  .glo "stand_behind",
  .keep "stand_behind",
  .glo "after",
  .keep "after",
  .glo "take_people",
  .keep "take_people",
  .glo "take_cell",
  .keep "take_cell",
  .glo "take_cells",
  .keep "take_cells",
  .glo "take_field",
  .keep "take_field",
  .glo "take_kind",
  .keep "take_kind",
  .glo "take_kinds",
  .keep "take_kinds",
  .glo "take_deeds",
  .keep "take_deeds",
  .glo "_law_pot_of",
  .keep "_law_pot_of",
  .glo "_law_take",
  .keep "_law_take",
  .glo "_law_of",
  .keep "_law_of",
  .glo "_law_unlike",
  .keep "_law_unlike",
  .glo "_law_word_for",
  .keep "_law_word_for",
  .glo "_law_wide_deed",
  .keep "_law_wide_deed",
  .glo "_law_wide_house",
  .keep "_law_wide_house",
  .glo "_law_page",
  .keep "_law_page",
  .glo "_law_begun",
  .keep "_law_begun",
  .glo "_law_drawn_stand",
  .keep "_law_drawn_stand",
  .glo "_law_cell_at",
  .keep "_law_cell_at",
  .glo "_law_can",
  .keep "_law_can",
  .glo "_law_moves",
  .keep "_law_moves",
  .glo "_law_worked_out",
  .keep "_law_worked_out",
  .glo "_law_done",
  .keep "_law_done",
  .glo "_law_right",
  .keep "_law_right",
  .glo "law",
  .keep "law"]
def fn : List He.FnD := [
  ⟨("Lines", some "__init__"), "__init__", "Lines.__init__", defArgs sLinesInit, defBody sLinesInit, defScope sLinesInit⟩,
  ⟨("Lines", some "need"), "need", "Lines.need", defArgs sNeed, defBody sNeed, defScope sNeed⟩,
  ⟨("Lines", some "words_ahead"), "words_ahead", "Lines.words_ahead", defArgs sWordsAhead, defBody sWordsAhead, defScope sWordsAhead⟩,
  ⟨("Lines", some "is_next"), "is_next", "Lines.is_next", defArgs sIsNext, defBody sIsNext, defScope sIsNext⟩,
  ⟨("Lines", some "is_more"), "is_more", "Lines.is_more", defArgs sIsMore, defBody sIsMore, defScope sIsMore⟩,
  ⟨("Lines", some "take"), "take", "Lines.take", defArgs sTake, defBody sTake, defScope sTake⟩,
  ⟨("Lines", some "take_exactly"), "take_exactly", "Lines.take_exactly", defArgs sExactly, defBody sExactly, defScope sExactly⟩,
  ⟨("Lines", some "take_end"), "take_end", "Lines.take_end", defArgs sTakeEnd, defBody sTakeEnd, defScope sTakeEnd⟩,
  ⟨("Lines", some "new_name"), "new_name", "Lines.new_name", defArgs sNewName, defBody sNewName, defScope sNewName⟩,
  ⟨("Lines", some "place"), "place", "Lines.place", defArgs sPlace, defBody sPlace, defScope sPlace⟩,
  ⟨("Lines", some "number_from"), "number_from", "Lines.number_from", defArgs sNumberFrom, defBody sNumberFrom, defScope sNumberFrom⟩,
  ⟨("Deed", some "__init__"), "__init__", "Deed.__init__", defArgs sDeedInit, defBody sDeedInit, defScope sDeedInit⟩,
  ⟨("House", some "__init__"), "__init__", "House.__init__", defArgs sHouse, defBody sHouse, defScope sHouse⟩,
  ⟨("is_name", none), "is_name", "is_name", defArgs sIsName, defBody sIsName, defScope sIsName⟩,
  ⟨("number_of", none), "number_of", "number_of", defArgs sNumberOf, defBody sNumberOf, defScope sNumberOf⟩,
  ⟨("worked_out", none), "worked_out", "worked_out", defArgs sWorked, defBody sWorked, defScope sWorked⟩,
  ⟨("source_of_worth", none), "source_of_worth", "source_of_worth", defArgs sSrcWorth, defBody sSrcWorth, defScope sSrcWorth⟩,
  ⟨("source_of_person", none), "source_of_person", "source_of_person", defArgs sSrcPerson, defBody sSrcPerson, defScope sSrcPerson⟩,
  ⟨("take_by", none), "take_by", "take_by", defArgs sTakeBy, defBody sTakeBy, defScope sTakeBy⟩,
  ⟨("take_test", none), "take_test", "take_test", defArgs sTakeTest, defBody sTakeTest, defScope sTakeTest⟩,
  ⟨("take_pick", none), "take_pick", "take_pick", defArgs sTakePick, defBody sTakePick, defScope sTakePick⟩,
  ⟨("take_change", none), "take_change", "take_change", defArgs sTakeChange, defBody sTakeChange, defScope sTakeChange⟩,
  ⟨("take_row", none), "take_row", "take_row", defArgs sTakeRow, defBody sTakeRow, defScope sTakeRow⟩,
  ⟨("take_deed", none), "take_deed", "take_deed", defArgs sTakeDeed, defBody sTakeDeed, defScope sTakeDeed⟩,
  ⟨("is_from", none), "is_from", "is_from", defArgs sIsFrom, defBody sIsFrom, defScope sIsFrom⟩,
  ⟨("is_tuple_of", none), "is_tuple_of", "is_tuple_of", defArgs sIsTupleOf, defBody sIsTupleOf, defScope sIsTupleOf⟩,
  ⟨("is_stand", none), "is_stand", "is_stand", defArgs sIsStand, defBody sIsStand, defScope sIsStand⟩,
  ⟨("is_deed", none), "is_deed", "is_deed", defArgs sIsDeed, defBody sIsDeed, defScope sIsDeed⟩,
  ⟨("is_move", none), "is_move", "is_move", defArgs sIsMove, defBody sIsMove, defScope sIsMove⟩,
  ⟨("first_stand", none), "first_stand", "first_stand", defArgs sFirst, defBody sFirst, defScope sFirst⟩,
  ⟨("holds", none), "holds", "holds", defArgs sHolds, defBody sHolds, defScope sHolds⟩,
  ⟨("is_possible", none), "is_possible", "is_possible", defArgs sPossible, defBody sPossible, defScope sPossible⟩,
  ⟨("possible_moves", none), "possible_moves", "possible_moves", defArgs sPMoves, defBody sPMoves, defScope sPMoves⟩,
  ⟨("moves", none), "moves", "moves", defArgs sMoves, defBody sMoves, defScope sMoves⟩,
  ⟨("changed", none), "changed", "changed", defArgs sChanged, defBody sChanged, defScope sChanged⟩,
  ⟨("stand_behind", none), "stand_behind", "stand_behind", defArgs sBehind, defBody sBehind, defScope sBehind⟩,
  ⟨("after", none), "after", "after", defArgs sAfter, defBody sAfter, defScope sAfter⟩,
  ⟨("take_people", none), "take_people", "take_people", defArgs sTakePeople, defBody sTakePeople, defScope sTakePeople⟩,
  ⟨("take_cell", none), "take_cell", "take_cell", defArgs sTakeCell, defBody sTakeCell, defScope sTakeCell⟩,
  ⟨("take_cells", none), "take_cells", "take_cells", defArgs sTakeCells, defBody sTakeCells, defScope sTakeCells⟩,
  ⟨("take_field", none), "take_field", "take_field", defArgs sTakeField, defBody sTakeField, defScope sTakeField⟩,
  ⟨("take_kind", none), "take_kind", "take_kind", defArgs sTakeKind, defBody sTakeKind, defScope sTakeKind⟩,
  ⟨("take_kinds", none), "take_kinds", "take_kinds", defArgs sTakeKinds, defBody sTakeKinds, defScope sTakeKinds⟩,
  ⟨("take_deeds", none), "take_deeds", "take_deeds", defArgs sTakeDeeds, defBody sTakeDeeds, defScope sTakeDeeds⟩,
  ⟨("_law_pot_of", none), "_law_pot_of", "_law_pot_of", defArgs sPot, defBody sPot, defScope sPot⟩,
  ⟨("_law_take", none), "_law_take", "_law_take", defArgs sLTake, defBody sLTake, defScope sLTake⟩,
  ⟨("_law_of", none), "_law_of", "_law_of", defArgs sOf, defBody sOf, defScope sOf⟩,
  ⟨("_law_unlike", none), "_law_unlike", "_law_unlike", defArgs sUnlike, defBody sUnlike, defScope sUnlike⟩,
  ⟨("_law_word_for", none), "_law_word_for", "_law_word_for", defArgs sWordFor, defBody sWordFor, defScope sWordFor⟩,
  ⟨("_law_wide_deed", none), "_law_wide_deed", "_law_wide_deed", defArgs sWideDeed, defBody sWideDeed, defScope sWideDeed⟩,
  ⟨("_law_wide_house", none), "_law_wide_house", "_law_wide_house", defArgs sWideHouse, defBody sWideHouse, defScope sWideHouse⟩,
  ⟨("_law_page", none), "_law_page", "_law_page", defArgs sPage, defBody sPage, defScope sPage⟩,
  ⟨("_law_begun", none), "_law_begun", "_law_begun", defArgs sBegun, defBody sBegun, defScope sBegun⟩,
  ⟨("_law_drawn_stand", none), "_law_drawn_stand", "_law_drawn_stand", defArgs sDrawn, defBody sDrawn, defScope sDrawn⟩,
  ⟨("_law_cell_at", none), "_law_cell_at", "_law_cell_at", defArgs sCellAt, defBody sCellAt, defScope sCellAt⟩,
  ⟨("_law_can", none), "_law_can", "_law_can", defArgs sCan, defBody sCan, defScope sCan⟩,
  ⟨("_law_moves", none), "_law_moves", "_law_moves", defArgs sMovesL, defBody sMovesL, defScope sMovesL⟩,
  ⟨("_law_worked_out", none), "_law_worked_out", "_law_worked_out", defArgs sWorkL, defBody sWorkL, defScope sWorkL⟩,
  ⟨("_law_done", none), "_law_done", "_law_done", defArgs sDone, defBody sDone, defScope sDone⟩,
  ⟨("_law_right", none), "_law_right", "_law_right", defArgs sRight, defBody sRight, defScope sRight⟩,
  ⟨("law", none), "law", "law", defArgs sLaw, defBody sLaw, defScope sLaw⟩]
/-- the module's tuple of one night -/
def nightB (K : Frag) : Bool := match nsIn K mainGlobals "NIGHT" with
  | some (some (.ref a)) => (match K.lookup a with
    | some ⟨.type c, _, .seq its _, _⟩ => decide (c = "tuple") && (decide (its.size ≤ 1) && (match its.toList with
      | [.str x _] => decide (x = "night")
      | _ => false))
    | _ => false)
  | _ => false
theorem night_ok {K : Frag} {h : Heap} {mg : Str → Option Value} (X : K.In h) (G : h.Ns mainGlobals mg) (b : nightB K = true) : ∃ aN, mg "NIGHT" = some (.ref aN) ∧ ∀ H, SqT K H aN [.str "night"] := by
  unfold nightB at b
  split at b
  · rename_i a e
    split at b
    · rename_i c od its n sl eo
      simp only [Bool.and_eq_true, decide_eq_true_eq] at b
      obtain ⟨rfl, b2, b3⟩ := b
      split at b3
      · rename_i x t ei
        have ex : x = "night" := of_decide_eq_true b3
        subst ex
        refine ⟨a, PySem.W.mg_of X G e, fun H => .inr ⟨_, its, n, eo, rfl, rfl, Nat.le_trans b2 (sz (by decide : 1 ≤ 1000)), ?_⟩⟩
        rw [ei]
        exact .cons ⟨t, rfl⟩ .nil
      · cases b3
    · cases b
  · cases b
abbrev AlX : Type := Bool × He.Al
def obsX (K : Frag) : AlX := (nightB K, He.obsE fa fn K)
def valX : AlX := (true, He.valE fn)
section
variable {P : Program} {w : World} {K : Frag} {mg : Str → Option Value} {h base : Heap}
theorem def_ok {x : Str} {f : Addr} {k : Nat} {ps : List Str} {sp : Sp} {fd : FuncData} {st : Stmt} (g : mg x = some (.ref f)) (F : Fun K x x st f fd) (ok : FnOk P w K mg base CX0 k f fd ps sp)
    (b : ∀ (kV doc pm : Value) (an : Option Addr) (cdv ct : Value) (us : List Value), us.length = ps.length → bindArgs (PySem.W.fnOf x x (defArgs st) (defBody st) (defScope st) Value.none kV doc pm an cdv ct) { pos := us } = pure (ps.zip us)) : DefOk P w K mg base x k ps sp :=
  ⟨f, fd, g, F.kp, ok, F.binds b⟩

/-- what the head tells, as the proofs want it -/
structure Told (K : Frag) (mg : Str → Option Value) (C D E : Addr) : Prop where
  f_dict : mg "dict" = none
  f_len : mg "len" = none
  f_all : mg "all" = none
  f_int : mg "int" = none
  f_set : mg "set" = none
  f_tuple : mg "tuple" = none
  f_isinstance : mg "isinstance" = none
  f_bool : mg "bool" = none
  f_zip : mg "zip" = none
  f_list : mg "list" = none
  f_sorted : mg "sorted" = none
  f_range : mg "range" = none
  f_enumerate : mg "enumerate" = none
  f_str : mg "str" = none
  f_repr : mg "repr" = none
  f_abs : mg "abs" = none
  f_max : mg "max" = none
  f_min : mg "min" = none
  g_Lines : mg "Lines" = some (.ref C)
  c_Lines : L2.Cls K C
  n_Lines_rows : NoAttr K C "rows"
  n_Lines_number : NoAttr K C "number"
  k_Lines : ∃ f fd, Mk K C f ∧ Fun K "__init__" "Lines.__init__" sLinesInit f fd
  g_Deed : mg "Deed" = some (.ref D)
  c_Deed : L2.Cls K D
  n_Deed_name : NoAttr K D "name"
  n_Deed_by : NoAttr K D "by"
  n_Deed_tests : NoAttr K D "tests"
  n_Deed_pick : NoAttr K D "pick"
  n_Deed_changes : NoAttr K D "changes"
  n_Deed_rows : NoAttr K D "rows"
  k_Deed : ∃ f fd, Mk K D f ∧ Fun K "__init__" "Deed.__init__" sDeedInit f fd
  g_House : mg "House" = some (.ref E)
  c_House : L2.Cls K E
  n_House_text : NoAttr K E "text"
  n_House_people : NoAttr K E "people"
  n_House_cells : NoAttr K E "cells"
  n_House_kinds : NoAttr K E "kinds"
  n_House_deeds : NoAttr K E "deeds"
  n_House_scripts : NoAttr K E "scripts"
  n_House_doings : NoAttr K E "doings"
  n_House_day : NoAttr K E "day"
  k_House : ∃ f fd, Mk K E f ∧ Fun K "__init__" "House.__init__" sHouse f fd
  m_need : ∃ f fd, Meth K C "need" f ∧ Fun K "need" "Lines.need" sNeed f fd
  m_words_ahead : ∃ f fd, Meth K C "words_ahead" f ∧ Fun K "words_ahead" "Lines.words_ahead" sWordsAhead f fd
  m_is_next : ∃ f fd, Meth K C "is_next" f ∧ Fun K "is_next" "Lines.is_next" sIsNext f fd
  m_is_more : ∃ f fd, Meth K C "is_more" f ∧ Fun K "is_more" "Lines.is_more" sIsMore f fd
  m_take : ∃ f fd, Meth K C "take" f ∧ Fun K "take" "Lines.take" sTake f fd
  m_take_exactly : ∃ f fd, Meth K C "take_exactly" f ∧ Fun K "take_exactly" "Lines.take_exactly" sExactly f fd
  m_take_end : ∃ f fd, Meth K C "take_end" f ∧ Fun K "take_end" "Lines.take_end" sTakeEnd f fd
  m_new_name : ∃ f fd, Meth K C "new_name" f ∧ Fun K "new_name" "Lines.new_name" sNewName f fd
  m_place : ∃ f fd, Meth K C "place" f ∧ Fun K "place" "Lines.place" sPlace f fd
  m_number_from : ∃ f fd, Meth K C "number_from" f ∧ Fun K "number_from" "Lines.number_from" sNumberFrom f fd
  d_is_name : ∃ f fd, mg "is_name" = some (.ref f) ∧ Fun K "is_name" "is_name" sIsName f fd
  d_number_of : ∃ f fd, mg "number_of" = some (.ref f) ∧ Fun K "number_of" "number_of" sNumberOf f fd
  d_worked_out : ∃ f fd, mg "worked_out" = some (.ref f) ∧ Fun K "worked_out" "worked_out" sWorked f fd
  d_source_of_worth : ∃ f fd, mg "source_of_worth" = some (.ref f) ∧ Fun K "source_of_worth" "source_of_worth" sSrcWorth f fd
  d_source_of_person : ∃ f fd, mg "source_of_person" = some (.ref f) ∧ Fun K "source_of_person" "source_of_person" sSrcPerson f fd
  d_take_by : ∃ f fd, mg "take_by" = some (.ref f) ∧ Fun K "take_by" "take_by" sTakeBy f fd
  d_take_test : ∃ f fd, mg "take_test" = some (.ref f) ∧ Fun K "take_test" "take_test" sTakeTest f fd
  d_take_pick : ∃ f fd, mg "take_pick" = some (.ref f) ∧ Fun K "take_pick" "take_pick" sTakePick f fd
  d_take_change : ∃ f fd, mg "take_change" = some (.ref f) ∧ Fun K "take_change" "take_change" sTakeChange f fd
  d_take_row : ∃ f fd, mg "take_row" = some (.ref f) ∧ Fun K "take_row" "take_row" sTakeRow f fd
  d_take_deed : ∃ f fd, mg "take_deed" = some (.ref f) ∧ Fun K "take_deed" "take_deed" sTakeDeed f fd
  d_is_from : ∃ f fd, mg "is_from" = some (.ref f) ∧ Fun K "is_from" "is_from" sIsFrom f fd
  d_is_tuple_of : ∃ f fd, mg "is_tuple_of" = some (.ref f) ∧ Fun K "is_tuple_of" "is_tuple_of" sIsTupleOf f fd
  d_is_stand : ∃ f fd, mg "is_stand" = some (.ref f) ∧ Fun K "is_stand" "is_stand" sIsStand f fd
  d_is_deed : ∃ f fd, mg "is_deed" = some (.ref f) ∧ Fun K "is_deed" "is_deed" sIsDeed f fd
  d_is_move : ∃ f fd, mg "is_move" = some (.ref f) ∧ Fun K "is_move" "is_move" sIsMove f fd
  d_first_stand : ∃ f fd, mg "first_stand" = some (.ref f) ∧ Fun K "first_stand" "first_stand" sFirst f fd
  d_holds : ∃ f fd, mg "holds" = some (.ref f) ∧ Fun K "holds" "holds" sHolds f fd
  d_is_possible : ∃ f fd, mg "is_possible" = some (.ref f) ∧ Fun K "is_possible" "is_possible" sPossible f fd
  d_possible_moves : ∃ f fd, mg "possible_moves" = some (.ref f) ∧ Fun K "possible_moves" "possible_moves" sPMoves f fd
  d_moves : ∃ f fd, mg "moves" = some (.ref f) ∧ Fun K "moves" "moves" sMoves f fd
  d_changed : ∃ f fd, mg "changed" = some (.ref f) ∧ Fun K "changed" "changed" sChanged f fd
  d_stand_behind : ∃ f fd, mg "stand_behind" = some (.ref f) ∧ Fun K "stand_behind" "stand_behind" sBehind f fd
  d_after : ∃ f fd, mg "after" = some (.ref f) ∧ Fun K "after" "after" sAfter f fd
  d_take_people : ∃ f fd, mg "take_people" = some (.ref f) ∧ Fun K "take_people" "take_people" sTakePeople f fd
  d_take_cell : ∃ f fd, mg "take_cell" = some (.ref f) ∧ Fun K "take_cell" "take_cell" sTakeCell f fd
  d_take_cells : ∃ f fd, mg "take_cells" = some (.ref f) ∧ Fun K "take_cells" "take_cells" sTakeCells f fd
  d_take_field : ∃ f fd, mg "take_field" = some (.ref f) ∧ Fun K "take_field" "take_field" sTakeField f fd
  d_take_kind : ∃ f fd, mg "take_kind" = some (.ref f) ∧ Fun K "take_kind" "take_kind" sTakeKind f fd
  d_take_kinds : ∃ f fd, mg "take_kinds" = some (.ref f) ∧ Fun K "take_kinds" "take_kinds" sTakeKinds f fd
  d_take_deeds : ∃ f fd, mg "take_deeds" = some (.ref f) ∧ Fun K "take_deeds" "take_deeds" sTakeDeeds f fd
  d__law_pot_of : ∃ f fd, mg "_law_pot_of" = some (.ref f) ∧ Fun K "_law_pot_of" "_law_pot_of" sPot f fd
  d__law_take : ∃ f fd, mg "_law_take" = some (.ref f) ∧ Fun K "_law_take" "_law_take" sLTake f fd
  d__law_of : ∃ f fd, mg "_law_of" = some (.ref f) ∧ Fun K "_law_of" "_law_of" sOf f fd
  d__law_unlike : ∃ f fd, mg "_law_unlike" = some (.ref f) ∧ Fun K "_law_unlike" "_law_unlike" sUnlike f fd
  d__law_word_for : ∃ f fd, mg "_law_word_for" = some (.ref f) ∧ Fun K "_law_word_for" "_law_word_for" sWordFor f fd
  d__law_wide_deed : ∃ f fd, mg "_law_wide_deed" = some (.ref f) ∧ Fun K "_law_wide_deed" "_law_wide_deed" sWideDeed f fd
  d__law_wide_house : ∃ f fd, mg "_law_wide_house" = some (.ref f) ∧ Fun K "_law_wide_house" "_law_wide_house" sWideHouse f fd
  d__law_page : ∃ f fd, mg "_law_page" = some (.ref f) ∧ Fun K "_law_page" "_law_page" sPage f fd
  d__law_begun : ∃ f fd, mg "_law_begun" = some (.ref f) ∧ Fun K "_law_begun" "_law_begun" sBegun f fd
  d__law_drawn_stand : ∃ f fd, mg "_law_drawn_stand" = some (.ref f) ∧ Fun K "_law_drawn_stand" "_law_drawn_stand" sDrawn f fd
  d__law_cell_at : ∃ f fd, mg "_law_cell_at" = some (.ref f) ∧ Fun K "_law_cell_at" "_law_cell_at" sCellAt f fd
  d__law_can : ∃ f fd, mg "_law_can" = some (.ref f) ∧ Fun K "_law_can" "_law_can" sCan f fd
  d__law_moves : ∃ f fd, mg "_law_moves" = some (.ref f) ∧ Fun K "_law_moves" "_law_moves" sMovesL f fd
  d__law_worked_out : ∃ f fd, mg "_law_worked_out" = some (.ref f) ∧ Fun K "_law_worked_out" "_law_worked_out" sWorkL f fd
  d__law_done : ∃ f fd, mg "_law_done" = some (.ref f) ∧ Fun K "_law_done" "_law_done" sDone f fd
  d__law_right : ∃ f fd, mg "_law_right" = some (.ref f) ∧ Fun K "_law_right" "_law_right" sRight f fd
  d_law : ∃ f fd, mg "law" = some (.ref f) ∧ Fun K "law" "law" sLaw f fd
theorem told (X : K.In h) (G : h.Ns mainGlobals mg) (c : He.SaysE fa fn K) : Told K mg (He.ga K "Lines") (He.ga K "Deed") (He.ga K "House") := by
  refine ⟨He.free_ok X G (c.fact 0 (f := .free "dict") rfl), He.free_ok X G (c.fact 1 (f := .free "len") rfl), He.free_ok X G (c.fact 2 (f := .free "all") rfl), He.free_ok X G (c.fact 3 (f := .free "int") rfl), He.free_ok X G (c.fact 4 (f := .free "set") rfl), He.free_ok X G (c.fact 5 (f := .free "tuple") rfl), He.free_ok X G (c.fact 6 (f := .free "isinstance") rfl), He.free_ok X G (c.fact 7 (f := .free "bool") rfl), He.free_ok X G (c.fact 8 (f := .free "zip") rfl), He.free_ok X G (c.fact 9 (f := .free "list") rfl), He.free_ok X G (c.fact 10 (f := .free "sorted") rfl), He.free_ok X G (c.fact 11 (f := .free "range") rfl), He.free_ok X G (c.fact 12 (f := .free "enumerate") rfl), He.free_ok X G (c.fact 13 (f := .free "str") rfl), He.free_ok X G (c.fact 14 (f := .free "repr") rfl), He.free_ok X G (c.fact 15 (f := .free "abs") rfl), He.free_ok X G (c.fact 16 (f := .free "max") rfl), He.free_ok X G (c.fact 17 (f := .free "min") rfl), He.glo_ok X G (c.fact 18 (f := .glo "Lines") rfl), He.cls_ok (c.fact 19 (f := .cls "Lines") rfl), He.noat_ok (c.fact 21 (f := .noat "Lines" "rows") rfl), He.noat_ok (c.fact 22 (f := .noat "Lines" "number") rfl), ?_, He.glo_ok X G (c.fact 23 (f := .glo "Deed") rfl), He.cls_ok (c.fact 24 (f := .cls "Deed") rfl), He.noat_ok (c.fact 26 (f := .noat "Deed" "name") rfl), He.noat_ok (c.fact 27 (f := .noat "Deed" "by") rfl), He.noat_ok (c.fact 28 (f := .noat "Deed" "tests") rfl), He.noat_ok (c.fact 29 (f := .noat "Deed" "pick") rfl), He.noat_ok (c.fact 30 (f := .noat "Deed" "changes") rfl), He.noat_ok (c.fact 31 (f := .noat "Deed" "rows") rfl), ?_, He.glo_ok X G (c.fact 32 (f := .glo "House") rfl), He.cls_ok (c.fact 33 (f := .cls "House") rfl), He.noat_ok (c.fact 35 (f := .noat "House" "text") rfl), He.noat_ok (c.fact 36 (f := .noat "House" "people") rfl), He.noat_ok (c.fact 37 (f := .noat "House" "cells") rfl), He.noat_ok (c.fact 38 (f := .noat "House" "kinds") rfl), He.noat_ok (c.fact 39 (f := .noat "House" "deeds") rfl), He.noat_ok (c.fact 40 (f := .noat "House" "scripts") rfl), He.noat_ok (c.fact 41 (f := .noat "House" "doings") rfl), He.noat_ok (c.fact 42 (f := .noat "House" "day") rfl), ?_, ?_, ?_, ?_, ?_, ?_, ?_, ?_, ?_, ?_, ?_, ?_, ?_, ?_, ?_, ?_, ?_, ?_, ?_, ?_, ?_, ?_, ?_, ?_, ?_, ?_, ?_, ?_, ?_, ?_, ?_, ?_, ?_, ?_, ?_, ?_, ?_, ?_, ?_, ?_, ?_, ?_, ?_, ?_, ?_, ?_, ?_, ?_, ?_, ?_, ?_, ?_, ?_, ?_, ?_, ?_, ?_, ?_, ?_⟩
  · obtain ⟨oc, od, osl, kV, doc, pm, an, cdv, ct, l, b⟩ := c.def_ 0 (d := ⟨("Lines", some "__init__"), "__init__", "Lines.__init__", defArgs sLinesInit, defBody sLinesInit, defScope sLinesInit⟩) rfl
    exact ⟨_, _, He.mkr_ok (c.fact 20 (f := .mkr "Lines") rfl), fun_mk (st := sLinesInit) l b (He.meth_ok (c.fact 43 (f := .meth "Lines" "__init__") rfl)).kp⟩
  · obtain ⟨oc, od, osl, kV, doc, pm, an, cdv, ct, l, b⟩ := c.def_ 11 (d := ⟨("Deed", some "__init__"), "__init__", "Deed.__init__", defArgs sDeedInit, defBody sDeedInit, defScope sDeedInit⟩) rfl
    exact ⟨_, _, He.mkr_ok (c.fact 25 (f := .mkr "Deed") rfl), fun_mk (st := sDeedInit) l b (He.meth_ok (c.fact 54 (f := .meth "Deed" "__init__") rfl)).kp⟩
  · obtain ⟨oc, od, osl, kV, doc, pm, an, cdv, ct, l, b⟩ := c.def_ 12 (d := ⟨("House", some "__init__"), "__init__", "House.__init__", defArgs sHouse, defBody sHouse, defScope sHouse⟩) rfl
    exact ⟨_, _, He.mkr_ok (c.fact 34 (f := .mkr "House") rfl), fun_mk (st := sHouse) l b (He.meth_ok (c.fact 55 (f := .meth "House" "__init__") rfl)).kp⟩
  · obtain ⟨oc, od, osl, kV, doc, pm, an, cdv, ct, l, b⟩ := c.def_ 1 (d := ⟨("Lines", some "need"), "need", "Lines.need", defArgs sNeed, defBody sNeed, defScope sNeed⟩) rfl
    have q := He.meth_ok (c.fact 44 (f := .meth "Lines" "need") rfl)
    exact ⟨_, _, q, fun_mk (st := sNeed) l b q.kp⟩
  · obtain ⟨oc, od, osl, kV, doc, pm, an, cdv, ct, l, b⟩ := c.def_ 2 (d := ⟨("Lines", some "words_ahead"), "words_ahead", "Lines.words_ahead", defArgs sWordsAhead, defBody sWordsAhead, defScope sWordsAhead⟩) rfl
    have q := He.meth_ok (c.fact 45 (f := .meth "Lines" "words_ahead") rfl)
    exact ⟨_, _, q, fun_mk (st := sWordsAhead) l b q.kp⟩
  · obtain ⟨oc, od, osl, kV, doc, pm, an, cdv, ct, l, b⟩ := c.def_ 3 (d := ⟨("Lines", some "is_next"), "is_next", "Lines.is_next", defArgs sIsNext, defBody sIsNext, defScope sIsNext⟩) rfl
    have q := He.meth_ok (c.fact 46 (f := .meth "Lines" "is_next") rfl)
    exact ⟨_, _, q, fun_mk (st := sIsNext) l b q.kp⟩
  · obtain ⟨oc, od, osl, kV, doc, pm, an, cdv, ct, l, b⟩ := c.def_ 4 (d := ⟨("Lines", some "is_more"), "is_more", "Lines.is_more", defArgs sIsMore, defBody sIsMore, defScope sIsMore⟩) rfl
    have q := He.meth_ok (c.fact 47 (f := .meth "Lines" "is_more") rfl)
    exact ⟨_, _, q, fun_mk (st := sIsMore) l b q.kp⟩
  · obtain ⟨oc, od, osl, kV, doc, pm, an, cdv, ct, l, b⟩ := c.def_ 5 (d := ⟨("Lines", some "take"), "take", "Lines.take", defArgs sTake, defBody sTake, defScope sTake⟩) rfl
    have q := He.meth_ok (c.fact 48 (f := .meth "Lines" "take") rfl)
    exact ⟨_, _, q, fun_mk (st := sTake) l b q.kp⟩
  · obtain ⟨oc, od, osl, kV, doc, pm, an, cdv, ct, l, b⟩ := c.def_ 6 (d := ⟨("Lines", some "take_exactly"), "take_exactly", "Lines.take_exactly", defArgs sExactly, defBody sExactly, defScope sExactly⟩) rfl
    have q := He.meth_ok (c.fact 49 (f := .meth "Lines" "take_exactly") rfl)
    exact ⟨_, _, q, fun_mk (st := sExactly) l b q.kp⟩
  · obtain ⟨oc, od, osl, kV, doc, pm, an, cdv, ct, l, b⟩ := c.def_ 7 (d := ⟨("Lines", some "take_end"), "take_end", "Lines.take_end", defArgs sTakeEnd, defBody sTakeEnd, defScope sTakeEnd⟩) rfl
    have q := He.meth_ok (c.fact 50 (f := .meth "Lines" "take_end") rfl)
    exact ⟨_, _, q, fun_mk (st := sTakeEnd) l b q.kp⟩
  · obtain ⟨oc, od, osl, kV, doc, pm, an, cdv, ct, l, b⟩ := c.def_ 8 (d := ⟨("Lines", some "new_name"), "new_name", "Lines.new_name", defArgs sNewName, defBody sNewName, defScope sNewName⟩) rfl
    have q := He.meth_ok (c.fact 51 (f := .meth "Lines" "new_name") rfl)
    exact ⟨_, _, q, fun_mk (st := sNewName) l b q.kp⟩
  · obtain ⟨oc, od, osl, kV, doc, pm, an, cdv, ct, l, b⟩ := c.def_ 9 (d := ⟨("Lines", some "place"), "place", "Lines.place", defArgs sPlace, defBody sPlace, defScope sPlace⟩) rfl
    have q := He.meth_ok (c.fact 52 (f := .meth "Lines" "place") rfl)
    exact ⟨_, _, q, fun_mk (st := sPlace) l b q.kp⟩
  · obtain ⟨oc, od, osl, kV, doc, pm, an, cdv, ct, l, b⟩ := c.def_ 10 (d := ⟨("Lines", some "number_from"), "number_from", "Lines.number_from", defArgs sNumberFrom, defBody sNumberFrom, defScope sNumberFrom⟩) rfl
    have q := He.meth_ok (c.fact 53 (f := .meth "Lines" "number_from") rfl)
    exact ⟨_, _, q, fun_mk (st := sNumberFrom) l b q.kp⟩
  · obtain ⟨oc, od, osl, kV, doc, pm, an, cdv, ct, l, b⟩ := c.def_ 13 (d := ⟨("is_name", none), "is_name", "is_name", defArgs sIsName, defBody sIsName, defScope sIsName⟩) rfl
    exact ⟨_, _, He.glo_ok X G (c.fact 56 (f := .glo "is_name") rfl), fun_mk (st := sIsName) l b (He.keep_ok (c.fact 57 (f := .keep "is_name") rfl))⟩
  · obtain ⟨oc, od, osl, kV, doc, pm, an, cdv, ct, l, b⟩ := c.def_ 14 (d := ⟨("number_of", none), "number_of", "number_of", defArgs sNumberOf, defBody sNumberOf, defScope sNumberOf⟩) rfl
    exact ⟨_, _, He.glo_ok X G (c.fact 58 (f := .glo "number_of") rfl), fun_mk (st := sNumberOf) l b (He.keep_ok (c.fact 59 (f := .keep "number_of") rfl))⟩
  · obtain ⟨oc, od, osl, kV, doc, pm, an, cdv, ct, l, b⟩ := c.def_ 15 (d := ⟨("worked_out", none), "worked_out", "worked_out", defArgs sWorked, defBody sWorked, defScope sWorked⟩) rfl
    exact ⟨_, _, He.glo_ok X G (c.fact 60 (f := .glo "worked_out") rfl), fun_mk (st := sWorked) l b (He.keep_ok (c.fact 61 (f := .keep "worked_out") rfl))⟩
  · obtain ⟨oc, od, osl, kV, doc, pm, an, cdv, ct, l, b⟩ := c.def_ 16 (d := ⟨("source_of_worth", none), "source_of_worth", "source_of_worth", defArgs sSrcWorth, defBody sSrcWorth, defScope sSrcWorth⟩) rfl
    exact ⟨_, _, He.glo_ok X G (c.fact 62 (f := .glo "source_of_worth") rfl), fun_mk (st := sSrcWorth) l b (He.keep_ok (c.fact 63 (f := .keep "source_of_worth") rfl))⟩
  · obtain ⟨oc, od, osl, kV, doc, pm, an, cdv, ct, l, b⟩ := c.def_ 17 (d := ⟨("source_of_person", none), "source_of_person", "source_of_person", defArgs sSrcPerson, defBody sSrcPerson, defScope sSrcPerson⟩) rfl
    exact ⟨_, _, He.glo_ok X G (c.fact 64 (f := .glo "source_of_person") rfl), fun_mk (st := sSrcPerson) l b (He.keep_ok (c.fact 65 (f := .keep "source_of_person") rfl))⟩
  · obtain ⟨oc, od, osl, kV, doc, pm, an, cdv, ct, l, b⟩ := c.def_ 18 (d := ⟨("take_by", none), "take_by", "take_by", defArgs sTakeBy, defBody sTakeBy, defScope sTakeBy⟩) rfl
    exact ⟨_, _, He.glo_ok X G (c.fact 66 (f := .glo "take_by") rfl), fun_mk (st := sTakeBy) l b (He.keep_ok (c.fact 67 (f := .keep "take_by") rfl))⟩
  · obtain ⟨oc, od, osl, kV, doc, pm, an, cdv, ct, l, b⟩ := c.def_ 19 (d := ⟨("take_test", none), "take_test", "take_test", defArgs sTakeTest, defBody sTakeTest, defScope sTakeTest⟩) rfl
    exact ⟨_, _, He.glo_ok X G (c.fact 68 (f := .glo "take_test") rfl), fun_mk (st := sTakeTest) l b (He.keep_ok (c.fact 69 (f := .keep "take_test") rfl))⟩
  · obtain ⟨oc, od, osl, kV, doc, pm, an, cdv, ct, l, b⟩ := c.def_ 20 (d := ⟨("take_pick", none), "take_pick", "take_pick", defArgs sTakePick, defBody sTakePick, defScope sTakePick⟩) rfl
    exact ⟨_, _, He.glo_ok X G (c.fact 70 (f := .glo "take_pick") rfl), fun_mk (st := sTakePick) l b (He.keep_ok (c.fact 71 (f := .keep "take_pick") rfl))⟩
  · obtain ⟨oc, od, osl, kV, doc, pm, an, cdv, ct, l, b⟩ := c.def_ 21 (d := ⟨("take_change", none), "take_change", "take_change", defArgs sTakeChange, defBody sTakeChange, defScope sTakeChange⟩) rfl
    exact ⟨_, _, He.glo_ok X G (c.fact 72 (f := .glo "take_change") rfl), fun_mk (st := sTakeChange) l b (He.keep_ok (c.fact 73 (f := .keep "take_change") rfl))⟩
  · obtain ⟨oc, od, osl, kV, doc, pm, an, cdv, ct, l, b⟩ := c.def_ 22 (d := ⟨("take_row", none), "take_row", "take_row", defArgs sTakeRow, defBody sTakeRow, defScope sTakeRow⟩) rfl
    exact ⟨_, _, He.glo_ok X G (c.fact 74 (f := .glo "take_row") rfl), fun_mk (st := sTakeRow) l b (He.keep_ok (c.fact 75 (f := .keep "take_row") rfl))⟩
  · obtain ⟨oc, od, osl, kV, doc, pm, an, cdv, ct, l, b⟩ := c.def_ 23 (d := ⟨("take_deed", none), "take_deed", "take_deed", defArgs sTakeDeed, defBody sTakeDeed, defScope sTakeDeed⟩) rfl
    exact ⟨_, _, He.glo_ok X G (c.fact 76 (f := .glo "take_deed") rfl), fun_mk (st := sTakeDeed) l b (He.keep_ok (c.fact 77 (f := .keep "take_deed") rfl))⟩
  · obtain ⟨oc, od, osl, kV, doc, pm, an, cdv, ct, l, b⟩ := c.def_ 24 (d := ⟨("is_from", none), "is_from", "is_from", defArgs sIsFrom, defBody sIsFrom, defScope sIsFrom⟩) rfl
    exact ⟨_, _, He.glo_ok X G (c.fact 78 (f := .glo "is_from") rfl), fun_mk (st := sIsFrom) l b (He.keep_ok (c.fact 79 (f := .keep "is_from") rfl))⟩
  · obtain ⟨oc, od, osl, kV, doc, pm, an, cdv, ct, l, b⟩ := c.def_ 25 (d := ⟨("is_tuple_of", none), "is_tuple_of", "is_tuple_of", defArgs sIsTupleOf, defBody sIsTupleOf, defScope sIsTupleOf⟩) rfl
    exact ⟨_, _, He.glo_ok X G (c.fact 80 (f := .glo "is_tuple_of") rfl), fun_mk (st := sIsTupleOf) l b (He.keep_ok (c.fact 81 (f := .keep "is_tuple_of") rfl))⟩
  · obtain ⟨oc, od, osl, kV, doc, pm, an, cdv, ct, l, b⟩ := c.def_ 26 (d := ⟨("is_stand", none), "is_stand", "is_stand", defArgs sIsStand, defBody sIsStand, defScope sIsStand⟩) rfl
    exact ⟨_, _, He.glo_ok X G (c.fact 82 (f := .glo "is_stand") rfl), fun_mk (st := sIsStand) l b (He.keep_ok (c.fact 83 (f := .keep "is_stand") rfl))⟩
  · obtain ⟨oc, od, osl, kV, doc, pm, an, cdv, ct, l, b⟩ := c.def_ 27 (d := ⟨("is_deed", none), "is_deed", "is_deed", defArgs sIsDeed, defBody sIsDeed, defScope sIsDeed⟩) rfl
    exact ⟨_, _, He.glo_ok X G (c.fact 84 (f := .glo "is_deed") rfl), fun_mk (st := sIsDeed) l b (He.keep_ok (c.fact 85 (f := .keep "is_deed") rfl))⟩
  · obtain ⟨oc, od, osl, kV, doc, pm, an, cdv, ct, l, b⟩ := c.def_ 28 (d := ⟨("is_move", none), "is_move", "is_move", defArgs sIsMove, defBody sIsMove, defScope sIsMove⟩) rfl
    exact ⟨_, _, He.glo_ok X G (c.fact 86 (f := .glo "is_move") rfl), fun_mk (st := sIsMove) l b (He.keep_ok (c.fact 87 (f := .keep "is_move") rfl))⟩
  · obtain ⟨oc, od, osl, kV, doc, pm, an, cdv, ct, l, b⟩ := c.def_ 29 (d := ⟨("first_stand", none), "first_stand", "first_stand", defArgs sFirst, defBody sFirst, defScope sFirst⟩) rfl
    exact ⟨_, _, He.glo_ok X G (c.fact 88 (f := .glo "first_stand") rfl), fun_mk (st := sFirst) l b (He.keep_ok (c.fact 89 (f := .keep "first_stand") rfl))⟩
  · obtain ⟨oc, od, osl, kV, doc, pm, an, cdv, ct, l, b⟩ := c.def_ 30 (d := ⟨("holds", none), "holds", "holds", defArgs sHolds, defBody sHolds, defScope sHolds⟩) rfl
    exact ⟨_, _, He.glo_ok X G (c.fact 90 (f := .glo "holds") rfl), fun_mk (st := sHolds) l b (He.keep_ok (c.fact 91 (f := .keep "holds") rfl))⟩
  · obtain ⟨oc, od, osl, kV, doc, pm, an, cdv, ct, l, b⟩ := c.def_ 31 (d := ⟨("is_possible", none), "is_possible", "is_possible", defArgs sPossible, defBody sPossible, defScope sPossible⟩) rfl
    exact ⟨_, _, He.glo_ok X G (c.fact 92 (f := .glo "is_possible") rfl), fun_mk (st := sPossible) l b (He.keep_ok (c.fact 93 (f := .keep "is_possible") rfl))⟩
  · obtain ⟨oc, od, osl, kV, doc, pm, an, cdv, ct, l, b⟩ := c.def_ 32 (d := ⟨("possible_moves", none), "possible_moves", "possible_moves", defArgs sPMoves, defBody sPMoves, defScope sPMoves⟩) rfl
    exact ⟨_, _, He.glo_ok X G (c.fact 94 (f := .glo "possible_moves") rfl), fun_mk (st := sPMoves) l b (He.keep_ok (c.fact 95 (f := .keep "possible_moves") rfl))⟩
  · obtain ⟨oc, od, osl, kV, doc, pm, an, cdv, ct, l, b⟩ := c.def_ 33 (d := ⟨("moves", none), "moves", "moves", defArgs sMoves, defBody sMoves, defScope sMoves⟩) rfl
    exact ⟨_, _, He.glo_ok X G (c.fact 96 (f := .glo "moves") rfl), fun_mk (st := sMoves) l b (He.keep_ok (c.fact 97 (f := .keep "moves") rfl))⟩
  · obtain ⟨oc, od, osl, kV, doc, pm, an, cdv, ct, l, b⟩ := c.def_ 34 (d := ⟨("changed", none), "changed", "changed", defArgs sChanged, defBody sChanged, defScope sChanged⟩) rfl
    exact ⟨_, _, He.glo_ok X G (c.fact 98 (f := .glo "changed") rfl), fun_mk (st := sChanged) l b (He.keep_ok (c.fact 99 (f := .keep "changed") rfl))⟩
  · obtain ⟨oc, od, osl, kV, doc, pm, an, cdv, ct, l, b⟩ := c.def_ 35 (d := ⟨("stand_behind", none), "stand_behind", "stand_behind", defArgs sBehind, defBody sBehind, defScope sBehind⟩) rfl
    exact ⟨_, _, He.glo_ok X G (c.fact 100 (f := .glo "stand_behind") rfl), fun_mk (st := sBehind) l b (He.keep_ok (c.fact 101 (f := .keep "stand_behind") rfl))⟩
  · obtain ⟨oc, od, osl, kV, doc, pm, an, cdv, ct, l, b⟩ := c.def_ 36 (d := ⟨("after", none), "after", "after", defArgs sAfter, defBody sAfter, defScope sAfter⟩) rfl
    exact ⟨_, _, He.glo_ok X G (c.fact 102 (f := .glo "after") rfl), fun_mk (st := sAfter) l b (He.keep_ok (c.fact 103 (f := .keep "after") rfl))⟩
  · obtain ⟨oc, od, osl, kV, doc, pm, an, cdv, ct, l, b⟩ := c.def_ 37 (d := ⟨("take_people", none), "take_people", "take_people", defArgs sTakePeople, defBody sTakePeople, defScope sTakePeople⟩) rfl
    exact ⟨_, _, He.glo_ok X G (c.fact 104 (f := .glo "take_people") rfl), fun_mk (st := sTakePeople) l b (He.keep_ok (c.fact 105 (f := .keep "take_people") rfl))⟩
  · obtain ⟨oc, od, osl, kV, doc, pm, an, cdv, ct, l, b⟩ := c.def_ 38 (d := ⟨("take_cell", none), "take_cell", "take_cell", defArgs sTakeCell, defBody sTakeCell, defScope sTakeCell⟩) rfl
    exact ⟨_, _, He.glo_ok X G (c.fact 106 (f := .glo "take_cell") rfl), fun_mk (st := sTakeCell) l b (He.keep_ok (c.fact 107 (f := .keep "take_cell") rfl))⟩
  · obtain ⟨oc, od, osl, kV, doc, pm, an, cdv, ct, l, b⟩ := c.def_ 39 (d := ⟨("take_cells", none), "take_cells", "take_cells", defArgs sTakeCells, defBody sTakeCells, defScope sTakeCells⟩) rfl
    exact ⟨_, _, He.glo_ok X G (c.fact 108 (f := .glo "take_cells") rfl), fun_mk (st := sTakeCells) l b (He.keep_ok (c.fact 109 (f := .keep "take_cells") rfl))⟩
  · obtain ⟨oc, od, osl, kV, doc, pm, an, cdv, ct, l, b⟩ := c.def_ 40 (d := ⟨("take_field", none), "take_field", "take_field", defArgs sTakeField, defBody sTakeField, defScope sTakeField⟩) rfl
    exact ⟨_, _, He.glo_ok X G (c.fact 110 (f := .glo "take_field") rfl), fun_mk (st := sTakeField) l b (He.keep_ok (c.fact 111 (f := .keep "take_field") rfl))⟩
  · obtain ⟨oc, od, osl, kV, doc, pm, an, cdv, ct, l, b⟩ := c.def_ 41 (d := ⟨("take_kind", none), "take_kind", "take_kind", defArgs sTakeKind, defBody sTakeKind, defScope sTakeKind⟩) rfl
    exact ⟨_, _, He.glo_ok X G (c.fact 112 (f := .glo "take_kind") rfl), fun_mk (st := sTakeKind) l b (He.keep_ok (c.fact 113 (f := .keep "take_kind") rfl))⟩
  · obtain ⟨oc, od, osl, kV, doc, pm, an, cdv, ct, l, b⟩ := c.def_ 42 (d := ⟨("take_kinds", none), "take_kinds", "take_kinds", defArgs sTakeKinds, defBody sTakeKinds, defScope sTakeKinds⟩) rfl
    exact ⟨_, _, He.glo_ok X G (c.fact 114 (f := .glo "take_kinds") rfl), fun_mk (st := sTakeKinds) l b (He.keep_ok (c.fact 115 (f := .keep "take_kinds") rfl))⟩
  · obtain ⟨oc, od, osl, kV, doc, pm, an, cdv, ct, l, b⟩ := c.def_ 43 (d := ⟨("take_deeds", none), "take_deeds", "take_deeds", defArgs sTakeDeeds, defBody sTakeDeeds, defScope sTakeDeeds⟩) rfl
    exact ⟨_, _, He.glo_ok X G (c.fact 116 (f := .glo "take_deeds") rfl), fun_mk (st := sTakeDeeds) l b (He.keep_ok (c.fact 117 (f := .keep "take_deeds") rfl))⟩
  · obtain ⟨oc, od, osl, kV, doc, pm, an, cdv, ct, l, b⟩ := c.def_ 44 (d := ⟨("_law_pot_of", none), "_law_pot_of", "_law_pot_of", defArgs sPot, defBody sPot, defScope sPot⟩) rfl
    exact ⟨_, _, He.glo_ok X G (c.fact 118 (f := .glo "_law_pot_of") rfl), fun_mk (st := sPot) l b (He.keep_ok (c.fact 119 (f := .keep "_law_pot_of") rfl))⟩
  · obtain ⟨oc, od, osl, kV, doc, pm, an, cdv, ct, l, b⟩ := c.def_ 45 (d := ⟨("_law_take", none), "_law_take", "_law_take", defArgs sLTake, defBody sLTake, defScope sLTake⟩) rfl
    exact ⟨_, _, He.glo_ok X G (c.fact 120 (f := .glo "_law_take") rfl), fun_mk (st := sLTake) l b (He.keep_ok (c.fact 121 (f := .keep "_law_take") rfl))⟩
  · obtain ⟨oc, od, osl, kV, doc, pm, an, cdv, ct, l, b⟩ := c.def_ 46 (d := ⟨("_law_of", none), "_law_of", "_law_of", defArgs sOf, defBody sOf, defScope sOf⟩) rfl
    exact ⟨_, _, He.glo_ok X G (c.fact 122 (f := .glo "_law_of") rfl), fun_mk (st := sOf) l b (He.keep_ok (c.fact 123 (f := .keep "_law_of") rfl))⟩
  · obtain ⟨oc, od, osl, kV, doc, pm, an, cdv, ct, l, b⟩ := c.def_ 47 (d := ⟨("_law_unlike", none), "_law_unlike", "_law_unlike", defArgs sUnlike, defBody sUnlike, defScope sUnlike⟩) rfl
    exact ⟨_, _, He.glo_ok X G (c.fact 124 (f := .glo "_law_unlike") rfl), fun_mk (st := sUnlike) l b (He.keep_ok (c.fact 125 (f := .keep "_law_unlike") rfl))⟩
  · obtain ⟨oc, od, osl, kV, doc, pm, an, cdv, ct, l, b⟩ := c.def_ 48 (d := ⟨("_law_word_for", none), "_law_word_for", "_law_word_for", defArgs sWordFor, defBody sWordFor, defScope sWordFor⟩) rfl
    exact ⟨_, _, He.glo_ok X G (c.fact 126 (f := .glo "_law_word_for") rfl), fun_mk (st := sWordFor) l b (He.keep_ok (c.fact 127 (f := .keep "_law_word_for") rfl))⟩
  · obtain ⟨oc, od, osl, kV, doc, pm, an, cdv, ct, l, b⟩ := c.def_ 49 (d := ⟨("_law_wide_deed", none), "_law_wide_deed", "_law_wide_deed", defArgs sWideDeed, defBody sWideDeed, defScope sWideDeed⟩) rfl
    exact ⟨_, _, He.glo_ok X G (c.fact 128 (f := .glo "_law_wide_deed") rfl), fun_mk (st := sWideDeed) l b (He.keep_ok (c.fact 129 (f := .keep "_law_wide_deed") rfl))⟩
  · obtain ⟨oc, od, osl, kV, doc, pm, an, cdv, ct, l, b⟩ := c.def_ 50 (d := ⟨("_law_wide_house", none), "_law_wide_house", "_law_wide_house", defArgs sWideHouse, defBody sWideHouse, defScope sWideHouse⟩) rfl
    exact ⟨_, _, He.glo_ok X G (c.fact 130 (f := .glo "_law_wide_house") rfl), fun_mk (st := sWideHouse) l b (He.keep_ok (c.fact 131 (f := .keep "_law_wide_house") rfl))⟩
  · obtain ⟨oc, od, osl, kV, doc, pm, an, cdv, ct, l, b⟩ := c.def_ 51 (d := ⟨("_law_page", none), "_law_page", "_law_page", defArgs sPage, defBody sPage, defScope sPage⟩) rfl
    exact ⟨_, _, He.glo_ok X G (c.fact 132 (f := .glo "_law_page") rfl), fun_mk (st := sPage) l b (He.keep_ok (c.fact 133 (f := .keep "_law_page") rfl))⟩
  · obtain ⟨oc, od, osl, kV, doc, pm, an, cdv, ct, l, b⟩ := c.def_ 52 (d := ⟨("_law_begun", none), "_law_begun", "_law_begun", defArgs sBegun, defBody sBegun, defScope sBegun⟩) rfl
    exact ⟨_, _, He.glo_ok X G (c.fact 134 (f := .glo "_law_begun") rfl), fun_mk (st := sBegun) l b (He.keep_ok (c.fact 135 (f := .keep "_law_begun") rfl))⟩
  · obtain ⟨oc, od, osl, kV, doc, pm, an, cdv, ct, l, b⟩ := c.def_ 53 (d := ⟨("_law_drawn_stand", none), "_law_drawn_stand", "_law_drawn_stand", defArgs sDrawn, defBody sDrawn, defScope sDrawn⟩) rfl
    exact ⟨_, _, He.glo_ok X G (c.fact 136 (f := .glo "_law_drawn_stand") rfl), fun_mk (st := sDrawn) l b (He.keep_ok (c.fact 137 (f := .keep "_law_drawn_stand") rfl))⟩
  · obtain ⟨oc, od, osl, kV, doc, pm, an, cdv, ct, l, b⟩ := c.def_ 54 (d := ⟨("_law_cell_at", none), "_law_cell_at", "_law_cell_at", defArgs sCellAt, defBody sCellAt, defScope sCellAt⟩) rfl
    exact ⟨_, _, He.glo_ok X G (c.fact 138 (f := .glo "_law_cell_at") rfl), fun_mk (st := sCellAt) l b (He.keep_ok (c.fact 139 (f := .keep "_law_cell_at") rfl))⟩
  · obtain ⟨oc, od, osl, kV, doc, pm, an, cdv, ct, l, b⟩ := c.def_ 55 (d := ⟨("_law_can", none), "_law_can", "_law_can", defArgs sCan, defBody sCan, defScope sCan⟩) rfl
    exact ⟨_, _, He.glo_ok X G (c.fact 140 (f := .glo "_law_can") rfl), fun_mk (st := sCan) l b (He.keep_ok (c.fact 141 (f := .keep "_law_can") rfl))⟩
  · obtain ⟨oc, od, osl, kV, doc, pm, an, cdv, ct, l, b⟩ := c.def_ 56 (d := ⟨("_law_moves", none), "_law_moves", "_law_moves", defArgs sMovesL, defBody sMovesL, defScope sMovesL⟩) rfl
    exact ⟨_, _, He.glo_ok X G (c.fact 142 (f := .glo "_law_moves") rfl), fun_mk (st := sMovesL) l b (He.keep_ok (c.fact 143 (f := .keep "_law_moves") rfl))⟩
  · obtain ⟨oc, od, osl, kV, doc, pm, an, cdv, ct, l, b⟩ := c.def_ 57 (d := ⟨("_law_worked_out", none), "_law_worked_out", "_law_worked_out", defArgs sWorkL, defBody sWorkL, defScope sWorkL⟩) rfl
    exact ⟨_, _, He.glo_ok X G (c.fact 144 (f := .glo "_law_worked_out") rfl), fun_mk (st := sWorkL) l b (He.keep_ok (c.fact 145 (f := .keep "_law_worked_out") rfl))⟩
  · obtain ⟨oc, od, osl, kV, doc, pm, an, cdv, ct, l, b⟩ := c.def_ 58 (d := ⟨("_law_done", none), "_law_done", "_law_done", defArgs sDone, defBody sDone, defScope sDone⟩) rfl
    exact ⟨_, _, He.glo_ok X G (c.fact 146 (f := .glo "_law_done") rfl), fun_mk (st := sDone) l b (He.keep_ok (c.fact 147 (f := .keep "_law_done") rfl))⟩
  · obtain ⟨oc, od, osl, kV, doc, pm, an, cdv, ct, l, b⟩ := c.def_ 59 (d := ⟨("_law_right", none), "_law_right", "_law_right", defArgs sRight, defBody sRight, defScope sRight⟩) rfl
    exact ⟨_, _, He.glo_ok X G (c.fact 148 (f := .glo "_law_right") rfl), fun_mk (st := sRight) l b (He.keep_ok (c.fact 149 (f := .keep "_law_right") rfl))⟩
  · obtain ⟨oc, od, osl, kV, doc, pm, an, cdv, ct, l, b⟩ := c.def_ 60 (d := ⟨("law", none), "law", "law", defArgs sLaw, defBody sLaw, defScope sLaw⟩) rfl
    exact ⟨_, _, He.glo_ok X G (c.fact 150 (f := .glo "law") rfl), fun_mk (st := sLaw) l b (He.keep_ok (c.fact 151 (f := .keep "law") rfl))⟩
end
end Hx
set_option maxRecDepth 100000
set_option maxHeartbeats 1000000
/-! Every def keeps its promise, the law's own too. -/
namespace Hx
open PySem PySem.Spec PyProof.Rows L2
open PySem.W (Frag)
theorem all_mk {P : Program} {w : World} {K : Frag} {mg : Str → Option Value} {C D E fa : Addr} (T : Told K mg C D E) (night : ∃ aN, mg "NIGHT" = some (.ref aN) ∧ ∀ H, SqT K H aN [.str "night"]) (hfa : mg "law" = some (.ref fa)) :
    ∃ fd : FuncData, (∀ (s : Shared) (u : Value), BindsTo s fd ⟨[u], []⟩ [("_law_script", u)]) ∧ ∀ base : Heap, FnG P w K mg base 10 fa fd ["_law_script"] (spLaw K) := by
  obtain ⟨f8, d8, e8, F8⟩ := T.d_law
  have e := hfa.symm.trans e8
  cases e
  refine ⟨d8, ?_, fun base => ?_⟩
  · obtain ⟨oc, od, kV, doc, pm, an, cdv, ct, osl, rfl, lk, hcd⟩ := F8.ex
    exact fun s u => .of_eq rfl
  have lt : LTxt K mg C := ⟨T.c_Lines, T.n_Lines_rows, T.n_Lines_number, T.g_Lines, T.f_len, T.f_all, T.f_int⟩
  have ft : FTxt K mg := ⟨T.f_isinstance, T.f_int, T.f_bool, T.f_tuple, T.f_len, T.f_all, T.f_zip, T.f_list⟩
  have st : STxt K mg E := ⟨ft, night, T.f_tuple, T.c_House, T.n_House_people, T.n_House_cells, T.n_House_deeds, T.n_House_scripts, T.n_House_doings, T.n_House_day⟩
  obtain ⟨f_is_name, d_is_name, e_is_name, F_is_name⟩ := T.d_is_name
  have B_is_name : L2.Binds K d_is_name ["word"] [] := F_is_name.binds fun _ _ _ _ _ _ us hl => match us, hl with | [_], _ => rfl
  have O_is_name : FnOk P w K mg base CX0 1 f_is_name d_is_name ["word"] spName := ok_name F_is_name T.f_len T.f_all
  have D_is_name : DefOk P w K mg base "is_name" 1 ["word"] spName := ⟨f_is_name, d_is_name, e_is_name, F_is_name.kp, O_is_name, B_is_name⟩
  obtain ⟨f_number_of, d_number_of, e_number_of, F_number_of⟩ := T.d_number_of
  have B_number_of : L2.Binds K d_number_of ["word"] [] := F_number_of.binds fun _ _ _ _ _ _ us hl => match us, hl with | [_], _ => rfl
  have O_number_of : FnOk P w K mg base CX0 1 f_number_of d_number_of ["word"] spNumOf := ok_numOf F_number_of T.f_len T.f_all T.f_int
  have D_number_of : DefOk P w K mg base "number_of" 1 ["word"] spNumOf := ⟨f_number_of, d_number_of, e_number_of, F_number_of.kp, O_number_of, B_number_of⟩
  obtain ⟨f_need, d_need, m_need, F_need⟩ := T.m_need
  have b_need : L2.Binds K d_need ["self", "holds"] [] := F_need.binds fun _ _ _ _ _ _ us hl => match us, hl with | [_, _], _ => rfl
  have G_need : FnOk P w K mg base CX0 1 f_need d_need ["self", "holds"] spNeed := ok_need F_need
  obtain ⟨f_words_ahead, d_words_ahead, m_words_ahead, F_words_ahead⟩ := T.m_words_ahead
  have b_words_ahead : L2.Binds K d_words_ahead ["self", "depth"] [] := F_words_ahead.binds fun _ _ _ _ _ _ us hl => match us, hl with | [_, _], _ => rfl
  have G_words_ahead : FnOk P w K mg base CX0 1 f_words_ahead d_words_ahead ["self", "depth"] (spAhead C) := ok_ahead F_words_ahead lt
  obtain ⟨f_is_next, d_is_next, m_is_next, F_is_next⟩ := T.m_is_next
  have b_is_next : L2.Binds K d_is_next ["self", "depth", "words"] [] := F_is_next.binds fun _ _ _ _ _ _ us hl => match us, hl with | [_, _, _], _ => rfl
  have G_is_next : FnOk P w K mg base CX0 2 f_is_next d_is_next ["self", "depth", "words"] (spNext C K) := ok_next F_is_next lt G_words_ahead b_words_ahead m_words_ahead
  obtain ⟨f_is_more, d_is_more, m_is_more, F_is_more⟩ := T.m_is_more
  have b_is_more : L2.Binds K d_is_more ["self", "depth", "words", "found", "least", "most"] [] := F_is_more.binds fun _ _ _ _ _ _ us hl => match us, hl with | [_, _, _, _, _, _], _ => rfl
  have G_is_more : FnOk P w K mg base CX0 3 f_is_more d_is_more ["self", "depth", "words", "found", "least", "most"] (spMore C K) := ok_more F_is_more lt G_is_next b_is_next m_is_next
  obtain ⟨f_take, d_take, m_take, F_take⟩ := T.m_take
  have b_take : L2.Binds K d_take ["self", "depth", "words"] [] := F_take.binds fun _ _ _ _ _ _ us hl => match us, hl with | [_, _, _], _ => rfl
  have G_take : FnOk P w K mg base CX0 2 f_take d_take ["self", "depth", "words"] (spTake C K) := ok_take F_take lt G_words_ahead b_words_ahead m_words_ahead G_need b_need m_need
  obtain ⟨f_take_exactly, d_take_exactly, m_take_exactly, F_take_exactly⟩ := T.m_take_exactly
  have b_take_exactly : L2.Binds K d_take_exactly ["self", "depth", "words", "many"] [] := F_take_exactly.binds fun _ _ _ _ _ _ us hl => match us, hl with | [_, _, _, _], _ => rfl
  have G_take_exactly : FnOk P w K mg base CX0 3 f_take_exactly d_take_exactly ["self", "depth", "words", "many"] (spExactly C K) := ok_exactly F_take_exactly lt G_take b_take m_take G_need b_need m_need
  obtain ⟨f_take_end, d_take_end, m_take_end, F_take_end⟩ := T.m_take_end
  have b_take_end : L2.Binds K d_take_end ["self"] [] := F_take_end.binds fun _ _ _ _ _ _ us hl => match us, hl with | [_], _ => rfl
  have G_take_end : FnOk P w K mg base CX0 1 f_take_end d_take_end ["self"] (spEnd C) := ok_end F_take_end lt
  obtain ⟨f_new_name, d_new_name, m_new_name, F_new_name⟩ := T.m_new_name
  have b_new_name : L2.Binds K d_new_name ["self", "word", "names"] [] := F_new_name.binds fun _ _ _ _ _ _ us hl => match us, hl with | [_, _, _], _ => rfl
  have G_new_name : FnOk P w K mg base CX0 2 f_new_name d_new_name ["self", "word", "names"] (spNewName C K) := ok_newName F_new_name lt O_is_name B_is_name F_is_name.kp e_is_name G_need b_need m_need
  obtain ⟨f_place, d_place, m_place, F_place⟩ := T.m_place
  have b_place : L2.Binds K d_place ["self", "word", "names"] [] := F_place.binds fun _ _ _ _ _ _ us hl => match us, hl with | [_, _, _], _ => rfl
  have G_place : FnOk P w K mg base CX0 2 f_place d_place ["self", "word", "names"] (spPlace C K) := ok_place F_place lt G_need b_need m_need
  obtain ⟨f_number_from, d_number_from, m_number_from, F_number_from⟩ := T.m_number_from
  have b_number_from : L2.Binds K d_number_from ["self", "word", "low", "limit"] [] := F_number_from.binds fun _ _ _ _ _ _ us hl => match us, hl with | [_, _, _, _], _ => rfl
  have G_number_from : FnOk P w K mg base CX0 2 f_number_from d_number_from ["self", "word", "low", "limit"] (spNumFrom C) := ok_numFrom F_number_from lt O_number_of B_number_of F_number_of.kp e_number_of G_need b_need m_need
  have ln : Ln P w K mg base C := ⟨lt, ⟨_, _, m_need, G_need, b_need⟩, ⟨_, _, m_is_next, G_is_next.imp (fun _ _ _ _ h => next_page h), b_is_next⟩, ⟨_, _, m_is_more, G_is_more.imp (fun _ _ _ _ h => more_page h), b_is_more⟩, ⟨_, _, m_take, G_take.imp (fun _ _ _ _ h => take_page h), b_take⟩, ⟨_, _, m_take_exactly, G_take_exactly.imp (fun _ _ _ _ h => exactly_page h), b_take_exactly⟩,
    ⟨_, _, m_take_end, G_take_end, b_take_end⟩, ⟨_, _, m_new_name, G_new_name, b_new_name⟩, ⟨_, _, m_place, G_place, b_place⟩, ⟨_, _, m_number_from, G_number_from, b_number_from⟩, D_is_name, D_number_of, T.f_set, T.f_tuple⟩
  obtain ⟨f_take_people, d_take_people, e_take_people, F_take_people⟩ := T.d_take_people
  have B_take_people : L2.Binds K d_take_people ["lines"] [] := F_take_people.binds fun _ _ _ _ _ _ us hl => match us, hl with | [_], _ => rfl
  have O_take_people : FnOk P w K mg base CX0 3 f_take_people d_take_people ["lines"] (spPeople C K) := ok_people F_take_people ln
  have D_take_people : DefOk P w K mg base "take_people" 3 ["lines"] (spPeople C K) := ⟨f_take_people, d_take_people, e_take_people, F_take_people.kp, O_take_people, B_take_people⟩
  obtain ⟨f_take_cell, d_take_cell, e_take_cell, F_take_cell⟩ := T.d_take_cell
  have B_take_cell : L2.Binds K d_take_cell ["lines", "names"] [] := F_take_cell.binds fun _ _ _ _ _ _ us hl => match us, hl with | [_, _], _ => rfl
  have O_take_cell : FnOk P w K mg base CX0 4 f_take_cell d_take_cell ["lines", "names"] (spCell C K) := ok_cell F_take_cell ln
  have D_take_cell : DefOk P w K mg base "take_cell" 4 ["lines", "names"] (spCell C K) := ⟨f_take_cell, d_take_cell, e_take_cell, F_take_cell.kp, O_take_cell, B_take_cell⟩
  obtain ⟨f_take_cells, d_take_cells, e_take_cells, F_take_cells⟩ := T.d_take_cells
  have B_take_cells : L2.Binds K d_take_cells ["lines"] [] := F_take_cells.binds fun _ _ _ _ _ _ us hl => match us, hl with | [_], _ => rfl
  have O_take_cells : FnOk P w K mg base CX0 5 f_take_cells d_take_cells ["lines"] (spCells C K) := ok_cells F_take_cells ln D_take_cell
  have D_take_cells : DefOk P w K mg base "take_cells" 5 ["lines"] (spCells C K) := ⟨f_take_cells, d_take_cells, e_take_cells, F_take_cells.kp, O_take_cells, B_take_cells⟩
  obtain ⟨f_take_field, d_take_field, e_take_field, F_take_field⟩ := T.d_take_field
  have B_take_field : L2.Binds K d_take_field ["lines", "names"] [] := F_take_field.binds fun _ _ _ _ _ _ us hl => match us, hl with | [_, _], _ => rfl
  have O_take_field : FnOk P w K mg base CX0 4 f_take_field d_take_field ["lines", "names"] (spField C K) := ok_field F_take_field ln
  have D_take_field : DefOk P w K mg base "take_field" 4 ["lines", "names"] (spField C K) := ⟨f_take_field, d_take_field, e_take_field, F_take_field.kp, O_take_field, B_take_field⟩
  obtain ⟨f_take_kind, d_take_kind, e_take_kind, F_take_kind⟩ := T.d_take_kind
  have B_take_kind : L2.Binds K d_take_kind ["lines", "names"] [] := F_take_kind.binds fun _ _ _ _ _ _ us hl => match us, hl with | [_, _], _ => rfl
  have O_take_kind : FnOk P w K mg base CX0 5 f_take_kind d_take_kind ["lines", "names"] (spKind C K) := ok_kind F_take_kind ln D_take_field
  have D_take_kind : DefOk P w K mg base "take_kind" 5 ["lines", "names"] (spKind C K) := ⟨f_take_kind, d_take_kind, e_take_kind, F_take_kind.kp, O_take_kind, B_take_kind⟩
  obtain ⟨f_take_kinds, d_take_kinds, e_take_kinds, F_take_kinds⟩ := T.d_take_kinds
  have B_take_kinds : L2.Binds K d_take_kinds ["lines"] [] := F_take_kinds.binds fun _ _ _ _ _ _ us hl => match us, hl with | [_], _ => rfl
  have O_take_kinds : FnOk P w K mg base CX0 6 f_take_kinds d_take_kinds ["lines"] (spKinds C K) := ok_kinds F_take_kinds ln D_take_kind
  have D_take_kinds : DefOk P w K mg base "take_kinds" 6 ["lines"] (spKinds C K) := ⟨f_take_kinds, d_take_kinds, e_take_kinds, F_take_kinds.kp, O_take_kinds, B_take_kinds⟩
  obtain ⟨f_source_of_worth, d_source_of_worth, e_source_of_worth, F_source_of_worth⟩ := T.d_source_of_worth
  have B_source_of_worth : L2.Binds K d_source_of_worth ["lines", "word", "size", "cells", "pick"] [] := F_source_of_worth.binds fun _ _ _ _ _ _ us hl => match us, hl with | [_, _, _, _, _], _ => rfl
  have O_source_of_worth : FnOk P w K mg base CX0 2 f_source_of_worth d_source_of_worth ["lines", "word", "size", "cells", "pick"] (spSrcW C K) := ok_srcW F_source_of_worth ln
  have D_source_of_worth : DefOk P w K mg base "source_of_worth" 2 ["lines", "word", "size", "cells", "pick"] (spSrcW C K) := ⟨f_source_of_worth, d_source_of_worth, e_source_of_worth, F_source_of_worth.kp, O_source_of_worth, B_source_of_worth⟩
  obtain ⟨f_source_of_person, d_source_of_person, e_source_of_person, F_source_of_person⟩ := T.d_source_of_person
  have B_source_of_person : L2.Binds K d_source_of_person ["lines", "word", "people"] [] := F_source_of_person.binds fun _ _ _ _ _ _ us hl => match us, hl with | [_, _, _], _ => rfl
  have O_source_of_person : FnOk P w K mg base CX0 2 f_source_of_person d_source_of_person ["lines", "word", "people"] (spSrcP C K) := ok_srcP F_source_of_person ln
  have D_source_of_person : DefOk P w K mg base "source_of_person" 2 ["lines", "word", "people"] (spSrcP C K) := ⟨f_source_of_person, d_source_of_person, e_source_of_person, F_source_of_person.kp, O_source_of_person, B_source_of_person⟩
  obtain ⟨f_take_by, d_take_by, e_take_by, F_take_by⟩ := T.d_take_by
  have B_take_by : L2.Binds K d_take_by ["lines", "people"] [] := F_take_by.binds fun _ _ _ _ _ _ us hl => match us, hl with | [_, _], _ => rfl
  have O_take_by : FnOk P w K mg base CX0 3 f_take_by d_take_by ["lines", "people"] (spBy C K) := ok_by F_take_by ln
  have D_take_by : DefOk P w K mg base "take_by" 3 ["lines", "people"] (spBy C K) := ⟨f_take_by, d_take_by, e_take_by, F_take_by.kp, O_take_by, B_take_by⟩
  obtain ⟨f_take_test, d_take_test, e_take_test, F_take_test⟩ := T.d_take_test
  have B_take_test : L2.Binds K d_take_test ["lines", "cells"] [] := F_take_test.binds fun _ _ _ _ _ _ us hl => match us, hl with | [_, _], _ => rfl
  have O_take_test : FnOk P w K mg base CX0 4 f_take_test d_take_test ["lines", "cells"] (spTest C K) := ok_test F_take_test ln
  have D_take_test : DefOk P w K mg base "take_test" 4 ["lines", "cells"] (spTest C K) := ⟨f_take_test, d_take_test, e_take_test, F_take_test.kp, O_take_test, B_take_test⟩
  obtain ⟨f_take_pick, d_take_pick, e_take_pick, F_take_pick⟩ := T.d_take_pick
  have B_take_pick : L2.Binds K d_take_pick ["lines"] [] := F_take_pick.binds fun _ _ _ _ _ _ us hl => match us, hl with | [_], _ => rfl
  have O_take_pick : FnOk P w K mg base CX0 4 f_take_pick d_take_pick ["lines"] (spPick C) := ok_pick F_take_pick ln
  have D_take_pick : DefOk P w K mg base "take_pick" 4 ["lines"] (spPick C) := ⟨f_take_pick, d_take_pick, e_take_pick, F_take_pick.kp, O_take_pick, B_take_pick⟩
  obtain ⟨f_take_change, d_take_change, e_take_change, F_take_change⟩ := T.d_take_change
  have B_take_change : L2.Binds K d_take_change ["lines", "cells", "pick"] [] := F_take_change.binds fun _ _ _ _ _ _ us hl => match us, hl with | [_, _, _], _ => rfl
  have O_take_change : FnOk P w K mg base CX0 4 f_take_change d_take_change ["lines", "cells", "pick"] (spChange C K) := ok_change F_take_change ln D_source_of_worth
  have D_take_change : DefOk P w K mg base "take_change" 4 ["lines", "cells", "pick"] (spChange C K) := ⟨f_take_change, d_take_change, e_take_change, F_take_change.kp, O_take_change, B_take_change⟩
  obtain ⟨f_take_row, d_take_row, e_take_row, F_take_row⟩ := T.d_take_row
  have B_take_row : L2.Binds K d_take_row ["lines", "people", "cells", "kinds", "pick"] [] := F_take_row.binds fun _ _ _ _ _ _ us hl => match us, hl with | [_, _, _, _, _], _ => rfl
  have O_take_row : FnOk P w K mg base CX0 3 f_take_row d_take_row ["lines", "people", "cells", "kinds", "pick"] (spRow C K) := ok_row F_take_row ln T.f_zip D_source_of_worth D_source_of_person
  have D_take_row : DefOk P w K mg base "take_row" 3 ["lines", "people", "cells", "kinds", "pick"] (spRow C K) := ⟨f_take_row, d_take_row, e_take_row, F_take_row.kp, O_take_row, B_take_row⟩
  obtain ⟨fD, dD, kD, FD⟩ := T.k_Deed
  have dt : DTxt K mg D fD := ⟨T.c_Deed, T.n_Deed_name, T.n_Deed_by, T.n_Deed_tests, T.n_Deed_pick, T.n_Deed_changes, T.n_Deed_rows, T.g_Deed, kD⟩
  have bD : L2.Binds K dD ["self", "name", "by"] [] := FD.binds fun _ _ _ _ _ _ us hl => match us, hl with | [_, _, _], _ => rfl
  have GD : FnOk P w K mg base CX0 1 fD dD ["self", "name", "by"] (spDeedI D) := ok_deedI FD dt
  obtain ⟨f_take_deed, d_take_deed, e_take_deed, F_take_deed⟩ := T.d_take_deed
  have B_take_deed : L2.Binds K d_take_deed ["lines", "people", "cells", "kinds", "names"] [] := F_take_deed.binds fun _ _ _ _ _ _ us hl => match us, hl with | [_, _, _, _, _], _ => rfl
  have O_take_deed : FnOk P w K mg base CX0 5 f_take_deed d_take_deed ["lines", "people", "cells", "kinds", "names"] (spDeed C D K) := ok_deed F_take_deed ln dt GD bD D_take_by D_take_test D_take_pick D_take_change D_take_row
  have D_take_deed : DefOk P w K mg base "take_deed" 5 ["lines", "people", "cells", "kinds", "names"] (spDeed C D K) := ⟨f_take_deed, d_take_deed, e_take_deed, F_take_deed.kp, O_take_deed, B_take_deed⟩
  obtain ⟨f_take_deeds, d_take_deeds, e_take_deeds, F_take_deeds⟩ := T.d_take_deeds
  have B_take_deeds : L2.Binds K d_take_deeds ["lines", "people", "cells", "kinds"] [] := F_take_deeds.binds fun _ _ _ _ _ _ us hl => match us, hl with | [_, _, _, _], _ => rfl
  have O_take_deeds : FnOk P w K mg base CX0 6 f_take_deeds d_take_deeds ["lines", "people", "cells", "kinds"] (spDeeds C D K) := ok_deeds F_take_deeds ln dt D_take_deed
  have D_take_deeds : DefOk P w K mg base "take_deeds" 6 ["lines", "people", "cells", "kinds"] (spDeeds C D K) := ⟨f_take_deeds, d_take_deeds, e_take_deeds, F_take_deeds.kp, O_take_deeds, B_take_deeds⟩
  obtain ⟨fL, dL, kL, FL⟩ := T.k_Lines
  have bL : L2.Binds K dL ["self", "text"] [] := FL.binds fun _ _ _ _ _ _ us hl => match us, hl with | [_, _], _ => rfl
  have GL : FnOk P w K mg base CX0 1 fL dL ["self", "text"] (spLines C) := ok_lines FL lt T.f_isinstance T.f_str
  obtain ⟨fH, dH, kH, FH⟩ := T.k_House
  have ht : HTxt K mg E fH := ⟨T.c_House, T.n_House_text, T.n_House_people, T.n_House_cells, T.n_House_kinds, T.n_House_deeds, T.n_House_scripts, T.n_House_doings, T.n_House_day, T.g_House, kH⟩
  have bH : L2.Binds K dH ["self", "text"] [] := FH.binds fun _ _ _ _ _ _ us hl => match us, hl with | [_, _], _ => rfl
  have GH : FnOk P w K mg base CX0 7 fH dH ["self", "text"] (spHouse D E K) := ok_house FH ln ht kL GL bL dt T.f_sorted T.f_range D_take_people D_take_cells D_take_kinds D_take_deeds
  obtain ⟨f_is_from, d_is_from, e_is_from, F_is_from⟩ := T.d_is_from
  have B_is_from : L2.Binds K d_is_from ["value", "low", "limit"] [] := F_is_from.binds fun _ _ _ _ _ _ us hl => match us, hl with | [_, _, _], _ => rfl
  have O_is_from : FnOk P w K mg base CX0 1 f_is_from d_is_from ["value", "low", "limit"] spFrom := ok_from F_is_from ft
  have D_is_from : DefOk P w K mg base "is_from" 1 ["value", "low", "limit"] spFrom := ⟨f_is_from, d_is_from, e_is_from, F_is_from.kp, O_is_from, B_is_from⟩
  obtain ⟨f_is_tuple_of, d_is_tuple_of, e_is_tuple_of, F_is_tuple_of⟩ := T.d_is_tuple_of
  have B_is_tuple_of : L2.Binds K d_is_tuple_of ["value", "many"] [] := F_is_tuple_of.binds fun _ _ _ _ _ _ us hl => match us, hl with | [_, _], _ => rfl
  have O_is_tuple_of : FnOk P w K mg base CX0 1 f_is_tuple_of d_is_tuple_of ["value", "many"] (spTupOf K) := ok_tupOf F_is_tuple_of ft
  have D_is_tuple_of : DefOk P w K mg base "is_tuple_of" 1 ["value", "many"] (spTupOf K) := ⟨f_is_tuple_of, d_is_tuple_of, e_is_tuple_of, F_is_tuple_of.kp, O_is_tuple_of, B_is_tuple_of⟩
  obtain ⟨f_is_stand, d_is_stand, e_is_stand, F_is_stand⟩ := T.d_is_stand
  have B_is_stand : L2.Binds K d_is_stand ["house", "value"] [] := F_is_stand.binds fun _ _ _ _ _ _ us hl => match us, hl with | [_, _], _ => rfl
  have O_is_stand : FnOk P w K mg base CX0 2 f_is_stand d_is_stand ["house", "value"] (spStand D E K) := ok_stand F_is_stand st D_is_from D_is_tuple_of
  have D_is_stand : DefOk P w K mg base "is_stand" 2 ["house", "value"] (spStand D E K) := ⟨f_is_stand, d_is_stand, e_is_stand, F_is_stand.kp, O_is_stand, B_is_stand⟩
  obtain ⟨f_is_deed, d_is_deed, e_is_deed, F_is_deed⟩ := T.d_is_deed
  have B_is_deed : L2.Binds K d_is_deed ["house", "value"] [] := F_is_deed.binds fun _ _ _ _ _ _ us hl => match us, hl with | [_, _], _ => rfl
  have O_is_deed : FnOk P w K mg base CX0 2 f_is_deed d_is_deed ["house", "value"] (spIsDeed D E K) := ok_isDeed F_is_deed st D_is_from D_is_tuple_of
  have D_is_deed : DefOk P w K mg base "is_deed" 2 ["house", "value"] (spIsDeed D E K) := ⟨f_is_deed, d_is_deed, e_is_deed, F_is_deed.kp, O_is_deed, B_is_deed⟩
  obtain ⟨f_is_move, d_is_move, e_is_move, F_is_move⟩ := T.d_is_move
  have B_is_move : L2.Binds K d_is_move ["house", "value"] [] := F_is_move.binds fun _ _ _ _ _ _ us hl => match us, hl with | [_, _], _ => rfl
  have O_is_move : FnOk P w K mg base CX0 3 f_is_move d_is_move ["house", "value"] (spIsMove D E K) := ok_isMove F_is_move st D_is_deed
  have D_is_move : DefOk P w K mg base "is_move" 3 ["house", "value"] (spIsMove D E K) := ⟨f_is_move, d_is_move, e_is_move, F_is_move.kp, O_is_move, B_is_move⟩
  obtain ⟨f_holds, d_holds, e_holds, F_holds⟩ := T.d_holds
  have B_holds : L2.Binds K d_holds ["deed", "worths"] [] := F_holds.binds fun _ _ _ _ _ _ us hl => match us, hl with | [_, _], _ => rfl
  have O_holds : FnOk P w K mg base CX0 1 f_holds d_holds ["deed", "worths"] (spHolds D K) := ok_holds F_holds ft dt
  have D_holds : DefOk P w K mg base "holds" 1 ["deed", "worths"] (spHolds D K) := ⟨f_holds, d_holds, e_holds, F_holds.kp, O_holds, B_holds⟩
  obtain ⟨f_worked_out, d_worked_out, e_worked_out, F_worked_out⟩ := T.d_worked_out
  have B_worked_out : L2.Binds K d_worked_out ["source", "worths", "who", "it"] [] := F_worked_out.binds fun _ _ _ _ _ _ us hl => match us, hl with | [_, _, _, _], _ => rfl
  have O_worked_out : FnOk P w K mg base CX0 1 f_worked_out d_worked_out ["source", "worths", "who", "it"] (spWork K) := ok_work F_worked_out
  have D_worked_out : DefOk P w K mg base "worked_out" 1 ["source", "worths", "who", "it"] (spWork K) := ⟨f_worked_out, d_worked_out, e_worked_out, F_worked_out.kp, O_worked_out, B_worked_out⟩
  obtain ⟨f_first_stand, d_first_stand, e_first_stand, F_first_stand⟩ := T.d_first_stand
  have B_first_stand : L2.Binds K d_first_stand ["house"] [] := F_first_stand.binds fun _ _ _ _ _ _ us hl => match us, hl with | [_], _ => rfl
  have O_first_stand : FnOk P w K mg base CX0 1 f_first_stand d_first_stand ["house"] (spFirst D E K) := ok_first F_first_stand st
  have D_first_stand : DefOk P w K mg base "first_stand" 1 ["house"] (spFirst D E K) := ⟨f_first_stand, d_first_stand, e_first_stand, F_first_stand.kp, O_first_stand, B_first_stand⟩
  obtain ⟨f_is_possible, d_is_possible, e_is_possible, F_is_possible⟩ := T.d_is_possible
  have B_is_possible : L2.Binds K d_is_possible ["house", "stand", "move"] [] := F_is_possible.binds fun _ _ _ _ _ _ us hl => match us, hl with | [_, _, _], _ => rfl
  have O_is_possible : FnOk P w K mg base CX0 2 f_is_possible d_is_possible ["house", "stand", "move"] (spPoss D E K) := ok_poss F_is_possible st D_holds
  have D_is_possible : DefOk P w K mg base "is_possible" 2 ["house", "stand", "move"] (spPoss D E K) := ⟨f_is_possible, d_is_possible, e_is_possible, F_is_possible.kp, O_is_possible, B_is_possible⟩
  obtain ⟨f_possible_moves, d_possible_moves, e_possible_moves, F_possible_moves⟩ := T.d_possible_moves
  have B_possible_moves : L2.Binds K d_possible_moves ["house", "stand"] [] := F_possible_moves.binds fun _ _ _ _ _ _ us hl => match us, hl with | [_, _], _ => rfl
  have O_possible_moves : FnOk P w K mg base CX0 2 f_possible_moves d_possible_moves ["house", "stand"] (spPM D E K) := ok_PM F_possible_moves st D_holds
  have D_possible_moves : DefOk P w K mg base "possible_moves" 2 ["house", "stand"] (spPM D E K) := ⟨f_possible_moves, d_possible_moves, e_possible_moves, F_possible_moves.kp, O_possible_moves, B_possible_moves⟩
  obtain ⟨f_moves, d_moves, e_moves, F_moves⟩ := T.d_moves
  have B_moves : L2.Binds K d_moves ["house", "stand"] [] := F_moves.binds fun _ _ _ _ _ _ us hl => match us, hl with | [_, _], _ => rfl
  have O_moves : FnOk P w K mg base CX0 3 f_moves d_moves ["house", "stand"] (spMoves D E K) := ok_moves F_moves D_is_stand D_possible_moves
  have D_moves : DefOk P w K mg base "moves" 3 ["house", "stand"] (spMoves D E K) := ⟨f_moves, d_moves, e_moves, F_moves.kp, O_moves, B_moves⟩
  obtain ⟨f_changed, d_changed, e_changed, F_changed⟩ := T.d_changed
  have B_changed : L2.Binds K d_changed ["house", "deed", "worths", "who", "it"] [] := F_changed.binds fun _ _ _ _ _ _ us hl => match us, hl with | [_, _, _, _, _], _ => rfl
  have O_changed : FnOk P w K mg base CX0 2 f_changed d_changed ["house", "deed", "worths", "who", "it"] (spChanged D E K) := ok_changed F_changed st dt D_worked_out
  have D_changed : DefOk P w K mg base "changed" 2 ["house", "deed", "worths", "who", "it"] (spChanged D E K) := ⟨f_changed, d_changed, e_changed, F_changed.kp, O_changed, B_changed⟩
  obtain ⟨f_stand_behind, d_stand_behind, e_stand_behind, F_stand_behind⟩ := T.d_stand_behind
  have B_stand_behind : L2.Binds K d_stand_behind ["house", "stand", "move"] [] := F_stand_behind.binds fun _ _ _ _ _ _ us hl => match us, hl with | [_, _, _], _ => rfl
  have O_stand_behind : FnOk P w K mg base CX0 3 f_stand_behind d_stand_behind ["house", "stand", "move"] (spBehind D E K) := ok_behind F_stand_behind st dt D_worked_out D_changed
  have D_stand_behind : DefOk P w K mg base "stand_behind" 3 ["house", "stand", "move"] (spBehind D E K) := ⟨f_stand_behind, d_stand_behind, e_stand_behind, F_stand_behind.kp, O_stand_behind, B_stand_behind⟩
  obtain ⟨f_after, d_after, e_after, F_after⟩ := T.d_after
  have B_after : L2.Binds K d_after ["house", "stand", "move"] [] := F_after.binds fun _ _ _ _ _ _ us hl => match us, hl with | [_, _, _], _ => rfl
  have O_after : FnOk P w K mg base CX0 4 f_after d_after ["house", "stand", "move"] (spAfter D E K) := ok_after F_after D_is_stand D_is_move D_is_possible D_stand_behind
  have D_after : DefOk P w K mg base "after" 4 ["house", "stand", "move"] (spAfter D E K) := ⟨f_after, d_after, e_after, F_after.kp, O_after, B_after⟩
  obtain ⟨f__law_pot_of, d__law_pot_of, e__law_pot_of, F__law_pot_of⟩ := T.d__law_pot_of
  have B__law_pot_of : L2.Binds K d__law_pot_of ["_law_script", "_law_k"] [] := F__law_pot_of.binds fun _ _ _ _ _ _ us hl => match us, hl with | [_, _], _ => rfl
  have O__law_pot_of : FnOk P w K mg base CX0 1 f__law_pot_of d__law_pot_of ["_law_script", "_law_k"] (spPot K) := ok_pot F__law_pot_of T.f_len T.f_int T.f_abs
  have D__law_pot_of : DefOk P w K mg base "_law_pot_of" 1 ["_law_script", "_law_k"] (spPot K) := ⟨f__law_pot_of, d__law_pot_of, e__law_pot_of, F__law_pot_of.kp, O__law_pot_of, B__law_pot_of⟩
  obtain ⟨f__law_take, d__law_take, e__law_take, F__law_take⟩ := T.d__law_take
  have B__law_take : L2.Binds K d__law_take ["_law_pot", "_law_upto"] [] := F__law_take.binds fun _ _ _ _ _ _ us hl => match us, hl with | [_, _], _ => rfl
  have O__law_take : FnOk P w K mg base CX0 1 f__law_take d__law_take ["_law_pot", "_law_upto"] spLTake := ok_ltake F__law_take T.f_int
  have D__law_take : DefOk P w K mg base "_law_take" 1 ["_law_pot", "_law_upto"] spLTake := ⟨f__law_take, d__law_take, e__law_take, F__law_take.kp, O__law_take, B__law_take⟩
  obtain ⟨f__law_of, d__law_of, e__law_of, F__law_of⟩ := T.d__law_of
  have B__law_of : L2.Binds K d__law_of ["_law_pot", "_law_some"] [] := F__law_of.binds fun _ _ _ _ _ _ us hl => match us, hl with | [_, _], _ => rfl
  have O__law_of : FnOk P w K mg base CX0 2 f__law_of d__law_of ["_law_pot", "_law_some"] (spOf K) := ok_of F__law_of D__law_take T.f_len
  have D__law_of : DefOk P w K mg base "_law_of" 2 ["_law_pot", "_law_some"] (spOf K) := ⟨f__law_of, d__law_of, e__law_of, F__law_of.kp, O__law_of, B__law_of⟩
  obtain ⟨f__law_unlike, d__law_unlike, e__law_unlike, F__law_unlike⟩ := T.d__law_unlike
  have B__law_unlike : L2.Binds K d__law_unlike ["_law_pot", "_law_some", "_law_upmost"] [] := F__law_unlike.binds fun _ _ _ _ _ _ us hl => match us, hl with | [_, _, _], _ => rfl
  have O__law_unlike : FnOk P w K mg base CX0 2 f__law_unlike d__law_unlike ["_law_pot", "_law_some", "_law_upmost"] (spUnlike K) := ok_unlike F__law_unlike D__law_take T.f_len T.f_range T.f_list T.f_tuple
  have D__law_unlike : DefOk P w K mg base "_law_unlike" 2 ["_law_pot", "_law_some", "_law_upmost"] (spUnlike K) := ⟨f__law_unlike, d__law_unlike, e__law_unlike, F__law_unlike.kp, O__law_unlike, B__law_unlike⟩
  obtain ⟨f__law_word_for, d__law_word_for, e__law_word_for, F__law_word_for⟩ := T.d__law_word_for
  have B__law_word_for : L2.Binds K d__law_word_for ["_law_pot", "_law_hall", "_law_pick", "_law_size"] [] := F__law_word_for.binds fun _ _ _ _ _ _ us hl => match us, hl with | [_, _, _, _], _ => rfl
  have O__law_word_for : FnOk P w K mg base CX0 3 f__law_word_for d__law_word_for ["_law_pot", "_law_hall", "_law_pick", "_law_size"] (spWord K) := ok_word F__law_word_for D__law_take D__law_of T.f_list T.f_str T.f_int
  have D__law_word_for : DefOk P w K mg base "_law_word_for" 3 ["_law_pot", "_law_hall", "_law_pick", "_law_size"] (spWord K) := ⟨f__law_word_for, d__law_word_for, e__law_word_for, F__law_word_for.kp, O__law_word_for, B__law_word_for⟩
  obtain ⟨f__law_wide_deed, d__law_wide_deed, e__law_wide_deed, F__law_wide_deed⟩ := T.d__law_wide_deed
  have B__law_wide_deed : L2.Binds K d__law_wide_deed ["_law_pot", "_law_hall", "_law_deed"] [] := F__law_wide_deed.binds fun _ _ _ _ _ _ us hl => match us, hl with | [_, _, _], _ => rfl
  have O__law_wide_deed : FnOk P w K mg base CX0 4 f__law_wide_deed d__law_wide_deed ["_law_pot", "_law_hall", "_law_deed"] (spWide K) := ok_wide F__law_wide_deed D__law_take D__law_of D__law_unlike D__law_word_for T.f_len T.f_range T.f_tuple
  have D__law_wide_deed : DefOk P w K mg base "_law_wide_deed" 4 ["_law_pot", "_law_hall", "_law_deed"] (spWide K) := ⟨f__law_wide_deed, d__law_wide_deed, e__law_wide_deed, F__law_wide_deed.kp, O__law_wide_deed, B__law_wide_deed⟩
  obtain ⟨f__law_wide_house, d__law_wide_house, e__law_wide_house, F__law_wide_house⟩ := T.d__law_wide_house
  have B__law_wide_house : L2.Binds K d__law_wide_house ["_law_pot"] [] := F__law_wide_house.binds fun _ _ _ _ _ _ us hl => match us, hl with | [_], _ => rfl
  have O__law_wide_house : FnOk P w K mg base CX0 5 f__law_wide_house d__law_wide_house ["_law_pot"] (spWH K) := ok_WH F__law_wide_house D__law_take D__law_of D__law_unlike D__law_wide_deed T.f_tuple
  have D__law_wide_house : DefOk P w K mg base "_law_wide_house" 5 ["_law_pot"] (spWH K) := ⟨f__law_wide_house, d__law_wide_house, e__law_wide_house, F__law_wide_house.kp, O__law_wide_house, B__law_wide_house⟩
  obtain ⟨f__law_page, d__law_page, e__law_page, F__law_page⟩ := T.d__law_page
  have B__law_page : L2.Binds K d__law_page ["_law_hall"] [] := F__law_page.binds fun _ _ _ _ _ _ us hl => match us, hl with | [_], _ => rfl
  have O__law_page : FnOk P w K mg base CX0 1 f__law_page d__law_page ["_law_hall"] (spPage K) := ok_page F__law_page T.f_str
  have D__law_page : DefOk P w K mg base "_law_page" 1 ["_law_hall"] (spPage K) := ⟨f__law_page, d__law_page, e__law_page, F__law_page.kp, O__law_page, B__law_page⟩
  obtain ⟨f__law_begun, d__law_begun, e__law_begun, F__law_begun⟩ := T.d__law_begun
  have B__law_begun : L2.Binds K d__law_begun ["_law_hall"] [] := F__law_begun.binds fun _ _ _ _ _ _ us hl => match us, hl with | [_], _ => rfl
  have O__law_begun : FnOk P w K mg base CX0 1 f__law_begun d__law_begun ["_law_hall"] (spBegun K) := ok_begun F__law_begun T.f_tuple
  have D__law_begun : DefOk P w K mg base "_law_begun" 1 ["_law_hall"] (spBegun K) := ⟨f__law_begun, d__law_begun, e__law_begun, F__law_begun.kp, O__law_begun, B__law_begun⟩
  obtain ⟨f__law_drawn_stand, d__law_drawn_stand, e__law_drawn_stand, F__law_drawn_stand⟩ := T.d__law_drawn_stand
  have B__law_drawn_stand : L2.Binds K d__law_drawn_stand ["_law_pot", "_law_hall"] [] := F__law_drawn_stand.binds fun _ _ _ _ _ _ us hl => match us, hl with | [_, _], _ => rfl
  have O__law_drawn_stand : FnOk P w K mg base CX0 2 f__law_drawn_stand d__law_drawn_stand ["_law_pot", "_law_hall"] (spDrawn K) := ok_drawn F__law_drawn_stand D__law_take T.f_tuple
  have D__law_drawn_stand : DefOk P w K mg base "_law_drawn_stand" 2 ["_law_pot", "_law_hall"] (spDrawn K) := ⟨f__law_drawn_stand, d__law_drawn_stand, e__law_drawn_stand, F__law_drawn_stand.kp, O__law_drawn_stand, B__law_drawn_stand⟩
  obtain ⟨f__law_cell_at, d__law_cell_at, e__law_cell_at, F__law_cell_at⟩ := T.d__law_cell_at
  have B__law_cell_at : L2.Binds K d__law_cell_at ["_law_hall", "_law_name"] [] := F__law_cell_at.binds fun _ _ _ _ _ _ us hl => match us, hl with | [_, _], _ => rfl
  have O__law_cell_at : FnOk P w K mg base CX0 1 f__law_cell_at d__law_cell_at ["_law_hall", "_law_name"] (spCellAt K) := ok_cellAt F__law_cell_at
  have D__law_cell_at : DefOk P w K mg base "_law_cell_at" 1 ["_law_hall", "_law_name"] (spCellAt K) := ⟨f__law_cell_at, d__law_cell_at, e__law_cell_at, F__law_cell_at.kp, O__law_cell_at, B__law_cell_at⟩
  obtain ⟨f__law_can, d__law_can, e__law_can, F__law_can⟩ := T.d__law_can
  have B__law_can : L2.Binds K d__law_can ["_law_hall", "_law_tests", "_law_stand"] [] := F__law_can.binds fun _ _ _ _ _ _ us hl => match us, hl with | [_, _, _], _ => rfl
  have O__law_can : FnOk P w K mg base CX0 2 f__law_can d__law_can ["_law_hall", "_law_tests", "_law_stand"] (spCan K) := ok_can F__law_can D__law_cell_at T.f_all
  have D__law_can : DefOk P w K mg base "_law_can" 2 ["_law_hall", "_law_tests", "_law_stand"] (spCan K) := ⟨f__law_can, d__law_can, e__law_can, F__law_can.kp, O__law_can, B__law_can⟩
  obtain ⟨f__law_moves, d__law_moves, e__law_moves, F__law_moves⟩ := T.d__law_moves
  have B__law_moves : L2.Binds K d__law_moves ["_law_hall", "_law_stand"] [] := F__law_moves.binds fun _ _ _ _ _ _ us hl => match us, hl with | [_, _], _ => rfl
  have O__law_moves : FnOk P w K mg base CX0 3 f__law_moves d__law_moves ["_law_hall", "_law_stand"] (spMovesL K) := ok_movesL F__law_moves D__law_can T.f_range T.f_tuple T.f_sorted
  have D__law_moves : DefOk P w K mg base "_law_moves" 3 ["_law_hall", "_law_stand"] (spMovesL K) := ⟨f__law_moves, d__law_moves, e__law_moves, F__law_moves.kp, O__law_moves, B__law_moves⟩
  obtain ⟨f__law_worked_out, d__law_worked_out, e__law_worked_out, F__law_worked_out⟩ := T.d__law_worked_out
  have B__law_worked_out : L2.Binds K d__law_worked_out ["_law_hall", "_law_worths", "_law_move", "_law_size", "_law_word"] [] := F__law_worked_out.binds fun _ _ _ _ _ _ us hl => match us, hl with | [_, _, _, _, _], _ => rfl
  have O__law_worked_out : FnOk P w K mg base CX0 2 f__law_worked_out d__law_worked_out ["_law_hall", "_law_worths", "_law_move", "_law_size", "_law_word"] (spWorkL K) := ok_workL F__law_worked_out D__law_cell_at T.f_int
  have D__law_worked_out : DefOk P w K mg base "_law_worked_out" 2 ["_law_hall", "_law_worths", "_law_move", "_law_size", "_law_word"] (spWorkL K) := ⟨f__law_worked_out, d__law_worked_out, e__law_worked_out, F__law_worked_out.kp, O__law_worked_out, B__law_worked_out⟩
  obtain ⟨f__law_done, d__law_done, e__law_done, F__law_done⟩ := T.d__law_done
  have B__law_done : L2.Binds K d__law_done ["_law_hall", "_law_stand", "_law_move"] [] := F__law_done.binds fun _ _ _ _ _ _ us hl => match us, hl with | [_, _, _], _ => rfl
  have O__law_done : FnOk P w K mg base CX0 3 f__law_done d__law_done ["_law_hall", "_law_stand", "_law_move"] (spDoneL K) := ok_doneL F__law_done D__law_cell_at D__law_worked_out T.f_int T.f_tuple T.f_list T.f_dict T.f_zip
  have D__law_done : DefOk P w K mg base "_law_done" 3 ["_law_hall", "_law_stand", "_law_move"] (spDoneL K) := ⟨f__law_done, d__law_done, e__law_done, F__law_done.kp, O__law_done, B__law_done⟩
  obtain ⟨f7, d7, e7, F7⟩ := T.d__law_right
  have b7 : L2.Binds K d7 ["_law_pot"] [] := F7.binds fun _ _ _ _ _ _ us hl => match us, hl with | [_], _ => rfl
  have G7 : FnG P w K mg base 9 f7 d7 ["_law_pot"] spRight := ok_right F7 D__law_wide_house D__law_page ht GH bH D_first_stand D_moves D_after D__law_begun D__law_drawn_stand D__law_moves D__law_done T.f_repr T.f_range T.f_all
  exact ok_law F8 G7 b7 F7.kp e7 D__law_pot_of T.f_range T.f_max T.f_min T.f_len T.f_all
end Hx
set_option maxRecDepth 100000
set_option maxHeartbeats 0
/-! The head of the law. -/
namespace Hx
open PySem PySem.Spec PyProof.Rows L2
open PySem.W (Frag)
def hookX : PySem.W.Hook where
  α := AlX
  obs := fun s => obsX (He.frG s.heap.get? (He.asG s.heap.get? 5))
  val := fun _ => valX
  says := fun _ h => ∃ K : Frag, K.In h ∧ obsX K = valX
  of := fun _ _ e => ⟨_, He.frG_in, e⟩
  keeps := fun _ _ _ ⟨K, hK, c⟩ k => ⟨K, PySem.W.Frag.In.keeps hK k, c⟩
def obT (s : PySem.W.SharedT) : AlX := obsX (He.frG (HandSHeadRun.getT s) (He.asG (HandSHeadRun.getT s) 5))
theorem obT_eq (s : PySem.W.SharedT) : obT s = hookX.obs s.abs := by
  have e : HandSHeadRun.getT s = s.abs.heap.get? := funext (HandSHeadRun.getT_eq s)
  show obsX (He.frG (HandSHeadRun.getT s) (He.asG (HandSHeadRun.getT s) 5)) = obsX (He.frG s.abs.heap.get? (He.asG s.abs.heap.get? 5))
  rw [e]
abbrev rowK : PySem.W.OpenRow := PySem.W.OpenLaw.row PySem.Challenge.rw_givenout_k03_stands_and_moves
abbrev viewK : Program := PySem.W.view rowK.prog [62]
def names1 : List Str := ["GivenError", "BadText", "BadStand", "NoMove", "is_name", "number_of", "Lines", "Deed", "worked_out", "source_of_worth", "source_of_person", "take_by", "take_test", "take_pick", "take_change", "take_row", "take_deed", "NIGHT", "is_from", "is_tuple_of", "is_stand", "is_deed"]
def names2 : List Str := ["is_move", "first_stand", "holds", "is_possible", "possible_moves", "moves", "changed", "stand_behind", "after", "take_people", "take_cell", "take_cells", "take_field", "take_kind", "take_kinds", "take_deeds", "House"]
def names3 : List Str := ["_law_pot_of", "_law_take", "_law_of", "_law_unlike", "_law_word_for", "_law_wide_deed", "_law_wide_house", "_law_page", "_law_begun", "_law_drawn_stand", "_law_cell_at", "_law_can", "_law_moves", "_law_worked_out", "_law_done", "_law_right"]
def names : List Str := names1 ++ (names2 ++ names3)
theorem run (w : World) : HandSHeadRun.RunEq rowK viewK hookX obT 9000 names w := by
  intro os
  kernel_rfl
end Hx
set_option maxRecDepth 100000
set_option maxHeartbeats 1000000
namespace L2
open PySem PySem.Spec PyProof.Rows
/-- what a head by facts leaves -/
theorem walkGE {l : PySem.W.OpenLaw} {n k : Nat} {q : Program} {loose : List Str} {XP : (Str → Option Value) → Heap → Prop} {YP : World → Heap → Prop} {d : DefRec} {sp : PySem.W.Frag → Sp} {x : Str}
    (most : l.most = some n) (fits : n ≤ sizeLine) (nod : d.params.defaults = []) (room : Room k callerA)
    (F : ∀ (w : World) (mg : Str → Option Value) (fa : Addr) (h : Heap), YP w h → h.Ns mainGlobals mg → mg d.name = some (.ref fa) →
      ∃ (K : PySem.W.Frag) (fd : FuncData), K.In h ∧ (∀ (s : Shared) (u : Value), BindsTo s fd ⟨[u], []⟩ [(x, u)]) ∧ ∀ base : Heap, K.In base → base.Ns mainGlobals mg → FnG l.prog w K mg base k fa fd [x] (sp K))
    (hsp : ∀ (K : PySem.W.Frag) (H : Hp) (a : Addr) (ns : List Int), ns.length ≤ n → Only H → SqL K H a (ns.map V.int) → sp K [.ref a] H (fun v _ => v = .bl true) E0) :
    PySem.W.WalkO q loose XP YP l.row.toRowW d [] (fun f vs => PySem.call f vs) := by
  refine Att.attach_call most nod fun w s₀ s₁ mg mb fa o pm cd doc a vs ns G Y ho hd hcd hmg hobj whole len gens => ?_
  obtain ⟨K, fd, KX, bind, made⟩ := F w mg fa _ Y G.T.g hmg
  exact callG KX G.T.g G.T.b G.T.builtins G.T.nolimit gens hobj whole (Nat.le_trans len fits) room made bind fun H only sq => hsp _ H a ns len only sq
end L2
namespace Hx
open PySem PySem.Spec PyProof.Rows L2
/-- the law's def and all that it calls, by what the heap says -/
theorem all_says {w : World} {K : PySem.W.Frag} {h : Heap} {mg : Str → Option Value} {fa : Addr} (X : K.In h) (G : h.Ns mainGlobals mg) (hfa : mg "law" = some (.ref fa)) (c : obsX K = valX) :
    ∃ fd : FuncData, (∀ (s : Shared) (u : Value), BindsTo s fd ⟨[u], []⟩ [("_law_script", u)]) ∧ ∀ base : Heap, K.In base → base.Ns mainGlobals mg → FnG PySem.Challenge.rw_givenout_k03_stands_and_moves.prog w K mg base 10 fa fd ["_law_script"] (spLaw K) := by
  have c1 : nightB K = true := congrArg (fun z : AlX => z.1) c
  have c2 : He.SaysE Hx.fa fn K := congrArg (fun z : AlX => z.2) c
  obtain ⟨fd, b, F⟩ := all_mk (P := PySem.Challenge.rw_givenout_k03_stands_and_moves.prog) (w := w) (told X G c2) (night_ok X G c1) hfa
  exact ⟨fd, b, fun base _ _ => F base⟩
end Hx
open PySem PySem.W PySem.Calls PyProof.Rows
set_option maxRecDepth 100000 in
set_option maxHeartbeats 0 in
theorem PySem.Challenge.cw_givenout_k03_stands_and_moves_holds : PySem.Challenge.rw_givenout_k03_stands_and_moves.Holds := by
  w_on; o_law
  refine HandSHeadRun.head_any (r := Hx.rowK) (q := Hx.viewK) (H := Hx.hookX) (ob := Hx.obT) (M := 9000) (loose := Hx.names) (d := HandSHeadRun.topDef Hx.rowK.prog 62) (kwd := []) Hx.obT_eq
    (by kernel_rfl) (fun s => by kernel_rfl) Hx.run (by kernel_rfl) (by kernel_rfl) (by kernel_rfl) (by rfl) (by first | assumption | decide +kernel) (by decide +kernel) ⟨rfl, rfl, rfl, rfl, rfl, by decide +kernel⟩ ?hw ?hc
  case hw => w_witness2
  case hc =>
    refine L2.walkGE (l := PySem.Challenge.rw_givenout_k03_stands_and_moves) (n := 63) (k := 10) (x := "_law_script") (sp := Hx.spLaw) rfl (by decide) (by kernel_rfl) ⟨rfl, by decide, by decide⟩ ?F ?S
    case F =>
      intro w mg fa h Y G hmg0
      obtain ⟨K, KX, c⟩ := Y
      have hmg : mg ("law" : PySem.Str) = some (.ref fa) := by
        have e : (HandSHeadRun.topDef Hx.rowK.prog 62).name = ("law" : PySem.Str) := by kernel_rfl
        rw [← e]
        exact hmg0
      obtain ⟨fd, hb, hF⟩ := Hx.all_says (w := w) KX G hmg c
      exact ⟨K, fd, KX, hb, hF⟩
    case S =>
      intro K H a ns _ _ hs
      exact ⟨a, ns, rfl, hs, fun _ => rfl⟩
