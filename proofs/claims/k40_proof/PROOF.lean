import PyProof.Rows.All
import Wide.All
import OpenK.AllK
import Wide.FinOn
import HandS.Base
import HandS.Call
import HandS.List
import HandS.Comp
import HandS.Ends
import HandS.Words
import HandS.Exc
import HandS.ExcValue
import HandS.ExcIs
import HandS.ExcInit
import HandS.FStr
import KE.KExcIs
import KE.KExcSuper
import PyProof.Rows.StrJoinMade
import HandS.ForMost
import PySem.Challenge.RW_seencursors_k40_errors
set_option Elab.async false
set_option linter.all false
set_option maxRecDepth 100000
set_option maxHeartbeats 4000000
/-! The pen of a law: a list of the script's first ints, a place and a rest; what a draw gives. -/
namespace Own
open PySem L2
def top (i : Nat) : Stmt := PySem.Challenge.pw_seencursors_k40_errors.main.body.getD i (.Pass ⟨0, 0, 0, 0⟩)
abbrev sPen : Stmt := top 31
abbrev sNext : Stmt := top 32
abbrev sDraw : Stmt := top 33

/-- a pen at p: the list at a, the place i, the rest n -/
structure Pen (H : Hp) (p a : Addr) (ns : List Int) (i n : Int) : Prop where
  hp : H p = some (.lst [.ref a, .int i, .int n])
  ha : H a = some (.lst (ns.map V.int))
  len : ns.length ≤ 60
  hi : 0 ≤ i
  hn : 0 ≤ n
def spPen (K : PySem.W.Frag) : Sp := fun vs H Q _ => ∃ (s : Addr) (ns : List Int), vs = [.ref s] ∧ SqL K H s (ns.map V.int) ∧
  ∀ H' p a ms, H p = none → Same H H' → Pen H' p a ms 0 0 → Q (.ref p) H'
def spNext : Sp := fun vs H Q _ => ∃ (p a : Addr) (ns : List Int) (i n : Int), vs = [.ref p] ∧ Pen H p a ns i n ∧ i ≤ 1000000000 ∧
  ∀ (r : Int) (H' : Hp), 0 ≤ r → Same (upd H p (.lst [.ref a, .int (i + 1), .int n])) H' → Q (.int r) H'
def spDraw : Sp := fun vs H Q _ => ∃ (p a : Addr) (ns : List Int) (i n u : Int), vs = [.ref p, .int u] ∧ Pen H p a ns i n ∧ i ≤ 1000000000 ∧ 0 < u ∧ u < 1000000000 ∧
  ∀ (d i' n' : Int) (H' : Hp), 0 ≤ d → d < u → Pen H' p a ns i' n' → i' ≤ i + 1 → (∀ b o, b ≠ p → H b = some o → H' b = some o) → Q (.int d) H'

theorem lay_ints : ∀ ns : List Int, PyData.canLayAll0 (ns.map PyData.int) = true
  | [] => rfl
  | n :: r => by
    have h := lay_ints r
    simp only [List.map_cons, PyData.canLayAll0, PyData.canLay0, h, Bool.and_self]
theorem deep_ints : ∀ ns : List Int, PyData.depthAll (ns.map PyData.int) = 0
  | [] => rfl
  | n :: r => by
    have h := deep_ints r
    simp only [List.map_cons, PyData.depthAll, PyData.depth, h, Nat.max_self]
theorem shaped_ints (ns : List Int) : SeqAt.shaped (.list (ns.map PyData.int)) = true := by
  unfold SeqAt.shaped
  simp only [PyData.canLay0, PyData.depth, lay_ints, deep_ints, Bool.true_and]
  decide
theorem dp_ints {K : PySem.W.Frag} {H : Hp} : ∀ ns : List Int, DpAll K H (ns.map V.int) (ns.map PyData.int)
  | [] => .nil
  | n :: r => .cons (.int n) (dp_ints r)
theorem at_some {α : Type} {l : List α} {i : Int} (h0 : 0 ≤ i) (h1 : i < l.length) : ∃ x, l[i.toNat]? = some x ∧ atI l i = some x := by
  have h : i.toNat < l.length := by omega
  have e : (i.toNat : Int) = i := Int.toNat_of_nonneg h0
  have z := atI_nat (List.getElem?_eq_getElem h)
  rw [e] at z
  exact ⟨l[i.toNat], List.getElem?_eq_getElem h, z⟩
theorem fm_lo {a b : Int} (h : 0 < b) : 0 ≤ a.fmod b := by rw [Int.fmod_eq_emod_of_nonneg _ (Int.le_of_lt h)]; exact Int.emod_nonneg _ (Int.ne_of_gt h)
theorem fm_hi {a b : Int} (h : 0 < b) : a.fmod b < b := by rw [Int.fmod_eq_emod_of_nonneg _ (Int.le_of_lt h)]; exact Int.emod_lt_of_pos _ h
theorem fd_lo {a b : Int} (ha : 0 ≤ a) (h : 0 < b) : 0 ≤ a.fdiv b := by rw [Int.fdiv_eq_ediv_of_nonneg _ (Int.le_of_lt h)]; exact Int.ediv_nonneg ha (Int.le_of_lt h)
section
variable {P : Program} {w : World} {K : PySem.W.Frag} {mg : Str → Option Value} {base : Heap}
theorem sc_pen : FnScope ["script"] ["script"] (defScope sPen) := ⟨rfl, rfl, rfl, by decide +kernel, rfl, by decide +kernel, by decide +kernel⟩
theorem ok_pen {f : Addr} {fd : FuncData} (F : Fun K "_law_pen" "_law_pen" sPen f fd) (nl : mg "list" = none) : FnOk P w K mg base CX0 1 f fd ["script"] (spPen K) := by
  refine F.ok sc_pen (fun vs H Q E h => ?_) (fun cdv A outer s H vs Q E hr h => ?_)
  · obtain ⟨s, ns, rfl, _⟩ := h
    rfl
  · obtain ⟨s, ns, rfl, hs, k⟩ := h
    refine ⟨_, pss_one (ps_ret (pe_lst (pa_cons (pe_callTy call_list_of (by rfl) nl (by decide +kernel) (pa_cons (pe_slice sl_list (pv 0) po_none (po_some pe_int)) pa_nil)) (pa_cons pe_int (pa_cons pe_int pa_nil))))), ?_⟩
    refine ⟨_, rfl, _, rfl, s, _, rfl, hs, fun p hp => ⟨p, _, rfl, .inl (SqL.of upd_same), fun l hl => ⟨by show 3 ≤ sizeLine; decide, fun q hq => ?_⟩⟩⟩
    have npl : p ≠ l := fun z => by rw [z, upd_same] at hl; cases hl
    have hl0 : H l = Option.none := by rw [upd_ne npl.symm] at hl; exact hl
    have nql : l ≠ q := fun z => by rw [← z, upd_same] at hq; cases hq
    have hq1 : upd H p (.lst (cutV (ns.map V.int) none (some 60))) q = Option.none := by rw [upd_ne nql.symm] at hq; exact hq
    have nqp : p ≠ q := fun z => by rw [← z, upd_same] at hq1; cases hq1
    have hq0 : H q = Option.none := by rw [upd_ne nqp.symm] at hq1; exact hq1
    have ec : cutV (ns.map V.int) none (some 60) = (ns.take 60).map V.int := by
      unfold cutV HT.sIx
      show List.take (min (60 : Int).toNat (ns.map V.int).length - 0) (List.drop 0 (ns.map V.int)) = _
      rw [List.drop_zero, Nat.sub_zero, List.length_map, List.map_take, show (60 : Int).toNat = 60 from rfl]
      by_cases h : ns.length ≤ 60
      · rw [Nat.min_eq_right h, List.take_of_length_le (by rw [List.length_map]; exact Nat.le_refl _), List.take_of_length_le (by rw [List.length_map]; exact h)]
      · rw [Nat.min_eq_left (by omega)]
    refine k _ q l (ns.take 60) hq0 (fun b o e => ?_) ⟨upd_same, ?_, ?_, Int.le_refl _, Int.le_refl _⟩
    · rw [upd_ne (ne_of_none e hq0), upd_ne (ne_of_none e hl0), upd_ne (ne_of_none e hp)]
      exact e
    · rw [upd_ne nql, upd_same, ec]
    · rw [List.length_take]; omega
theorem sc_next : FnScope ["pen", "index", "cell_here", "some", "more", "high"] ["pen"] (defScope sNext) := ⟨rfl, rfl, rfl, by decide +kernel, rfl, by decide +kernel, by decide +kernel⟩
structure Blt (mg : Str → Option Value) : Prop where
  lst : mg "list" = none
  int : mg "int" = none
  len : mg "len" = none
theorem ok_next {f : Addr} {fd : FuncData} (F : Fun K "_law_next" "_law_next" sNext f fd) (T : Blt mg) : FnOk P w K mg base CX0 1 f fd ["pen"] spNext := by
  refine F.ok sc_next (fun vs H Q E h => ?_) (fun cdv A outer s H vs Q E hr h => ?_)
  · obtain ⟨p, a, ns, i, n, rfl, _⟩ := h
    rfl
  · obtain ⟨p, a, ns, i, n, rfl, L, hi9, k⟩ := h
    have hu := hu_of hr
    refine ⟨_, (pss_cons (ps_set (i := 1) sc_next.nd rfl (.inl rfl) (pe_ix ix_list (pv 0) (pe_int) (fun _ _ => rfl)))
        (pss_cons (ps_asg (pe_op op_add (pv 1) (pe_int)) (pg_sub (pv 0) (pe_int) set_list))
        (pss_cons (ps_set (i := 2) sc_next.nd rfl (.inl rfl) (pe_op op_add (pe_op op_mul (pv 1) (pe_int)) (pe_int)))
        (pss_cons (ps_if (pt_cmpR (op_neD hr.units) (pe_ix ix_list (pv 0) (pe_int) (fun _ _ => rfl)) (pe_lst pa_nil) (nomark _)) (pss_one (ps_set (i := 2) sc_next.nd rfl (.inl rfl) (pe_ix ix_list (pe_ix ix_list (pv 0) (pe_int) (fun _ _ => rfl)) (pe_op op_modN (pe_callTy call_int1 (by rfl) T.int (by decide +kernel) (pa_cons (pv 1) pa_nil)) (pe_callB call_len_seq (by rfl) T.len PySem.boot_len (pa_cons (pe_ix ix_list (pv 0) (pe_int) (fun _ _ => rfl)) pa_nil))) (fun _ _ => rfl)))) pss_nil)
        (pss_cons (ps_if (PW.pt (pw_and (pt_cmpR op_lt (pv 1) (pe_callB call_len_seq (by rfl) T.len PySem.boot_len (pa_cons (pe_ix ix_list (pv 0) (pe_int) (fun _ _ => rfl)) pa_nil)) (nomark _)) (pw_and1 (pt_cmpR op_ge (pv 2) (pe_op op_pow (pe_int) (pe_int)) (nomark _))))) (pss_one (ps_ret (pv 2))) pss_nil)
        (pss_cons (ps_set (i := 3) sc_next.nd rfl (.inl rfl) (pe_op op_modN (pe_callTy call_int1 (by rfl) T.int (by decide +kernel) (pa_cons (pe_op op_add (pe_op op_add (pe_op op_modN (pe_callTy call_int1 (by rfl) T.int (by decide +kernel) (pa_cons (pv 2) pa_nil)) (pe_int)) (pe_op op_mul (pv 1) (pe_int))) (pe_int)) pa_nil)) (pe_int)))
        (pss_cons (ps_set (i := 4) sc_next.nd rfl (.inl rfl) (pe_op op_modN (pe_callTy call_int1 (by rfl) T.int (by decide +kernel) (pa_cons (pe_op op_add (pe_op op_add (pe_op op_mul (pv 3) (pv 3)) (pe_op op_mul (pv 1) (pe_int))) (pe_int)) pa_nil)) (pe_int)))
        (pss_cons (ps_set (i := 5) sc_next.nd rfl (.inl rfl) (pe_op op_modN (pe_callTy call_int1 (by rfl) T.int (by decide +kernel) (pa_cons (pe_op op_add (pe_op op_add (pe_op op_mul (pv 4) (pv 4)) (pv 3)) (pe_op op_mul (pe_op op_mul (pv 1) (pv 1)) (pe_int))) pa_nil)) (pe_int)))
        (pss_one (ps_ret (pe_op op_add (pe_op op_mul (pe_op op_add (pe_op op_mul (pv 5) (pe_int)) (pv 4)) (pe_int)) (pv 3)))))))))))), ?_⟩
    refine ⟨_, rfl, p, _, _, _, rfl, rfl, SqL.of L.hp, atI_nat (j := 1) rfl, ?_⟩
    refine ⟨_, rfl, _, _, rfl, rfl, _, rfl, p, _, _, 1, rfl, rfl, L.hp, rfl, ?_⟩
    refine ⟨_, rfl, _, _, rfl, rfl, .inr ⟨by decide, by decide⟩, _, _, rfl, rfl, ?_⟩
    have npa : a ≠ p := ne_of L.ha L.hp (by
      intro z
      have z' := HO.lst.inj z
      cases ns with
      | nil => cases z'
      | cons n r => cases z')
    have h1 : upd H p (.lst [.ref a, .int (i + 1), .int n]) p = some (.lst [.ref a, .int (i + 1), .int n]) := upd_same
    have ha : upd H p (.lst [.ref a, .int (i + 1), .int n]) a = some (.lst (ns.map V.int)) := by rw [upd_ne npa]; exact L.ha
    refine ⟨_, rfl, p, _, _, _, rfl, rfl, SqL.of h1, atI_nat (j := 0) rfl, by show 0 ≤ sizeLine; exact Nat.zero_le _, fun q hq => ?_⟩
    have sq : Same (upd H p (.lst [.ref a, .int (i + 1), .int n])) (upd (upd H p (.lst [.ref a, .int (i + 1), .int n])) q (.lst [])) := fun b o e => by rw [upd_ne (ne_of_none e hq)]; exact e
    have h1q := sq _ _ h1
    have haq := sq _ _ ha
    refine ⟨.list (ns.map PyData.int), .list [], .lst (SqL.of haq) (dp_ints ns), .lst (SqL.of upd_same) .nil, shaped_ints ns, by decide, _, rfl, ?_⟩
    have hP : (0 : Int) < 2147483587 := by decide
    have hP2 : (0 : Int) < 2147483563 := by decide
    have hP3 : (0 : Int) < 2147483549 := by decide
    have cut : ∀ {A B : Prop}, (ns ≠ [] → A) → (ns = [] → B) → if (!PyData.eqv (.list (ns.map PyData.int)) (.list [])) = true then A else B := by
      intro A B hA hB
      cases ns with
      | nil =>
        refine iteF ?_
        exact hB rfl
      | cons n r =>
        refine iteT ?_
        exact hA (by simp)
    have fin : ∀ (c : Int) (A : Prop), A → A := fun _ _ h => h
    refine cut (fun hns => ?_) (fun hns => ?_)
    · have hlen : 0 < ns.length := List.length_pos_iff.mpr hns
      have hL : (0 : Int) < (ns.length : Int) := by omega
      obtain ⟨v, hv, hat⟩ := at_some (l := ns.map V.int) (i := i.fmod ((ns.map V.int).length : Int)) (by rw [List.length_map]; exact fm_lo hL) (by rw [List.length_map]; exact fm_hi hL)
      obtain ⟨c, rfl⟩ : ∃ c, v = V.int c := by
        rw [List.getElem?_map] at hv
        cases e : ns[(i.fmod ((ns.map V.int).length : Int)).toNat]? with
        | none => rw [e] at hv; cases hv
        | some c => rw [e] at hv; exact ⟨c, (Option.some.inj hv).symm⟩
      refine ⟨_, rfl, p, _, _, _, rfl, rfl, SqL.of h1q, atI_nat (j := 0) rfl, _, rfl, .inl ⟨_, rfl, ?_⟩⟩
      refine ⟨_, rfl, p, _, _, _, rfl, rfl, SqL.of h1q, atI_nat (j := 0) rfl, a, _, rfl, .inl (SqL.of haq), _, _, rfl, rfl, by rw [List.length_map]; omega, ?_⟩
      refine ⟨a, _, _, _, rfl, rfl, SqL.of haq, hat, ?_⟩
      clear hv hat
      refine ⟨_, rfl, _, rfl, p, _, _, _, rfl, rfl, SqL.of h1q, atI_nat (j := 0) rfl, a, _, rfl, .inl (SqL.of haq), _, _, rfl, rfl, _, rfl, ?_⟩
      refine ite2 (fun hlt => ?_) (fun hlt => ?_)
      · refine ⟨_, rfl, _, _, rfl, rfl, ⟨by decide, by decide, by decide⟩, _, _, rfl, rfl, _, rfl, ?_⟩
        refine ite2 (fun hge => ?_) (fun hge => ?_)
        · refine ⟨_, rfl, k _ _ ?_ sq⟩
          have z : ((10 : Int) ^ (18 : Int).toNat) ≤ c := of_decide_eq_true hge
          exact Int.le_trans (by decide) z
        · refine ⟨_, rfl, .inl ⟨_, rfl, _, _, rfl, rfl, (by show (2147483587 : Int) ≠ 0; decide), _, rfl, _, _, rfl, rfl, .inr ⟨by decide, by decide⟩, _, _, rfl, rfl, _, _, rfl, rfl, .inl ⟨_, rfl, _, _, rfl, rfl, (by show (2147483587 : Int) ≠ 0; decide), ?_⟩⟩⟩
          have s0 := fm_lo (a := (c.fmod 2147483587 + i * 30103 + 79)) hP
          have s1 := fm_hi (a := (c.fmod 2147483587 + i * 30103 + 79)) hP
          refine ⟨_, rfl, _, rfl, _, _, rfl, rfl, .inl ⟨Int.lt_of_lt_of_le (by decide) s0, Int.lt_trans s1 (by decide)⟩, _, rfl, _, _, rfl, rfl, .inr ⟨by decide, by decide⟩, _, _, rfl, rfl, _, _, rfl, rfl, .inl ⟨_, rfl, _, _, rfl, rfl, (by show (2147483563 : Int) ≠ 0; decide), ?_⟩⟩
          have m0 := fm_lo (a := ((c.fmod 2147483587 + i * 30103 + 79).fmod 2147483587 * (c.fmod 2147483587 + i * 30103 + 79).fmod 2147483587 + i * 70039 + 61)) hP2
          have m1 := fm_hi (a := ((c.fmod 2147483587 + i * 30103 + 79).fmod 2147483587 * (c.fmod 2147483587 + i * 30103 + 79).fmod 2147483587 + i * 70039 + 61)) hP2
          refine ⟨_, rfl, _, rfl, _, _, rfl, rfl, .inl ⟨Int.lt_of_lt_of_le (by decide) m0, Int.lt_trans m1 (by decide)⟩, _, rfl, _, _, rfl, rfl, _, rfl, _, rfl, _, _, rfl, rfl, .inl ⟨by have := L.hi; omega, by omega⟩, _, _, rfl, rfl, .inr ⟨by decide, by decide⟩, _, _, rfl, rfl, .inl ⟨_, rfl, _, _, rfl, rfl, (by show (2147483549 : Int) ≠ 0; decide), ?_⟩⟩
          have h0 := fm_lo (a := (((c.fmod 2147483587 + i * 30103 + 79).fmod 2147483587 * (c.fmod 2147483587 + i * 30103 + 79).fmod 2147483587 + i * 70039 + 61).fmod 2147483563 * ((c.fmod 2147483587 + i * 30103 + 79).fmod 2147483587 * (c.fmod 2147483587 + i * 30103 + 79).fmod 2147483587 + i * 70039 + 61).fmod 2147483563 + (c.fmod 2147483587 + i * 30103 + 79).fmod 2147483587 + i * i * 37)) hP3
          refine ⟨_, rfl, _, _, rfl, rfl, .inr ⟨by decide, by decide⟩, _, rfl, _, _, rfl, rfl, _, _, rfl, rfl, .inr ⟨by decide, by decide⟩, _, rfl, _, _, rfl, rfl, k _ _ ?_ sq⟩
          exact Int.add_nonneg (Int.mul_nonneg (Int.add_nonneg (Int.mul_nonneg h0 (by decide)) m0) (by decide)) s0
      · refine ⟨_, rfl, .inl ⟨_, rfl, _, _, rfl, rfl, (by show (2147483587 : Int) ≠ 0; decide), _, rfl, _, _, rfl, rfl, .inr ⟨by decide, by decide⟩, _, _, rfl, rfl, _, _, rfl, rfl, .inl ⟨_, rfl, _, _, rfl, rfl, (by show (2147483587 : Int) ≠ 0; decide), ?_⟩⟩⟩
        have s0 := fm_lo (a := (c.fmod 2147483587 + i * 30103 + 79)) hP
        have s1 := fm_hi (a := (c.fmod 2147483587 + i * 30103 + 79)) hP
        refine ⟨_, rfl, _, rfl, _, _, rfl, rfl, .inl ⟨Int.lt_of_lt_of_le (by decide) s0, Int.lt_trans s1 (by decide)⟩, _, rfl, _, _, rfl, rfl, .inr ⟨by decide, by decide⟩, _, _, rfl, rfl, _, _, rfl, rfl, .inl ⟨_, rfl, _, _, rfl, rfl, (by show (2147483563 : Int) ≠ 0; decide), ?_⟩⟩
        have m0 := fm_lo (a := ((c.fmod 2147483587 + i * 30103 + 79).fmod 2147483587 * (c.fmod 2147483587 + i * 30103 + 79).fmod 2147483587 + i * 70039 + 61)) hP2
        have m1 := fm_hi (a := ((c.fmod 2147483587 + i * 30103 + 79).fmod 2147483587 * (c.fmod 2147483587 + i * 30103 + 79).fmod 2147483587 + i * 70039 + 61)) hP2
        refine ⟨_, rfl, _, rfl, _, _, rfl, rfl, .inl ⟨Int.lt_of_lt_of_le (by decide) m0, Int.lt_trans m1 (by decide)⟩, _, rfl, _, _, rfl, rfl, _, rfl, _, rfl, _, _, rfl, rfl, .inl ⟨by have := L.hi; omega, by omega⟩, _, _, rfl, rfl, .inr ⟨by decide, by decide⟩, _, _, rfl, rfl, .inl ⟨_, rfl, _, _, rfl, rfl, (by show (2147483549 : Int) ≠ 0; decide), ?_⟩⟩
        have h0 := fm_lo (a := (((c.fmod 2147483587 + i * 30103 + 79).fmod 2147483587 * (c.fmod 2147483587 + i * 30103 + 79).fmod 2147483587 + i * 70039 + 61).fmod 2147483563 * ((c.fmod 2147483587 + i * 30103 + 79).fmod 2147483587 * (c.fmod 2147483587 + i * 30103 + 79).fmod 2147483587 + i * 70039 + 61).fmod 2147483563 + (c.fmod 2147483587 + i * 30103 + 79).fmod 2147483587 + i * i * 37)) hP3
        refine ⟨_, rfl, _, _, rfl, rfl, .inr ⟨by decide, by decide⟩, _, rfl, _, _, rfl, rfl, _, _, rfl, rfl, .inr ⟨by decide, by decide⟩, _, rfl, _, _, rfl, rfl, k _ _ ?_ sq⟩
        exact Int.add_nonneg (Int.mul_nonneg (Int.add_nonneg (Int.mul_nonneg h0 (by decide)) m0) (by decide)) s0
    · refine ⟨_, rfl, _, rfl, p, _, _, _, rfl, rfl, SqL.of h1q, atI_nat (j := 0) rfl, a, _, rfl, .inl (SqL.of haq), _, _, rfl, rfl, _, rfl, ?_⟩
      refine ite2 (fun hlt => ?_) (fun hlt => ?_)
      · refine ⟨_, rfl, _, _, rfl, rfl, ⟨by decide, by decide, by decide⟩, _, _, rfl, rfl, _, rfl, ?_⟩
        refine ite2 (fun hge => ?_) (fun hge => ?_)
        · refine ⟨_, rfl, k _ _ ?_ sq⟩
          have z : ((10 : Int) ^ (18 : Int).toNat) ≤ i * 1051 + 53 := of_decide_eq_true hge
          exact Int.le_trans (by decide) z
        · refine ⟨_, rfl, .inl ⟨_, rfl, _, _, rfl, rfl, (by show (2147483587 : Int) ≠ 0; decide), _, rfl, _, _, rfl, rfl, .inr ⟨by decide, by decide⟩, _, _, rfl, rfl, _, _, rfl, rfl, .inl ⟨_, rfl, _, _, rfl, rfl, (by show (2147483587 : Int) ≠ 0; decide), ?_⟩⟩⟩
          have s0 := fm_lo (a := ((i * 1051 + 53).fmod 2147483587 + i * 30103 + 79)) hP
          have s1 := fm_hi (a := ((i * 1051 + 53).fmod 2147483587 + i * 30103 + 79)) hP
          refine ⟨_, rfl, _, rfl, _, _, rfl, rfl, .inl ⟨Int.lt_of_lt_of_le (by decide) s0, Int.lt_trans s1 (by decide)⟩, _, rfl, _, _, rfl, rfl, .inr ⟨by decide, by decide⟩, _, _, rfl, rfl, _, _, rfl, rfl, .inl ⟨_, rfl, _, _, rfl, rfl, (by show (2147483563 : Int) ≠ 0; decide), ?_⟩⟩
          have m0 := fm_lo (a := (((i * 1051 + 53).fmod 2147483587 + i * 30103 + 79).fmod 2147483587 * ((i * 1051 + 53).fmod 2147483587 + i * 30103 + 79).fmod 2147483587 + i * 70039 + 61)) hP2
          have m1 := fm_hi (a := (((i * 1051 + 53).fmod 2147483587 + i * 30103 + 79).fmod 2147483587 * ((i * 1051 + 53).fmod 2147483587 + i * 30103 + 79).fmod 2147483587 + i * 70039 + 61)) hP2
          refine ⟨_, rfl, _, rfl, _, _, rfl, rfl, .inl ⟨Int.lt_of_lt_of_le (by decide) m0, Int.lt_trans m1 (by decide)⟩, _, rfl, _, _, rfl, rfl, _, rfl, _, rfl, _, _, rfl, rfl, .inl ⟨by have := L.hi; omega, by omega⟩, _, _, rfl, rfl, .inr ⟨by decide, by decide⟩, _, _, rfl, rfl, .inl ⟨_, rfl, _, _, rfl, rfl, (by show (2147483549 : Int) ≠ 0; decide), ?_⟩⟩
          have h0 := fm_lo (a := ((((i * 1051 + 53).fmod 2147483587 + i * 30103 + 79).fmod 2147483587 * ((i * 1051 + 53).fmod 2147483587 + i * 30103 + 79).fmod 2147483587 + i * 70039 + 61).fmod 2147483563 * (((i * 1051 + 53).fmod 2147483587 + i * 30103 + 79).fmod 2147483587 * ((i * 1051 + 53).fmod 2147483587 + i * 30103 + 79).fmod 2147483587 + i * 70039 + 61).fmod 2147483563 + ((i * 1051 + 53).fmod 2147483587 + i * 30103 + 79).fmod 2147483587 + i * i * 37)) hP3
          refine ⟨_, rfl, _, _, rfl, rfl, .inr ⟨by decide, by decide⟩, _, rfl, _, _, rfl, rfl, _, _, rfl, rfl, .inr ⟨by decide, by decide⟩, _, rfl, _, _, rfl, rfl, k _ _ ?_ sq⟩
          exact Int.add_nonneg (Int.mul_nonneg (Int.add_nonneg (Int.mul_nonneg h0 (by decide)) m0) (by decide)) s0
      · refine ⟨_, rfl, .inl ⟨_, rfl, _, _, rfl, rfl, (by show (2147483587 : Int) ≠ 0; decide), _, rfl, _, _, rfl, rfl, .inr ⟨by decide, by decide⟩, _, _, rfl, rfl, _, _, rfl, rfl, .inl ⟨_, rfl, _, _, rfl, rfl, (by show (2147483587 : Int) ≠ 0; decide), ?_⟩⟩⟩
        have s0 := fm_lo (a := ((i * 1051 + 53).fmod 2147483587 + i * 30103 + 79)) hP
        have s1 := fm_hi (a := ((i * 1051 + 53).fmod 2147483587 + i * 30103 + 79)) hP
        refine ⟨_, rfl, _, rfl, _, _, rfl, rfl, .inl ⟨Int.lt_of_lt_of_le (by decide) s0, Int.lt_trans s1 (by decide)⟩, _, rfl, _, _, rfl, rfl, .inr ⟨by decide, by decide⟩, _, _, rfl, rfl, _, _, rfl, rfl, .inl ⟨_, rfl, _, _, rfl, rfl, (by show (2147483563 : Int) ≠ 0; decide), ?_⟩⟩
        have m0 := fm_lo (a := (((i * 1051 + 53).fmod 2147483587 + i * 30103 + 79).fmod 2147483587 * ((i * 1051 + 53).fmod 2147483587 + i * 30103 + 79).fmod 2147483587 + i * 70039 + 61)) hP2
        have m1 := fm_hi (a := (((i * 1051 + 53).fmod 2147483587 + i * 30103 + 79).fmod 2147483587 * ((i * 1051 + 53).fmod 2147483587 + i * 30103 + 79).fmod 2147483587 + i * 70039 + 61)) hP2
        refine ⟨_, rfl, _, rfl, _, _, rfl, rfl, .inl ⟨Int.lt_of_lt_of_le (by decide) m0, Int.lt_trans m1 (by decide)⟩, _, rfl, _, _, rfl, rfl, _, rfl, _, rfl, _, _, rfl, rfl, .inl ⟨by have := L.hi; omega, by omega⟩, _, _, rfl, rfl, .inr ⟨by decide, by decide⟩, _, _, rfl, rfl, .inl ⟨_, rfl, _, _, rfl, rfl, (by show (2147483549 : Int) ≠ 0; decide), ?_⟩⟩
        have h0 := fm_lo (a := ((((i * 1051 + 53).fmod 2147483587 + i * 30103 + 79).fmod 2147483587 * ((i * 1051 + 53).fmod 2147483587 + i * 30103 + 79).fmod 2147483587 + i * 70039 + 61).fmod 2147483563 * (((i * 1051 + 53).fmod 2147483587 + i * 30103 + 79).fmod 2147483587 * ((i * 1051 + 53).fmod 2147483587 + i * 30103 + 79).fmod 2147483587 + i * 70039 + 61).fmod 2147483563 + ((i * 1051 + 53).fmod 2147483587 + i * 30103 + 79).fmod 2147483587 + i * i * 37)) hP3
        refine ⟨_, rfl, _, _, rfl, rfl, .inr ⟨by decide, by decide⟩, _, rfl, _, _, rfl, rfl, _, _, rfl, rfl, .inr ⟨by decide, by decide⟩, _, rfl, _, _, rfl, rfl, k _ _ ?_ sq⟩
        exact Int.add_nonneg (Int.mul_nonneg (Int.add_nonneg (Int.mul_nonneg h0 (by decide)) m0) (by decide)) s0
theorem sc_draw : FnScope ["pen", "under", "digit"] ["pen", "under"] (defScope sDraw) := ⟨rfl, rfl, rfl, by decide +kernel, rfl, by decide +kernel, by decide +kernel⟩
theorem ok_draw {f fN : Addr} {fd fdN : FuncData} (F : Fun K "_law_draw" "_law_draw" sDraw f fd) (T : Blt mg) (GN : FnOk P w K mg base CX0 1 fN fdN ["pen"] spNext) (gN : mg "_law_next" = some (.ref fN)) (kN : PySem.W.keepIn K (.ref fN) = true) (bN : Binds K fdN ["pen"] []) :
    FnOk P w K mg base CX0 2 f fd ["pen", "under"] spDraw := by
  refine F.ok sc_draw (fun vs H Q E h => ?_) (fun cdv A outer s H vs Q E hr h => ?_)
  · obtain ⟨p, a, ns, i, n, u, rfl, _⟩ := h
    rfl
  · obtain ⟨p, a, ns, i, n, u, rfl, L, hi9, hu0, hu9, k⟩ := h
    refine ⟨_, (pss_cons (ps_if (pt_cmpR op_lt (pe_ix ix_list (pv 0) (pe_int) (fun _ _ => rfl)) (pv 1) (nomark _)) (pss_one (ps_asg (pe_call GN hr (by rfl) gN kN bN .nil pass0 (pa_cons (pv 0) pa_nil)) (pg_sub (pv 0) (pe_int) set_list))) pss_nil)
        (pss_cons (ps_set (i := 2) sc_draw.nd rfl (.inl rfl) (pe_op op_modN (pe_callTy call_int1 (by rfl) T.int (by decide +kernel) (pa_cons (pe_ix ix_list (pv 0) (pe_int) (fun _ _ => rfl)) pa_nil)) (pv 1)))
        (pss_cons (ps_asg (pe_op op_fdivN (pe_ix ix_list (pv 0) (pe_int) (fun _ _ => rfl)) (pv 1)) (pg_sub (pv 0) (pe_int) set_list))
        (pss_one (ps_ret (pv 2)))))), ?_⟩
    have fin : ∀ (i' n' : Int) (H1 : Hp), Pen H1 p a ns i' n' → i' ≤ i + 1 → (∀ b o, b ≠ p → H b = some o → H1 b = some o) → 0 < u → Q (.int (n'.fmod u)) (upd H1 p (.lst [.ref a, .int i', .int (n'.fdiv u)])) := by
      intro i' n' H1 L1 hi' same hu
      refine k _ i' (n'.fdiv u) _ (fm_lo hu) (fm_hi hu) ⟨upd_same, ?_, L1.len, L1.hi, fd_lo L1.hn hu⟩ hi' (fun b o hb e => by rw [upd_ne hb]; exact same b o hb e)
      rw [upd_ne (ne_of L1.ha L1.hp (by
        intro z
        have z' := HO.lst.inj z
        cases ns with
        | nil => cases z'
        | cons n r => cases z'))]
      exact L1.ha
    have npa : a ≠ p := ne_of L.ha L.hp (by
      intro z
      have z' := HO.lst.inj z
      cases ns with
      | nil => cases z'
      | cons n r => cases z')
    have un : u ≠ 0 := Int.ne_of_gt hu0
    have ub : u.natAbs < 1073741824 := by omega
    refine ⟨_, rfl, p, _, _, _, rfl, rfl, SqL.of L.hp, atI_nat (j := 2) rfl, _, rfl, _, _, rfl, rfl, _, rfl, ?_⟩
    refine ite2 (fun hlt => ?_) (fun hlt => ?_)
    · refine ⟨_, rfl, p, a, ns, i, n, rfl, L, hi9, fun r H1 hr0 s1 => ?_⟩
      have e1 := s1 _ _ upd_same
      have ea := s1 _ _ (by rw [upd_ne npa]; exact L.ha)
      refine ⟨_, rfl, p, _, _, 2, rfl, rfl, e1, rfl, ?_⟩
      have e2 : upd H1 p (.lst (([.ref a, .int (i + 1), .int n] : List V).set 2 (.int r))) p = some (.lst [.ref a, .int (i + 1), .int r]) := upd_same
      refine ⟨_, rfl, p, _, _, _, rfl, rfl, SqL.of e2, atI_nat (j := 2) rfl, .inl ⟨_, rfl, _, rfl, _, _, rfl, rfl, un, ?_⟩⟩
      refine ⟨_, rfl, p, _, _, _, rfl, rfl, SqL.of e2, atI_nat (j := 2) rfl, _, rfl, _, _, rfl, rfl, ⟨un, ub⟩, ?_⟩
      refine ⟨_, rfl, p, _, _, 2, rfl, rfl, e2, rfl, _, rfl, ?_⟩
      exact fin (i + 1) r _ ⟨e2, by rw [upd_ne npa]; exact ea, L.len, by have := L.hi; omega, hr0⟩ (Int.le_refl _) (fun b o hb e => by rw [upd_ne hb]; exact s1 _ _ (by rw [upd_ne hb]; exact e)) hu0
    · refine ⟨_, rfl, p, _, _, _, rfl, rfl, SqL.of L.hp, atI_nat (j := 2) rfl, .inl ⟨_, rfl, _, rfl, _, _, rfl, rfl, un, ?_⟩⟩
      refine ⟨_, rfl, p, _, _, _, rfl, rfl, SqL.of L.hp, atI_nat (j := 2) rfl, _, rfl, _, _, rfl, rfl, ⟨un, ub⟩, ?_⟩
      refine ⟨_, rfl, p, _, _, 2, rfl, rfl, L.hp, rfl, _, rfl, ?_⟩
      exact fin i n H L (by omega) (fun b o hb e => e) hu0
end
end Own
/-! Errors held as values: isinstance of one, one whose own __init__ calls super().__init__, its field. -/
namespace Own
open PySem PySem.Spec PyProof.Rows L2

/-- an error of the class at D stands at a, with no dict of its own or with one -/
def ErrAt (H : Hp) (a D : Addr) : Prop := H a = some (ExO (.ref D) a) ∨ ∃ (d : Addr) (fs : List (Str × V)), H a = some (exo a D (some d)) ∧ H d = some (exd d fs)
theorem err_inst {P : Program} {w : World} {H : Hp} {h : Heap} {a D : Addr} (ok : HOk P w H h) (e : ErrAt H a D) : ∃ (oe : Obj) (od : Option Obj), PySem.W.InstAt h a oe D od := by
  rcases e with e | ⟨d, fs, e, ed⟩
  · have x := ok a _ e
    obtain ⟨⟨oe, vs, ho, hz, hd, _, _, _⟩, _, _⟩ := x
    obtain ⟨oc, odd, oda, osl⟩ := oe
    obtain ⟨h1, h2⟩ := hz
    dsimp only at h1 h2 hd
    subst h1 h2 hd
    exact ⟨_, none, ho, rfl, rfl, trivial⟩
  · obtain ⟨t1, ho⟩ := exo_at ok e
    obtain ⟨mA, ⟨o, es, ep, hd, _⟩, _⟩ := exd_at ok ed
    exact ⟨_, some o, ho, rfl, rfl, hd⟩
def rIsX (K : PySem.W.Frag) : List V → Hp → VK → Prop := fun xs H Q => ∃ (a D : Addr) (c : V) (cv : Value) (b : Bool), xs = [.ref a, c] ∧ ErrAt H a D ∧ ExcC K D ∧ (∀ u, RelV c u → u = cv) ∧ PySem.W.kitOne K (.ref D) cv = some b ∧ Q (.bl b) H
theorem call_isX {X : Cx} : CallR X (.builtin "isinstance") (rIsX X.K) := by
  intro pins s σ H xs us Q I r h
  obtain ⟨a, D, c, cv, b, rfl, ea, C, hcv, e, q⟩ := h
  cases r with
  | cons rx rr =>
    cases rr with
    | cons rt rr =>
      cases rr
      cases rx
      cases hcv _ rt
      obtain ⟨oe, od, J⟩ := err_inst I.hok ea
      obtain ⟨cd, hc, _⟩ := PySem.W.any_some C.hd
      exact PySem.W.kia_one (PySem.W.kitx_exc (by rw [hc]; rfl) C.hg C.hk C.hs C.ha C.hn C.ht C.hm) I.kIn J e (fun z => nomatch z) fun tk => ⟨.bl b, H, I.kept (t' := tk) fun _ _ z => z, rfl, q⟩

/-! ### an error whose __init__ is: super().__init__(f'..{line}..'); self.line = line -/
section
open PySem.W PySem.Calls PySem.HandSPX
def topX (i : Nat) : Stmt := PySem.Challenge.pw_seencursors_k40_errors.main.body.getD i (.Pass ⟨0, 0, 0, 0⟩)
abbrev sPI : Stmt := inClass (topX 2) 0
/-- what the written part tells of the class at C and of its __init__ at fI -/
structure PeTxt (P : Program) (K : Frag) (mg : Str → Option Value) (C fI : Addr) : Prop where
  ox : OexC K C
  iC : findIn K (.ref C) "__init__" = some (some (.ref fI))
  tI : typeIn K (.ref fI) = some (.type "function")
  noN : findIn K (.ref C) "line" = some none
  hdC : hasDictIn K C = true
  sup : ks_superIn K C C "__init__" = some (some (.builtin "ValueError.__init__"))
  sub : subIn K (.ref C) (.type "ValueError") = some true
  own : mroIn K C (.ref C) = some true
  tp : nsIn K cStatics "thirdparty.any" = some none
  ns : mg "super" = none
  fn : ∃ (oc : Value) (od : Option Addr) (doc pm : Value) (an : Option Addr) (ct : Value) (osl : Array (Option Value)) (cda cc : Addr) (ccl cl : Value) (cdd cld : Option Addr) (vs : Array Value) (ccs csl : Array (Option Value)) (file : Str) (tf : Tok),
    K.lookup fI = some ⟨oc, od, .func (ksFn "__init__" "ParseError.__init__" (defArgs sPI) (defBody sPI) (defScope sPI) .none .none doc pm an (.ref cda) ct cc), osl⟩ ∧
    codeIn K (.ref cda) "ParseError.__init__" = true ∧ K.lookup cda = some ⟨ccl, cdd, .fields vs, ccs⟩ ∧ vs[2]? = some (.str file tf) ∧ ((P.main.file : Str) == file) = true ∧
    K.lookup cc = some ⟨cl, cld, .cell (some (.ref C)), csl⟩ ∧ (P.main.scope.names.lookup ("super" : Str)).isSome = false
/-- what such an __init__ leaves: the error with a dict of its own that holds line -/
structure PeEnd (h h' : Heap) (x C dx t1 : Addr) (v : Value) : Prop where
  keep : ∀ b o, b ≠ x → h.get? b = some o → h'.get? b = some o
  obj : h'.get? x = some { cls := .ref C, dict := some dx, data := .fields #[.ref t1, .none, .none, .none, .bool false, .none] }
  dbig : h.objs.size ≤ dx
  dne : dx ≠ x
  ns : h'.Ns1 dx (fun y => if y = "line" then some v else none)
section
variable {prog : Program} {w : World} {A : Around} {R : Result → Shared → Prop} {s : Shared} {K : Frag} {mg : Str → Option Value} {C fI : Addr}
theorem str_app_len (a b : Str) : (a ++ b).length = a.length + b.length := by
  show (a.cps ++ b.cps).size = _
  rw [Array.size_append]
  rfl
theorem call_mw {E : Value → Shared → Prop} {h : Heap} {g : Array GenState} {d : Drawn} {t : Nat} {os : OsState} {nm q : Str} {N : Addr} {bs bm : List Value} {hdct : Bool} {sn : List Str} {sub : List Value} {ab : Bool} {col : Option Bool} {dd : Option Addr} {k0 k1 k2 k3 k5 : Option Value}
    {u e t0 : Addr} {ws : List Value} {Q : Value → Shared → Prop} (hC : h.get? C = some (excClassObj nm q C N bs bm hdct sn sub ab col dd k0 k1 k2 k3 k5 "ValueError.__new__")) (he : h.get? e = some (excO C t0)) (hu : KxsAt "ValueError.__init__" u e h) (hw : ws.length ≤ sizeLine)
    (hq : ∀ h' t1, (∀ b o, b ≠ e → h.get? b = some o → h'.get? b = some o) → h'.get? e = some (excO C t1) → Q .none ⟨h', g, d, t, os⟩) : wpAny (model prog w) A (call (.ref u) ws) Q E ⟨h, g, d, t, os⟩ := by
  refine wpAny_call (codeAny_of_tree ?_)
  show wpAny _ A.in1 (callAny (.ref u) ⟨ws, []⟩) _ _ _
  unfold callAny
  refine wpAny_bind (wpAny_load hu ?_)
  have z : (Value.type "method-wrapper" == Value.type "method" || Value.type "method-wrapper" == Value.type "builtin_function_or_method" || Value.type "method-wrapper" == Value.type "method-wrapper") = true := by decide
  simp only [kxs_mw, z, if_true]
  refine KFB.if_so (by decide) (wpAny_bind (check_bound_init F.excBase_ValueError.toExcCallFacts hC he rfl (wpAny_bind (wpAny_pure (wpAny_pure ⟨plainId_quiet F.excBase_ValueError.init.plain _, codeAny_builtin F.excBase_ValueError.initEntry ?_⟩)))))
  exact exc_init_tree (cls := .ref C) (t0 := t0) (dv := none) (c2 := .none) (c3 := .none) (b4 := .bool false) he hw fun h' k e' _ => hq h' _ k e'
theorem parse_init (T : PeTxt prog K mg C fI) {x t0 : Addr} {n : Int} {tn : Tok} (X : K.In s.heap) (G : s.heap.Ns mainGlobals mg) (B : ∃ mb, s.heap.Ns builtinsNs mb ∧ ∀ y : Str, y ≠ "__name__" → mb y = bootBuiltins y) (hlim : s.heap.NoLimit)
    (hx : s.heap.get? x = some (excO C t0)) (hnx : K.lookup x = none) (hxC : x ≠ C) (hroom : A.depth < recursionLimit) (n0 : 0 ≤ n) (n9 : n < 10 ^ 10)
    (hq : ∀ h' tk dx t1 (u : Value), (∃ t, u = .int n t) → PeEnd s.heap h' x C dx t1 u → R (.ok (.ret .none)) { s with heap := h', toks := tk }) :
    codeAny (model prog w) A (.call (.ref fI) ⟨[.ref x, .int n tn], []⟩) R s := by
  obtain ⟨oc, od, doc, pm, an, ct, osl, cda, cc, ccl, cl, cdd, cld, vs, ccs, csl, file, tf, lf, lcd, lc, hvs, hfile, lcc, htop⟩ := T.fn
  obtain ⟨nm, q, N, bs, bm, sn, sub, ab, col, dd, k0, k1, k2, k3, k5, hC, hbm⟩ := T.ox.cls
  have hcl : clsIn K C = some { name := nm, bases := bs, mro := .ref C :: bm, ns := N, qualname := q, hasDict := true, slotNames := sn, subclasses := sub, abstract := ab, collection := col, hasDel := false } := by unfold clsIn; rw [hC] <;> rfl
  obtain ⟨mb, hmb, hblt⟩ := B
  refine ks_codeAny_call_defAt (binds := [("self", .ref x), ("line", .int n tn)]) hroom (X _ _ lf) rfl hlim (codeRec_of X lcd) rfl (.of_eq (by rfl)) (by show ∀ y ∈ (defScope sPI).names, y.2 ≠ .cell; decide +kernel) (fun y hy => by rcases List.mem_cons.mp hy with rfl | hy; rfl; rcases List.mem_singleton.mp hy with rfl; rfl) (fun h₁ hns k₁ => ?_) rfl rfl rfl
  have X₁ := X.keeps k₁
  have hx₁ := k₁ _ _ hx
  refine ks_wpAt_execs_cons (ks_wpAt_Expr_any (ks_wpAt_MethodCall ?_) rfl rfl)
  have cD := X₁ _ _ hC
  refine ks_wpAt_super_base rfl rfl (by decide) rfl (X₁ _ _ lf) rfl rfl rfl (X₁ _ _ lc) rfl hvs hfile htop ?_
  refine ks_loadName_global rfl rfl (loadGlobal_builtin (mg := mg) (mb := mb) (G.keeps k₁) T.ns (hmb.keeps k₁) ((hblt _ (by decide +kernel)).trans (by rfl)) ⟨rfl, ?_⟩)
  refine wpAny_loadName_free rfl rfl rfl ⟨_, X₁ _ _ lcc, rfl⟩ ?_
  refine wpAny_loadName_local rfl rfl hns (v := .ref x) (by rfl) ?_
  refine ks_wpAny_isType_cls cD rfl ⟨rfl, ?_⟩
  refine ks_wpAny_call_super cD rfl hx₁ rfl (fun c e => by cases e) (looks_mroIn X₁ T.own) (fun h₂ e₂ k₂ => ?_)
  have X₂ := X₁.keeps k₂
  have hx₂ := k₂ _ _ hx₁
  refine kxs_getMethod kxs_ValueError e₂ (looks_opaque X₂ T.tp) (l₀ := .ref C :: bm) (fun A Q E s k q => wpAny_bind ((looks_clsIn X₂ hcl) A _ E s k (wpAny_pure q))) rfl X₂ ?hm ?hI hxC (by decide) ?_
  case hm =>
    have z := T.sup
    unfold ks_superIn at z
    rw [hcl] at z
    exact z
  case hI => exact (InstAt.type (od := none) ⟨hx₂, rfl, rfl, trivial⟩).andThen (looks_subIn X₂ T.sub)
  have X₃ : K.In (h₂.push (kxs_mw "ValueError.__init__" x)) := X₂.keeps fun b o e => Heap.get?_push_of_some _ e
  have k₃ : ∀ b o, h₁.get? b = some o → (h₂.push (kxs_mw "ValueError.__init__" x)).get? b = some o := fun b o e => Heap.get?_push_of_some _ (k₂ b o e)
  have hu : KxsAt "ValueError.__init__" h₂.objs.size x (h₂.push (kxs_mw "ValueError.__init__" x)) := Heap.get?_push_at rfl rfl
  refine kxs_callWith (i := "ValueError.__init__") (x := x) rfl ?_
  show wpAny _ _ (evalArgs _ true ((false, eval _ _) :: backTo _ (starEach [] _)) []) _ _ _
  refine evalArgs_plain (Calls.spliced_cons ?_)
  have len₁ : (Str.empty ++ Str.ofString "no such text, from line " ++ Str.ofString (toString n)).length ≤ 100 := by
    have z := toString_length_le n0 (k := 10) (by decide) n9
    rw [str_app_len, str_app_len]
    have z1 : Str.empty.length = 0 := rfl
    have z2 : (Str.ofString "no such text, from line ").length = 24 := by decide +kernel
    omega
  have bound₁ := Nat.le_trans len₁ (by decide : 100 ≤ sizeLine)
  have bound₂ : (Str.empty ++ Str.ofString "no such text, from line " ++ Str.ofString (toString n) ++ Str.ofString " on").length ≤ sizeLine := by
    rw [str_app_len]
    have z2 : (Str.ofString " on").length = 3 := by decide +kernel
    rw [sizeLine_eq]
    omega
  refine wpAny_JoinedStr ?_
  refine Calls.Constant_str ⟨_, _, rfl, by decide +kernel, ?_⟩
  refine wpAny_FormattedValue_plain (wpAny_Name (wpAny_loadName_local rfl rfl (hns.keeps k₃) (v := .int n tn) (by rfl) ?_) (by decide))
  refine wpAny_formatField_int (by
    have z : n.natAbs < 10 ^ 10 := by omega
    by_cases y : n.natAbs = 0
    · rw [y]; decide
    · exact Nat.lt_of_lt_of_le ((Nat.log2_lt y).mpr (Nat.lt_of_lt_of_le z (by decide : 10 ^ 10 ≤ 2 ^ 34))) (by decide)) ⟨_, _, rfl, ?_, ?_⟩
  · exact bound₁
  · refine Calls.Constant_str ⟨_, _, rfl, bound₂, bound₂, ?_⟩
    refine Calls.spliced_nil ⟨hu, ?_⟩
    refine call_mw (X₃ _ _ hC) (Heap.get?_push_of_some _ hx₂) hu (by show 1 ≤ sizeLine; rw [sizeLine_eq]; omega) (fun h₄ t1 k₄ hx₄ => ?_)
    have hLx : s.heap.objs.size ≠ x := Nat.ne_of_gt (Heap.lt_size hx)
    have X₄ : K.In h₄ := fun b o e => k₄ b o (fun z => by rw [z, hnx] at e; cases e) (X₃ b o e)
    have hn₄ : h₄.Ns s.heap.objs.size (fun y => List.lookup y (List.reverse [(("self" : Str), Value.ref x), (("line" : Str), Value.int n tn)])) := (hns.keeps k₃).at fun o z => k₄ _ _ hLx z
    have big₄ : s.heap.objs.size ≤ h₄.objs.size := by
      obtain ⟨o, es, ep, z, _⟩ := hn₄
      exact Nat.le_of_lt (Heap.lt_size z)
    show PySem.wpAt _ _ _ (execs _ _) _ _ _
    refine ks_wpAt_execs_cons (wpAt_of_wpAny (plainObj_wpAny_Assign_Attribute ?_ rfl))
    refine wpAny_Name (wpAny_loadName_local rfl rfl hn₄ (v := .int n tn) (by rfl) ?_) (by decide)
    refine wpAny_Name (wpAny_loadName_local rfl rfl hn₄ (v := .ref x) (by rfl) ?_) (by decide)
    refine set_plain X₄ (od := none) ⟨hx₄, rfl, rfl, trivial⟩ T.ox.sa ?_
    refine PySem.HandSPX.exc_osa X₄ hx₄ hcl (show refsVE (.ref C :: bm) = true from hbm) rfl T.noN (fun h₅ tk₅ dx k₅ dn dne hx₅ hn₅ => ?_)
    show PySem.wpAt _ _ _ (execs _ _) _ _ _
    refine wpAt_of_wpAny (wpAny_execs_nil ?_)
    exact hq h₅ _ dx t1 _ ⟨tn, rfl⟩ ⟨fun b o hb e => k₅ b o hb (k₄ b o hb (k₃ b o (k₁ b o e))), hx₅, Nat.le_trans big₄ dn, dne, hn₅⟩
end
end
/-- an error gets its dict -/
theorem err_grow {X : Cx} {pins : List (Addr × Obj)} {σ : L2.St} {H : Hp} {s : Shared} {a C t1 dx : Addr} {h' : Heap} {t' : Nat} {fs : List (Str × V)} {mA : Str → Option Value} (I : Inv X pins σ H s) (ea : H a = some (exo a C none)) (kp : ∀ b o, b ≠ a → s.heap.get? b = some o → h'.get? b = some o)
    (ha : h'.get? a = some { cls := .ref C, dict := some dx, data := .fields #[.ref t1, .none, .none, .none, .bool false, .none] }) (big : s.heap.objs.size ≤ dx) (dxa : dx ≠ a) (hn : h'.Ns1 dx mA) (hr : ∀ g, RelO (fs.lookup g) (mA g)) :
    Inv X pins σ (upd (upd H dx (exd dx fs)) a (exo a C (some dx))) { s with heap := h', toks := t' } := by
  have d0 : H dx = none := I.hok.fresh big
  have lt : ∀ {b : Addr} {o : Obj}, s.heap.get? b = some o → b ≠ dx := fun z => Nat.ne_of_lt (Nat.lt_of_lt_of_le (Heap.lt_size z) big)
  have an : ∀ {b : Addr}, H b = none → b ≠ a := fun z y => by rw [y, ea] at z; cases z
  have oa : ∀ {b : Addr} {u : HO}, H b = some u → exo a C none ≠ u → b ≠ a := fun z ne => at_ne ea z ne
  have od : ∀ {b : Addr} {u : HO}, H b = some u → b ≠ dx := fun z => ne_of_none z d0
  refine I.un (t' := t') ⟨fun b o z n _ _ => kp b o (an n) z, fun b o z n _ _ => ⟨o.slots, kp b o (an n) z⟩, fun b o z n _ => ?_, fun b o z _ => ?_, fun b xs z => ?_, fun b o v z => ?_, fun b ps z => ⟨#[], ?_⟩⟩ fun b o z => ?_
  · rw [upd_ne (an n), upd_ne (lt z)]; exact n
  · by_cases hb : b = a
    · subst hb; exact ⟨_, ha⟩
    · exact ⟨o, kp b o hb z⟩
  · rw [upd_ne (oa z exo_tup), upd_ne (od z)]; exact z
  · rw [upd_ne (oa z exo_frz), upd_ne (od z)]; exact z
  · rw [upd_ne (oa z exo_tbl), upd_ne (od z), z]; simp
  · by_cases hb : b = a
    · subst hb; rw [upd_same] at z; cases z; exact exo_ok ha
    · rw [upd_ne hb] at z
      by_cases hd : b = dx
      · subst hd; rw [upd_same] at z; cases z; exact exd_ok hn hr
      · rw [upd_ne hd] at z
        refine (I.hok b o z).stay (fun c v hc y => kp c v ?_ y) (fun c hc => ?_) (fun c xs hc => ?_)
        · rcases hc with hc | hc
          · rw [hc]; exact hb
          · exact oa hc exo_own
        · rw [upd_ne (oa hc exo_own), upd_ne (od hc)]; exact hc
        · rw [upd_ne (oa hc exo_tup), upd_ne (od hc)]; exact hc
theorem rel_line {v : V} {v' : Value} (r : RelV v v') (f : Str) : RelO (List.lookup f [(("line" : Str), v)]) (if f = "line" then some v' else none) := relO_put (fs := []) (mA := fun _ => none) r (fun _ => trivial) f
/-- ParseError(e) as a value -/
theorem pe_parse {X : Cx} {C fI : Addr} {k : Nat} {e : Expr} {te : TE} {p pos : Pos} (T : PeTxt X.prog X.K X.mg C fI) (hm : X.mg "ParseError" = some (.ref C)) (hr : Room (k + 1) X.A) (hg : Gl X "ParseError") (he : PE X e te) (hs : starEach [e] X.env = (false, eval e X.env) :: starEach [] X.env := by rfl) :
    PE X (.Call (.Name "ParseError" p) [e] [] pos) (fun σ H Q => te σ H fun v H1 => ∃ n : Int, v = .int n ∧ 0 ≤ n ∧ n < 10 ^ 10 ∧ ∀ a d, H1 a = none → H1 d = none → d ≠ a → Q (.ref a) (upd (upd H1 d (exd d [("line", .int n)])) a (exo a C (some d)))) := by
  refine ⟨fun pins s σ H Q I h => ?_⟩
  obtain ⟨nm, q, N, bs, bm, sn, sub, ab, col, dd, k0, k1, k2, k3, k5, hC, hbm⟩ := T.ox.cls
  refine wpAny_Call_Name_kw (ld_glob I hg hm ?_ (by decide))
  refine PySem.W.callWith_K (h₀ := X.base) I.ok.mod.kin T.ox.kC ?_ hs (by rfl)
  rw [hs]
  show wpAny _ _ (spliced ((false, eval e X.env) :: backTo pos (starEach [] X.env))) _ _ s
  refine Calls.spliced_cons (thn (he.run pins s σ H _ I h) fun u s1 ⟨v, H1, I1, r1, n, ev, n0, n9, q1⟩ => ?_)
  subst ev
  obtain ⟨tn, rfl⟩ := r1
  refine Calls.spliced_nil ⟨I1.kIn, ?_⟩
  show wpAny _ _ (call (.ref C) [Value.int n tn]) _ _ _
  have G1 := I1.mod.glob.keeps I1.bk
  have B1 : ∃ mb, s1.heap.Ns builtinsNs mb ∧ ∀ y : Str, y ≠ "__name__" → mb y = bootBuiltins y := by
    obtain ⟨mb, z1, z2⟩ := I1.mod.blt
    exact ⟨mb, z1.keeps I1.bk, z2⟩
  have hlim := I1.nolimit
  have hdp := hr.dp
  obtain ⟨hp, g, dr, tk, os⟩ := s1
  have hn : H1 (hp.objs.size + 1) = none := I1.hok.fresh (Nat.le_succ _)
  have kk : ∀ b o, hp.get? b = some o → ((hp.push (PySem.W.kdv_tup [Value.int n tn])).push (PySem.HandSPX.excO C hp.objs.size)).get? b = some o := fun b o z => Heap.get?_push_of_some _ (Heap.get?_push_of_some _ z)
  have hget : ((hp.push (PySem.W.kdv_tup [Value.int n tn])).push (PySem.HandSPX.excO C hp.objs.size)).get? (hp.objs.size + 1) = some (PySem.HandSPX.excO C hp.objs.size) := by heap_get
  have I2 : Inv X pins σ (upd H1 (hp.objs.size + 1) (exo (hp.objs.size + 1) C none)) ⟨(hp.push (PySem.W.kdv_tup [Value.int n tn])).push (PySem.HandSPX.excO C hp.objs.size), g, dr, tk, os⟩ :=
    I1.laid (t' := tk) (a := hp.objs.size + 1) (o := exo (hp.objs.size + 1) C none) (h' := (hp.push (PySem.W.kdv_tup [Value.int n tn])).push (PySem.HandSPX.excO C hp.objs.size)) kk (Nat.le_succ _) (exo_ok hget)
  have hnK : X.K.lookup (hp.objs.size + 1) = none := by
    cases z : X.K.lookup (hp.objs.size + 1) with
    | none => rfl
    | some o =>
      have y : hp.get? (hp.objs.size + 1) = some o := I1.kIn _ _ z
      exact absurd (Nat.lt_of_succ_lt (Heap.lt_size y)) (Nat.lt_irrefl _)
  have hxC : hp.objs.size + 1 ≠ C := fun z => by rw [z, hC] at hnK; cases hnK
  refine wpAny_call (PySem.HandSPX.call_own F.excBase_ValueError (fun Y => PySem.HandSPX.refsVE_contains Y bm hbm) (I1.kIn _ _ hC) (PySem.W.looks_findIn I1.kIn T.iC) (fun self => PySem.W.bind_fn I1.kIn self T.tI) (by show 1 ≤ sizeLine; rw [sizeLine_eq]; omega) ?_)
  refine parse_init T (s := ⟨(hp.push (PySem.W.kdv_tup [Value.int n tn])).push (PySem.HandSPX.excO C hp.objs.size), g, dr, tk, os⟩) I2.kIn (G1.keeps kk) (by
    obtain ⟨mb, z1, z2⟩ := B1
    exact ⟨mb, z1.keeps kk, z2⟩) (hlim.keeps kk) hget hnK hxC ?room n0 n9 ?_
  case room =>
    have z := (hr.make C [Value.int n tn] []).dp
    omega
  rintro h' tk' dx t1 u ⟨t, rfl⟩ Z
  have I3 := err_grow (t' := tk') (fs := [(("line" : Str), V.int n)]) I2 upd_same Z.keep Z.obj Z.dbig Z.dne Z.ns (rel_line ⟨t, rfl⟩)
  have hd0 : H1 dx = none := by
    have z := I2.hok.fresh Z.dbig
    rw [upd_ne Z.dne] at z
    exact z
  have eh : upd (upd (upd H1 (hp.objs.size + 1) (exo (hp.objs.size + 1) C none)) dx (exd dx [(("line" : Str), V.int n)])) (hp.objs.size + 1) (exo (hp.objs.size + 1) C (some dx)) = upd (upd H1 dx (exd dx [(("line" : Str), V.int n)])) (hp.objs.size + 1) (exo (hp.objs.size + 1) C (some dx)) := by
    funext b
    by_cases hb : b = hp.objs.size + 1
    · rw [hb, upd_same, upd_same]
    · rw [upd_ne hb, upd_ne hb]
      by_cases hd : b = dx
      · rw [hd, upd_same, upd_same]
      · rw [upd_ne hd, upd_ne hd, upd_ne hb]
  rw [eh] at I3
  exact ⟨rfl, .ref (hp.objs.size + 1), _, I3, rfl, q1 _ _ hn hd0 Z.dne⟩
/-- e.line, e an error with a dict that has it -/
theorem pe_line {X : Cx} {e : Expr} {te : TE} {pos : Pos} (he : PE X e te) (hb : attributeBase e "line" X.env (eval e X.env) = eval e X.env := by rfl) :
    PE X (.Attribute e "line" pos) (fun σ H Q => te σ H fun x H1 => ∃ (a C d : Addr) (fs : List (Str × V)) (v : V), x = .ref a ∧ H1 a = some (exo a C (some d)) ∧ H1 d = some (exd d fs) ∧ fs.lookup ("line" : Str) = some v ∧ ExcC X.K C ∧ PySem.W.findIn X.K (.ref C) "line" = some none ∧ Q v H1) := by
  refine ⟨fun pins s σ H Q I h => ?_⟩
  refine attr_of hb (thn (he.run pins s σ H _ I h) fun u s1 hh => ?_)
  obtain ⟨x, H1, I1, rx, a, C, d, fs, v, ex, ea, ed, el, T, noN, q⟩ := hh
  subst ex
  obtain rfl : u = Value.ref a := rx
  obtain ⟨t1, ho⟩ := exo_at I1.hok ea
  obtain ⟨mA, hns, hr⟩ := exd_at I1.hok ed
  obtain ⟨od, hod, hl⟩ := lookIn_ns hns
  obtain ⟨w', hw, rw'⟩ := RelO.some_of (v := v) (o := mA "line") (by rw [← el]; exact hr "line")
  exact PySem.HandSPX.exc_get I1.kIn (ox := _) (od := some od) ⟨ho, rfl, rfl, hod⟩ T.hg T.hk T.hs (PySem.W.findObj_own T.hd noN rfl (by rw [hl, hw])) (handed_of rw') ⟨v, H1, I1.tok _, rw', q⟩
end Own
/-! The law of the errors: its own defs, and the law. -/
namespace Own
open PySem L2
abbrev sMade : Stmt := top 34
abbrev sKinds : Stmt := top 35
abbrev sLaw : Stmt := top 36

/-- the classes' names in the order in which the law asks for them; the last two: ParseError, CursorError -/
def nm (i : Nat) : Str := ((["DuplicateName", "Endless", "InvalidCall", "InvalidHash", "InvalidLine", "InvalidMarks", "InvalidMove", "InvalidName", "InvalidNumber", "InvalidPairs", "InvalidPlace", "InvalidRoad", "InvalidRule", "InvalidRun", "InvalidShape",
  "InvalidStory", "InvalidTrace", "InvalidWidth", "Mismatch", "Moving", "NothingToUndo", "Over", "UnknownChange", "UnknownCursor", "UnknownLabel", "UnknownName", "UnknownShape", "ParseError", "CursorError"] : List Str).getD i "")
def bVE : List Value := [.type "ValueError", .type "Exception", .type "BaseException", .type "object"]
structure T40 (P : Program) (K : PySem.W.Frag) (mg : Str → Option Value) (c : Nat → Addr) (fI : Addr) : Prop where
  g : ∀ i, i < 29 → mg (nm i) = some (.ref (c i))
  k : ∀ i, i < 29 → PySem.W.keepIn K (.ref (c i)) = true
  q : ∀ i, i < 29 → i ≠ 27 → PySem.W.excIn K (c i) bVE "ValueError.__new__" = true
  e : ∀ i, i < 29 → ExcC K (c i)
  one : ∀ i j, i < 29 → j < 29 → PySem.W.kitOne K (.ref (c i)) (.ref (c j)) = some (decide (i = j ∨ j = 28))
  val : ∀ i, i < 29 → PySem.W.kitOne K (.ref (c i)) (.type "ValueError") = some true
  pe : PeTxt P K mg (c 27) fI
  isinstance : mg "isinstance" = none
  range : mg "range" = none
  ve : mg "ValueError" = none

/-- errors of the classes with these numbers -/
inductive Errs (c : Nat → Addr) (H : Hp) : List V → List Nat → Prop where
  | nil : Errs c H [] []
  | cons {a : Addr} {i : Nat} {vs : List V} {is : List Nat} (h : ErrAt H a (c i)) (r : Errs c H vs is) : Errs c H (.ref a :: vs) (i :: is)
theorem ErrAt.same {H H' : Hp} {a D : Addr} (s : Same H H') (h : ErrAt H a D) : ErrAt H' a D := by
  rcases h with h | ⟨d, fs, h, h'⟩
  · exact .inl (s _ _ h)
  · exact .inr ⟨d, fs, s _ _ h, s _ _ h'⟩
theorem Errs.same {c : Nat → Addr} {H H' : Hp} (s : Same H H') : ∀ {vs : List V} {is : List Nat}, Errs c H vs is → Errs c H' vs is
  | _, _, .nil => .nil
  | _, _, .cons h r => .cons (h.same s) (Errs.same s r)
theorem Errs.app {c : Nat → Addr} {H : Hp} : ∀ {vs ws : List V} {is js : List Nat}, Errs c H vs is → Errs c H ws js → Errs c H (vs ++ ws) (is ++ js)
  | _, _, _, _, .nil, s => s
  | _, _, _, _, .cons h r, s => .cons h (Errs.app r s)
theorem Errs.len {c : Nat → Addr} {H : Hp} : ∀ {vs : List V} {is : List Nat}, Errs c H vs is → vs.length = is.length
  | _, _, .nil => rfl
  | _, _, .cons _ r => congrArg (· + 1) (Errs.len r)
theorem Errs.at {c : Nat → Addr} {H : Hp} : ∀ {vs : List V} {is : List Nat} {k i : Nat}, Errs c H vs is → is[k]? = some i → ∃ a, vs[k]? = some (.ref a) ∧ ErrAt H a (c i)
  | _, _, 0, i, .cons h r, e => ⟨_, rfl, by cases e; exact h⟩
  | _, _, k + 1, i, .cons h r, e => by
    obtain ⟨a, e1, e2⟩ := Errs.at (k := k) r e
    exact ⟨a, e1, e2⟩
theorem ErrAt.mut {H : Hp} {a D p : Addr} {xs ys : List V} (hp : H p = some (.lst xs)) (h : ErrAt H a D) : ErrAt (upd H p (.lst ys)) a D := by
  rcases h with h | ⟨d, fs, h, h'⟩
  · exact .inl (by rw [upd_ne (ne_of h hp (fun z => by have z' : HO.ext _ = HO.lst xs := z; cases z'))]; exact h)
  · exact .inr ⟨d, fs, by rw [upd_ne (ne_of h hp (fun z => by have z' : HO.ext _ = HO.lst xs := z; cases z'))]; exact h, by rw [upd_ne (ne_of h' hp (fun z => by have z' : HO.ext _ = HO.lst xs := z; cases z'))]; exact h'⟩
theorem Errs.mut {c : Nat → Addr} {H : Hp} {p : Addr} {xs ys : List V} (hp : H p = some (.lst xs)) : ∀ {vs : List V} {is : List Nat}, Errs c H vs is → Errs c (upd H p (.lst ys)) vs is
  | _, _, .nil => .nil
  | _, _, .cons h r => .cons (h.mut hp) (Errs.mut hp r)
theorem new_same {H : Hp} {p : Addr} {o : HO} (h : H p = Option.none) : Same H (upd H p o) := fun b u e => by
  rw [upd_ne (ne_of_none e h)]
  exact e

/-! ### a row of new errors -/
def tMk (C : Addr) (te : TE) : TE := fun σ H Q => te σ H fun _ H1 => ∀ a, H1 a = Option.none → Q (.ref a) (upd H1 a (ExO (.ref C) a))
def tMks (c : Nat → Addr) (te : TE) : List Nat → TA
  | [] => tNil
  | i :: is => tCons (tMk (c i) te) (tMks c te is)
theorem mks_ok {c : Nat → Addr} {j : Nat} {w : V} {σ : L2.St} (hw : σ[j]? = some (some w)) : ∀ (is : List Nat) (H : Hp) (Q : List V → Hp → Prop), (∀ vs H', Same H H' → Errs c H' vs is → Q vs H') → tMks c (tVar j) is σ H Q
  | [], H, Q, k => k [] H (Same.refl H) .nil
  | i :: is, H, Q, k => ⟨w, hw, fun a ha => mks_ok hw is _ _ fun vs H' s r => k (.ref a :: vs) H' ((new_same ha).trans s) (.cons (.inl (s _ _ upd_same)) r)⟩
/-! ### a row of isinstance -/
def tIs (K : PySem.W.Frag) (C : Addr) : TE := tCB (rIsX K) (tCons (tVar 0) (tCons (tC (.ref C)) tNil))
def tIss (K : PySem.W.Frag) (c : Nat → Addr) : List Nat → TA
  | [] => tNil
  | j :: js => tCons (tIs K (c j)) (tIss K c js)
def ans (i : Nat) (js : List Nat) : List V := js.map fun j => V.bl (decide (i = j))
section
variable {P : Program} {w : World} {K : PySem.W.Frag} {mg : Str → Option Value} {base : Heap} {c : Nat → Addr} {fI : Addr}
theorem iss_ok (T : T40 P K mg c fI) {σ : L2.St} {a : Addr} {i : Nat} (hi : i < 29) (hw : σ[0]? = some (some (.ref a))) : ∀ (js : List Nat) (H : Hp) (Q : List V → Hp → Prop), (∀ j ∈ js, j < 28) → ErrAt H a (c i) → Q (ans i js) H → tIss K c js σ H Q
  | [], H, Q, _, _, k => k
  | j :: js, H, Q, hj, ha, k => by
    have h28 : j < 28 := hj j List.mem_cons_self
    refine ⟨_, hw, a, c i, _, _, decide (i = j), rfl, ha, T.e i hi, fun _ z => z, ?_, ?_⟩
    · rw [T.one i j hi (by omega)]
      congr 1
      have : j ≠ 28 := by omega
      simp [this]
    · exact iss_ok T hi hw js H _ (fun j h => hj j (List.mem_cons_of_mem _ h)) ha k

def idx (n : Nat) : List Nat := List.range n
/-- _law_made: errors of the first 27 classes -/
def spMade (c : Nat → Addr) : Sp := fun vs H Q _ => ∃ v, vs = [v] ∧ ∀ p xs H', Same H H' → H p = Option.none → H' p = some (.lst xs) → Errs c H' xs (List.range 27) → Q (.ref p) H'
theorem sc_made : FnScope ["word", "found"] ["word"] (defScope sMade) := ⟨rfl, rfl, rfl, by decide +kernel, rfl, by decide +kernel, by decide +kernel⟩
theorem ok_made {f : Addr} {fd : FuncData} (F' : Fun K "_law_made" "_law_made" sMade f fd) (T : T40 P K mg c fI) : FnOk P w K mg base CX0 1 f fd ["word"] (spMade c) := by
  refine F'.ok sc_made (fun vs H Q E h => ?_) (fun cdv A outer s H vs Q E hr h => ?_)
  · obtain ⟨v, rfl, _⟩ := h
    rfl
  · obtain ⟨v, rfl, k⟩ := h
    refine ⟨_, (pss_cons (ps_set (i := 1) sc_made.nd rfl (.inl rfl) (pe_lst (pa_cons (pe_exc1 F.excBase_ValueError (T.q 0 (by decide) (by decide)) (T.g 0 (by decide)) (T.k 0 (by decide)) (by rfl) (pv 0)) (pa_cons (pe_exc1 F.excBase_ValueError (T.q 1 (by decide) (by decide)) (T.g 1 (by decide)) (T.k 1 (by decide)) (by rfl) (pv 0)) (pa_cons (pe_exc1 F.excBase_ValueError (T.q 2 (by decide) (by decide)) (T.g 2 (by decide)) (T.k 2 (by decide)) (by rfl) (pv 0)) (pa_cons (pe_exc1 F.excBase_ValueError (T.q 3 (by decide) (by decide)) (T.g 3 (by decide)) (T.k 3 (by decide)) (by rfl) (pv 0)) (pa_cons (pe_exc1 F.excBase_ValueError (T.q 4 (by decide) (by decide)) (T.g 4 (by decide)) (T.k 4 (by decide)) (by rfl) (pv 0)) pa_nil)))))))
        (pss_cons (ps_set (i := 1) sc_made.nd rfl (.inl rfl) (pe_op op_cat (pv 1) (pe_lst (pa_cons (pe_exc1 F.excBase_ValueError (T.q 5 (by decide) (by decide)) (T.g 5 (by decide)) (T.k 5 (by decide)) (by rfl) (pv 0)) (pa_cons (pe_exc1 F.excBase_ValueError (T.q 6 (by decide) (by decide)) (T.g 6 (by decide)) (T.k 6 (by decide)) (by rfl) (pv 0)) (pa_cons (pe_exc1 F.excBase_ValueError (T.q 7 (by decide) (by decide)) (T.g 7 (by decide)) (T.k 7 (by decide)) (by rfl) (pv 0)) (pa_cons (pe_exc1 F.excBase_ValueError (T.q 8 (by decide) (by decide)) (T.g 8 (by decide)) (T.k 8 (by decide)) (by rfl) (pv 0)) pa_nil)))))))
        (pss_cons (ps_expr (pe_bm PySem.F.plainAttrs_list PySem.F.slot_list_append PySem.F.type_list_append mt_append (pv 1) (pa_cons (pe_exc1 F.excBase_ValueError (T.q 9 (by decide) (by decide)) (T.g 9 (by decide)) (T.k 9 (by decide)) (by rfl) (pv 0)) pa_nil)))
        (pss_cons (ps_set (i := 1) sc_made.nd rfl (.inl rfl) (pe_op op_cat (pv 1) (pe_lst (pa_cons (pe_exc1 F.excBase_ValueError (T.q 10 (by decide) (by decide)) (T.g 10 (by decide)) (T.k 10 (by decide)) (by rfl) (pv 0)) (pa_cons (pe_exc1 F.excBase_ValueError (T.q 11 (by decide) (by decide)) (T.g 11 (by decide)) (T.k 11 (by decide)) (by rfl) (pv 0)) (pa_cons (pe_exc1 F.excBase_ValueError (T.q 12 (by decide) (by decide)) (T.g 12 (by decide)) (T.k 12 (by decide)) (by rfl) (pv 0)) (pa_cons (pe_exc1 F.excBase_ValueError (T.q 13 (by decide) (by decide)) (T.g 13 (by decide)) (T.k 13 (by decide)) (by rfl) (pv 0)) (pa_cons (pe_exc1 F.excBase_ValueError (T.q 14 (by decide) (by decide)) (T.g 14 (by decide)) (T.k 14 (by decide)) (by rfl) (pv 0)) pa_nil))))))))
        (pss_cons (ps_set (i := 1) sc_made.nd rfl (.inl rfl) (pe_op op_cat (pv 1) (pe_lst (pa_cons (pe_exc1 F.excBase_ValueError (T.q 15 (by decide) (by decide)) (T.g 15 (by decide)) (T.k 15 (by decide)) (by rfl) (pv 0)) (pa_cons (pe_exc1 F.excBase_ValueError (T.q 16 (by decide) (by decide)) (T.g 16 (by decide)) (T.k 16 (by decide)) (by rfl) (pv 0)) (pa_cons (pe_exc1 F.excBase_ValueError (T.q 17 (by decide) (by decide)) (T.g 17 (by decide)) (T.k 17 (by decide)) (by rfl) (pv 0)) (pa_cons (pe_exc1 F.excBase_ValueError (T.q 18 (by decide) (by decide)) (T.g 18 (by decide)) (T.k 18 (by decide)) (by rfl) (pv 0)) (pa_cons (pe_exc1 F.excBase_ValueError (T.q 19 (by decide) (by decide)) (T.g 19 (by decide)) (T.k 19 (by decide)) (by rfl) (pv 0)) pa_nil))))))))
        (pss_cons (ps_set (i := 1) sc_made.nd rfl (.inl rfl) (pe_op op_cat (pv 1) (pe_lst (pa_cons (pe_exc1 F.excBase_ValueError (T.q 20 (by decide) (by decide)) (T.g 20 (by decide)) (T.k 20 (by decide)) (by rfl) (pv 0)) (pa_cons (pe_exc1 F.excBase_ValueError (T.q 21 (by decide) (by decide)) (T.g 21 (by decide)) (T.k 21 (by decide)) (by rfl) (pv 0)) (pa_cons (pe_exc1 F.excBase_ValueError (T.q 22 (by decide) (by decide)) (T.g 22 (by decide)) (T.k 22 (by decide)) (by rfl) (pv 0)) (pa_cons (pe_exc1 F.excBase_ValueError (T.q 23 (by decide) (by decide)) (T.g 23 (by decide)) (T.k 23 (by decide)) (by rfl) (pv 0)) (pa_cons (pe_exc1 F.excBase_ValueError (T.q 24 (by decide) (by decide)) (T.g 24 (by decide)) (T.k 24 (by decide)) (by rfl) (pv 0)) pa_nil))))))))
        (pss_one (ps_ret (pe_op op_cat (pv 1) (pe_lst (pa_cons (pe_exc1 F.excBase_ValueError (T.q 25 (by decide) (by decide)) (T.g 25 (by decide)) (T.k 25 (by decide)) (by rfl) (pv 0)) (pa_cons (pe_exc1 F.excBase_ValueError (T.q 26 (by decide) (by decide)) (T.g 26 (by decide)) (T.k 26 (by decide)) (by rfl) (pv 0)) pa_nil)))))))))))), ?_⟩
    have σ0 : (L2.start ["word", "found"] [v])[0]? = some (some v) := rfl
    have lo : ∀ n, n ≤ 100 → n ≤ sizeLine := fun n h => Nat.le_trans h (by decide)
    dsimp only [tSeq, tAsg, tLst]
    refine mks_ok (c := c) (j := 0) (w := v) (σ := L2.start ["word", "found"] [v]) σ0 [0, 1, 2, 3, 4] H _ (fun vs1 H1 s1 r1 => ?_)
    have l1 := r1.len
    refine ⟨lo _ (by rw [l1]; decide), fun p1 hp1 => ⟨_, rfl, ?_⟩⟩
    have S1 : Same H (upd H1 p1 (.lst vs1)) := s1.trans (new_same hp1)
    have R1 := r1.same (new_same (o := .lst vs1) hp1)
    have P1 : (upd H1 p1 (.lst vs1)) p1 = some (.lst vs1) := upd_same
    have F1 : H p1 = Option.none := s1.free hp1
    dsimp only [tSeq, tAsg, tLst, tOp, tRet]
    refine mks_ok (c := c) (j := 0) (w := v) (σ := [some v, some (.ref p1)]) rfl [5, 6, 7, 8] (upd H1 p1 (.lst vs1)) _ (fun ws2 H2 s2 r2 => ?_)
    have m2 := r2.len
    refine ⟨lo _ (by rw [m2]; decide), fun q2 hq2 => ?_⟩
    have t2 : Same (upd H1 p1 (.lst vs1)) (upd H2 q2 (.lst ws2)) := s2.trans (new_same hq2)
    have o2 := t2 _ _ P1
    refine ⟨p1, q2, vs1, ws2, rfl, rfl, o2, upd_same, lo _ (by rw [m2, l1]; decide), fun p2 hp2 => ?_⟩
    have S2 : Same H (upd (upd H2 q2 (.lst ws2)) p2 (.lst (vs1 ++ ws2))) := (S1.trans t2).trans (new_same hp2)
    have R2 : Errs c (upd (upd H2 q2 (.lst ws2)) p2 (.lst (vs1 ++ ws2))) (vs1 ++ ws2) [0, 1, 2, 3, 4, 5, 6, 7, 8] := Errs.app (R1.same (t2.trans (new_same hp2))) (r2.same ((new_same hq2).trans (new_same hp2)))
    have P2 : (upd (upd H2 q2 (.lst ws2)) p2 (.lst (vs1 ++ ws2))) p2 = some (.lst (vs1 ++ ws2)) := upd_same
    have F2 : H p2 = Option.none := (S1.trans t2).free hp2
    have l2 := R2.len
    refine ⟨_, rfl, .inl ⟨rfl, _, SqL.of P2⟩, ?_⟩
    refine mks_ok (c := c) (j := 0) (w := v) (σ := [some v, some (.ref p2)]) rfl [9] (upd (upd H2 q2 (.lst ws2)) p2 (.lst (vs1 ++ ws2))) _ (fun ws3 H3 s3 r3 => ?_)
    have m3 := r3.len
    cases r3 with
    | @cons a9 _ vz _ e9 rz =>
    cases rz
    have o3 := s3 _ _ P2
    refine ⟨p2, _, _, rfl, rfl, o3, Nat.lt_of_le_of_lt (by rw [l2]; decide : (vs1 ++ ws2).length ≤ 9) (by decide), ?_⟩
    have S3 : Same H (upd H3 p2 (.lst ((vs1 ++ ws2) ++ [.ref a9]))) := fun b o e => by
      rw [upd_ne (ne_of_none e F2)]
      exact s3 _ _ (S2 _ _ e)
    have R3 : Errs c (upd H3 p2 (.lst ((vs1 ++ ws2) ++ [.ref a9]))) ((vs1 ++ ws2) ++ [.ref a9]) [0, 1, 2, 3, 4, 5, 6, 7, 8, 9] := Errs.app ((R2.same s3).mut o3) (.cons (e9.mut o3) .nil)
    have P3 : (upd H3 p2 (.lst ((vs1 ++ ws2) ++ [.ref a9]))) p2 = some (.lst ((vs1 ++ ws2) ++ [.ref a9])) := upd_same
    have l3 := R3.len
    refine ⟨_, rfl, ?_⟩
    dsimp only [tSeq, tAsg, tLst, tOp, tRet]
    refine mks_ok (c := c) (j := 0) (w := v) (σ := [some v, some (.ref p2)]) rfl [10, 11, 12, 13, 14] (upd H3 p2 (.lst ((vs1 ++ ws2) ++ [V.ref a9]))) _ (fun ws4 H4 s4 r4 => ?_)
    have m4 := r4.len
    refine ⟨lo _ (by rw [m4]; decide), fun q4 hq4 => ?_⟩
    have t4 : Same (upd H3 p2 (.lst ((vs1 ++ ws2) ++ [V.ref a9]))) (upd H4 q4 (.lst ws4)) := s4.trans (new_same hq4)
    have o4 := t4 _ _ P3
    refine ⟨p2, q4, ((vs1 ++ ws2) ++ [V.ref a9]), ws4, rfl, rfl, o4, upd_same, lo _ (by rw [m4, l3]; decide), fun p4 hp4 => ?_⟩
    have S4 : Same H (upd (upd H4 q4 (.lst ws4)) p4 (.lst (((vs1 ++ ws2) ++ [V.ref a9]) ++ ws4))) := (S3.trans t4).trans (new_same hp4)
    have R4 : Errs c (upd (upd H4 q4 (.lst ws4)) p4 (.lst (((vs1 ++ ws2) ++ [V.ref a9]) ++ ws4))) (((vs1 ++ ws2) ++ [V.ref a9]) ++ ws4) [0, 1, 2, 3, 4, 5, 6, 7, 8, 9, 10, 11, 12, 13, 14] := Errs.app (R3.same (t4.trans (new_same hp4))) (r4.same ((new_same hq4).trans (new_same hp4)))
    have P4 : (upd (upd H4 q4 (.lst ws4)) p4 (.lst (((vs1 ++ ws2) ++ [V.ref a9]) ++ ws4))) p4 = some (.lst (((vs1 ++ ws2) ++ [V.ref a9]) ++ ws4)) := upd_same
    have F4 : H p4 = Option.none := (S3.trans t4).free hp4
    have l4 := R4.len
    refine ⟨_, rfl, ?_⟩
    dsimp only [tSeq, tAsg, tLst, tOp, tRet]
    refine mks_ok (c := c) (j := 0) (w := v) (σ := [some v, some (.ref p4)]) rfl [15, 16, 17, 18, 19] (upd (upd H4 q4 (.lst ws4)) p4 (.lst (((vs1 ++ ws2) ++ [V.ref a9]) ++ ws4))) _ (fun ws5 H5 s5 r5 => ?_)
    have m5 := r5.len
    refine ⟨lo _ (by rw [m5]; decide), fun q5 hq5 => ?_⟩
    have t5 : Same (upd (upd H4 q4 (.lst ws4)) p4 (.lst (((vs1 ++ ws2) ++ [V.ref a9]) ++ ws4))) (upd H5 q5 (.lst ws5)) := s5.trans (new_same hq5)
    have o5 := t5 _ _ P4
    refine ⟨p4, q5, (((vs1 ++ ws2) ++ [V.ref a9]) ++ ws4), ws5, rfl, rfl, o5, upd_same, lo _ (by rw [m5, l4]; decide), fun p5 hp5 => ?_⟩
    have S5 : Same H (upd (upd H5 q5 (.lst ws5)) p5 (.lst ((((vs1 ++ ws2) ++ [V.ref a9]) ++ ws4) ++ ws5))) := (S4.trans t5).trans (new_same hp5)
    have R5 : Errs c (upd (upd H5 q5 (.lst ws5)) p5 (.lst ((((vs1 ++ ws2) ++ [V.ref a9]) ++ ws4) ++ ws5))) ((((vs1 ++ ws2) ++ [V.ref a9]) ++ ws4) ++ ws5) [0, 1, 2, 3, 4, 5, 6, 7, 8, 9, 10, 11, 12, 13, 14, 15, 16, 17, 18, 19] := Errs.app (R4.same (t5.trans (new_same hp5))) (r5.same ((new_same hq5).trans (new_same hp5)))
    have P5 : (upd (upd H5 q5 (.lst ws5)) p5 (.lst ((((vs1 ++ ws2) ++ [V.ref a9]) ++ ws4) ++ ws5))) p5 = some (.lst ((((vs1 ++ ws2) ++ [V.ref a9]) ++ ws4) ++ ws5)) := upd_same
    have F5 : H p5 = Option.none := (S4.trans t5).free hp5
    have l5 := R5.len
    refine ⟨_, rfl, ?_⟩
    dsimp only [tSeq, tAsg, tLst, tOp, tRet]
    refine mks_ok (c := c) (j := 0) (w := v) (σ := [some v, some (.ref p5)]) rfl [20, 21, 22, 23, 24] (upd (upd H5 q5 (.lst ws5)) p5 (.lst ((((vs1 ++ ws2) ++ [V.ref a9]) ++ ws4) ++ ws5))) _ (fun ws6 H6 s6 r6 => ?_)
    have m6 := r6.len
    refine ⟨lo _ (by rw [m6]; decide), fun q6 hq6 => ?_⟩
    have t6 : Same (upd (upd H5 q5 (.lst ws5)) p5 (.lst ((((vs1 ++ ws2) ++ [V.ref a9]) ++ ws4) ++ ws5))) (upd H6 q6 (.lst ws6)) := s6.trans (new_same hq6)
    have o6 := t6 _ _ P5
    refine ⟨p5, q6, ((((vs1 ++ ws2) ++ [V.ref a9]) ++ ws4) ++ ws5), ws6, rfl, rfl, o6, upd_same, lo _ (by rw [m6, l5]; decide), fun p6 hp6 => ?_⟩
    have S6 : Same H (upd (upd H6 q6 (.lst ws6)) p6 (.lst (((((vs1 ++ ws2) ++ [V.ref a9]) ++ ws4) ++ ws5) ++ ws6))) := (S5.trans t6).trans (new_same hp6)
    have R6 : Errs c (upd (upd H6 q6 (.lst ws6)) p6 (.lst (((((vs1 ++ ws2) ++ [V.ref a9]) ++ ws4) ++ ws5) ++ ws6))) (((((vs1 ++ ws2) ++ [V.ref a9]) ++ ws4) ++ ws5) ++ ws6) [0, 1, 2, 3, 4, 5, 6, 7, 8, 9, 10, 11, 12, 13, 14, 15, 16, 17, 18, 19, 20, 21, 22, 23, 24] := Errs.app (R5.same (t6.trans (new_same hp6))) (r6.same ((new_same hq6).trans (new_same hp6)))
    have P6 : (upd (upd H6 q6 (.lst ws6)) p6 (.lst (((((vs1 ++ ws2) ++ [V.ref a9]) ++ ws4) ++ ws5) ++ ws6))) p6 = some (.lst (((((vs1 ++ ws2) ++ [V.ref a9]) ++ ws4) ++ ws5) ++ ws6)) := upd_same
    have F6 : H p6 = Option.none := (S5.trans t6).free hp6
    have l6 := R6.len
    refine ⟨_, rfl, ?_⟩
    dsimp only [tSeq, tAsg, tLst, tOp, tRet]
    refine mks_ok (c := c) (j := 0) (w := v) (σ := [some v, some (.ref p6)]) rfl [25, 26] (upd (upd H6 q6 (.lst ws6)) p6 (.lst (((((vs1 ++ ws2) ++ [V.ref a9]) ++ ws4) ++ ws5) ++ ws6))) _ (fun ws7 H7 s7 r7 => ?_)
    have m7 := r7.len
    refine ⟨lo _ (by rw [m7]; decide), fun q7 hq7 => ?_⟩
    have t7 : Same (upd (upd H6 q6 (.lst ws6)) p6 (.lst (((((vs1 ++ ws2) ++ [V.ref a9]) ++ ws4) ++ ws5) ++ ws6))) (upd H7 q7 (.lst ws7)) := s7.trans (new_same hq7)
    have o7 := t7 _ _ P6
    refine ⟨p6, q7, (((((vs1 ++ ws2) ++ [V.ref a9]) ++ ws4) ++ ws5) ++ ws6), ws7, rfl, rfl, o7, upd_same, lo _ (by rw [m7, l6]; decide), fun p7 hp7 => ?_⟩
    have S7 : Same H (upd (upd H7 q7 (.lst ws7)) p7 (.lst ((((((vs1 ++ ws2) ++ [V.ref a9]) ++ ws4) ++ ws5) ++ ws6) ++ ws7))) := (S6.trans t7).trans (new_same hp7)
    have R7 : Errs c (upd (upd H7 q7 (.lst ws7)) p7 (.lst ((((((vs1 ++ ws2) ++ [V.ref a9]) ++ ws4) ++ ws5) ++ ws6) ++ ws7))) ((((((vs1 ++ ws2) ++ [V.ref a9]) ++ ws4) ++ ws5) ++ ws6) ++ ws7) [0, 1, 2, 3, 4, 5, 6, 7, 8, 9, 10, 11, 12, 13, 14, 15, 16, 17, 18, 19, 20, 21, 22, 23, 24, 25, 26] := Errs.app (R6.same (t7.trans (new_same hp7))) (r7.same ((new_same hq7).trans (new_same hp7)))
    have P7 : (upd (upd H7 q7 (.lst ws7)) p7 (.lst ((((((vs1 ++ ws2) ++ [V.ref a9]) ++ ws4) ++ ws5) ++ ws6) ++ ws7))) p7 = some (.lst ((((((vs1 ++ ws2) ++ [V.ref a9]) ++ ws4) ++ ws5) ++ ws6) ++ ws7)) := upd_same
    have F7 : H p7 = Option.none := (S6.trans t7).free hp7
    have l7 := R7.len
    exact k p7 _ _ S7 F7 P7 R7
/-- _law_kinds: of which class an error is -/
def spKinds (c : Nat → Addr) : Sp := fun vs H Q _ => ∃ (a : Addr) (i : Nat), vs = [.ref a] ∧ i < 29 ∧ ErrAt H a (c i) ∧ ∀ p H', Same H H' → H' p = some (.lst (ans i (List.range 28))) → Q (.ref p) H'
theorem sc_kinds : FnScope ["caught", "found"] ["caught"] (defScope sKinds) := ⟨rfl, rfl, rfl, by decide +kernel, rfl, by decide +kernel, by decide +kernel⟩
theorem ok_kinds {f : Addr} {fd : FuncData} (F' : Fun K "_law_kinds" "_law_kinds" sKinds f fd) (T : T40 P K mg c fI) : FnOk P w K mg base CX0 1 f fd ["caught"] (spKinds c) := by
  refine F'.ok sc_kinds (fun vs H Q E h => ?_) (fun cdv A outer s H vs Q E hr h => ?_)
  · obtain ⟨a, i, rfl, _⟩ := h
    rfl
  · obtain ⟨a, i, rfl, hi, ha, k⟩ := h
    refine ⟨_, (pss_cons (ps_set (i := 1) sc_kinds.nd rfl (.inl rfl) (pe_lst (pa_cons (pe_callB call_isX (by rfl) T.isinstance (by decide +kernel) (pa_cons (pv 0) (pa_cons (pe_glob (v := .ref (c 0)) (by rfl) (T.g 0 (by decide)) rfl) pa_nil))) (pa_cons (pe_callB call_isX (by rfl) T.isinstance (by decide +kernel) (pa_cons (pv 0) (pa_cons (pe_glob (v := .ref (c 1)) (by rfl) (T.g 1 (by decide)) rfl) pa_nil))) (pa_cons (pe_callB call_isX (by rfl) T.isinstance (by decide +kernel) (pa_cons (pv 0) (pa_cons (pe_glob (v := .ref (c 2)) (by rfl) (T.g 2 (by decide)) rfl) pa_nil))) pa_nil)))))
        (pss_cons (ps_set (i := 1) sc_kinds.nd rfl (.inl rfl) (pe_op op_cat (pv 1) (pe_lst (pa_cons (pe_callB call_isX (by rfl) T.isinstance (by decide +kernel) (pa_cons (pv 0) (pa_cons (pe_glob (v := .ref (c 3)) (by rfl) (T.g 3 (by decide)) rfl) pa_nil))) (pa_cons (pe_callB call_isX (by rfl) T.isinstance (by decide +kernel) (pa_cons (pv 0) (pa_cons (pe_glob (v := .ref (c 4)) (by rfl) (T.g 4 (by decide)) rfl) pa_nil))) pa_nil)))))
        (pss_cons (ps_set (i := 1) sc_kinds.nd rfl (.inl rfl) (pe_op op_cat (pv 1) (pe_lst (pa_cons (pe_callB call_isX (by rfl) T.isinstance (by decide +kernel) (pa_cons (pv 0) (pa_cons (pe_glob (v := .ref (c 5)) (by rfl) (T.g 5 (by decide)) rfl) pa_nil))) (pa_cons (pe_callB call_isX (by rfl) T.isinstance (by decide +kernel) (pa_cons (pv 0) (pa_cons (pe_glob (v := .ref (c 6)) (by rfl) (T.g 6 (by decide)) rfl) pa_nil))) pa_nil)))))
        (pss_cons (ps_set (i := 1) sc_kinds.nd rfl (.inl rfl) (pe_op op_cat (pv 1) (pe_lst (pa_cons (pe_callB call_isX (by rfl) T.isinstance (by decide +kernel) (pa_cons (pv 0) (pa_cons (pe_glob (v := .ref (c 7)) (by rfl) (T.g 7 (by decide)) rfl) pa_nil))) (pa_cons (pe_callB call_isX (by rfl) T.isinstance (by decide +kernel) (pa_cons (pv 0) (pa_cons (pe_glob (v := .ref (c 8)) (by rfl) (T.g 8 (by decide)) rfl) pa_nil))) pa_nil)))))
        (pss_cons (ps_set (i := 1) sc_kinds.nd rfl (.inl rfl) (pe_op op_cat (pv 1) (pe_lst (pa_cons (pe_callB call_isX (by rfl) T.isinstance (by decide +kernel) (pa_cons (pv 0) (pa_cons (pe_glob (v := .ref (c 9)) (by rfl) (T.g 9 (by decide)) rfl) pa_nil))) (pa_cons (pe_callB call_isX (by rfl) T.isinstance (by decide +kernel) (pa_cons (pv 0) (pa_cons (pe_glob (v := .ref (c 10)) (by rfl) (T.g 10 (by decide)) rfl) pa_nil))) pa_nil)))))
        (pss_cons (ps_set (i := 1) sc_kinds.nd rfl (.inl rfl) (pe_op op_cat (pv 1) (pe_lst (pa_cons (pe_callB call_isX (by rfl) T.isinstance (by decide +kernel) (pa_cons (pv 0) (pa_cons (pe_glob (v := .ref (c 11)) (by rfl) (T.g 11 (by decide)) rfl) pa_nil))) (pa_cons (pe_callB call_isX (by rfl) T.isinstance (by decide +kernel) (pa_cons (pv 0) (pa_cons (pe_glob (v := .ref (c 12)) (by rfl) (T.g 12 (by decide)) rfl) pa_nil))) pa_nil)))))
        (pss_cons (ps_set (i := 1) sc_kinds.nd rfl (.inl rfl) (pe_op op_cat (pv 1) (pe_lst (pa_cons (pe_callB call_isX (by rfl) T.isinstance (by decide +kernel) (pa_cons (pv 0) (pa_cons (pe_glob (v := .ref (c 13)) (by rfl) (T.g 13 (by decide)) rfl) pa_nil))) (pa_cons (pe_callB call_isX (by rfl) T.isinstance (by decide +kernel) (pa_cons (pv 0) (pa_cons (pe_glob (v := .ref (c 14)) (by rfl) (T.g 14 (by decide)) rfl) pa_nil))) pa_nil)))))
        (pss_cons (ps_set (i := 1) sc_kinds.nd rfl (.inl rfl) (pe_op op_cat (pv 1) (pe_lst (pa_cons (pe_callB call_isX (by rfl) T.isinstance (by decide +kernel) (pa_cons (pv 0) (pa_cons (pe_glob (v := .ref (c 15)) (by rfl) (T.g 15 (by decide)) rfl) pa_nil))) (pa_cons (pe_callB call_isX (by rfl) T.isinstance (by decide +kernel) (pa_cons (pv 0) (pa_cons (pe_glob (v := .ref (c 16)) (by rfl) (T.g 16 (by decide)) rfl) pa_nil))) pa_nil)))))
        (pss_cons (ps_set (i := 1) sc_kinds.nd rfl (.inl rfl) (pe_op op_cat (pv 1) (pe_lst (pa_cons (pe_callB call_isX (by rfl) T.isinstance (by decide +kernel) (pa_cons (pv 0) (pa_cons (pe_glob (v := .ref (c 17)) (by rfl) (T.g 17 (by decide)) rfl) pa_nil))) (pa_cons (pe_callB call_isX (by rfl) T.isinstance (by decide +kernel) (pa_cons (pv 0) (pa_cons (pe_glob (v := .ref (c 18)) (by rfl) (T.g 18 (by decide)) rfl) pa_nil))) (pa_cons (pe_callB call_isX (by rfl) T.isinstance (by decide +kernel) (pa_cons (pv 0) (pa_cons (pe_glob (v := .ref (c 19)) (by rfl) (T.g 19 (by decide)) rfl) pa_nil))) pa_nil))))))
        (pss_cons (ps_set (i := 1) sc_kinds.nd rfl (.inl rfl) (pe_op op_cat (pv 1) (pe_lst (pa_cons (pe_callB call_isX (by rfl) T.isinstance (by decide +kernel) (pa_cons (pv 0) (pa_cons (pe_glob (v := .ref (c 20)) (by rfl) (T.g 20 (by decide)) rfl) pa_nil))) (pa_cons (pe_callB call_isX (by rfl) T.isinstance (by decide +kernel) (pa_cons (pv 0) (pa_cons (pe_glob (v := .ref (c 21)) (by rfl) (T.g 21 (by decide)) rfl) pa_nil))) pa_nil)))))
        (pss_cons (ps_set (i := 1) sc_kinds.nd rfl (.inl rfl) (pe_op op_cat (pv 1) (pe_lst (pa_cons (pe_callB call_isX (by rfl) T.isinstance (by decide +kernel) (pa_cons (pv 0) (pa_cons (pe_glob (v := .ref (c 22)) (by rfl) (T.g 22 (by decide)) rfl) pa_nil))) (pa_cons (pe_callB call_isX (by rfl) T.isinstance (by decide +kernel) (pa_cons (pv 0) (pa_cons (pe_glob (v := .ref (c 23)) (by rfl) (T.g 23 (by decide)) rfl) pa_nil))) pa_nil)))))
        (pss_cons (ps_set (i := 1) sc_kinds.nd rfl (.inl rfl) (pe_op op_cat (pv 1) (pe_lst (pa_cons (pe_callB call_isX (by rfl) T.isinstance (by decide +kernel) (pa_cons (pv 0) (pa_cons (pe_glob (v := .ref (c 24)) (by rfl) (T.g 24 (by decide)) rfl) pa_nil))) (pa_cons (pe_callB call_isX (by rfl) T.isinstance (by decide +kernel) (pa_cons (pv 0) (pa_cons (pe_glob (v := .ref (c 25)) (by rfl) (T.g 25 (by decide)) rfl) pa_nil))) pa_nil)))))
        (pss_one (ps_ret (pe_op op_cat (pv 1) (pe_lst (pa_cons (pe_callB call_isX (by rfl) T.isinstance (by decide +kernel) (pa_cons (pv 0) (pa_cons (pe_glob (v := .ref (c 26)) (by rfl) (T.g 26 (by decide)) rfl) pa_nil))) (pa_cons (pe_callB call_isX (by rfl) T.isinstance (by decide +kernel) (pa_cons (pv 0) (pa_cons (pe_glob (v := .ref (c 27)) (by rfl) (T.g 27 (by decide)) rfl) pa_nil))) pa_nil)))))))))))))))))), ?_⟩
    have σ0 : (L2.start ["caught", "found"] [V.ref a])[0]? = some (some (.ref a)) := rfl
    have lo : ∀ n, n ≤ 100 → n ≤ sizeLine := fun n h => Nat.le_trans h (by decide)
    dsimp only [tSeq, tAsg, tLst]
    refine iss_ok T hi σ0 [0, 1, 2] H _ (by decide) ha ?_
    refine ⟨by show 3 ≤ sizeLine; decide, fun p1 hp1 => ⟨_, rfl, ?_⟩⟩
    have S1 : Same H (upd H p1 (.lst (ans i [0, 1, 2]))) := new_same hp1
    have P1 : (upd H p1 (.lst (ans i [0, 1, 2]))) p1 = some (.lst (ans i [0, 1, 2])) := upd_same
    dsimp only [tSeq, tAsg, tLst, tOp, tRet]
    refine iss_ok T hi (σ := [some (.ref a), some (.ref p1)]) rfl [3, 4] _ _ (by decide) (ha.same S1) ?_
    refine ⟨by show 2 ≤ sizeLine; decide, fun q2 hq2 => ?_⟩
    refine ⟨p1, q2, ans i [0, 1, 2], ans i [3, 4], rfl, rfl, new_same hq2 _ _ P1, upd_same, by show 5 ≤ sizeLine; decide, fun p2 hp2 => ?_⟩
    have S2 := (S1.trans (new_same (o := .lst (ans i [3, 4])) hq2)).trans (new_same (o := .lst (ans i [0, 1, 2, 3, 4])) hp2)
    have P2 : (upd (upd (upd H p1 (.lst (ans i [0, 1, 2]))) q2 (.lst (ans i [3, 4]))) p2 (.lst (ans i [0, 1, 2, 3, 4]))) p2 = some (.lst (ans i [0, 1, 2, 3, 4])) := upd_same
    refine ⟨_, rfl, ?_⟩
    dsimp only [tSeq, tAsg, tLst, tOp, tRet]
    refine iss_ok T hi (σ := [some (.ref a), some (.ref p2)]) rfl [5, 6] _ _ (by decide) (ha.same S2) ?_
    refine ⟨by show 2 ≤ sizeLine; decide, fun q3 hq3 => ?_⟩
    refine ⟨p2, q3, ans i [0, 1, 2, 3, 4], ans i [5, 6], rfl, rfl, new_same hq3 _ _ P2, upd_same, by show 7 ≤ sizeLine; decide, fun p3 hp3 => ?_⟩
    have S3 := (S2.trans (new_same (o := .lst (ans i [5, 6])) hq3)).trans (new_same (o := .lst (ans i [0, 1, 2, 3, 4, 5, 6])) hp3)
    have P3 : (upd (upd (upd (upd (upd H p1 (.lst (ans i [0, 1, 2]))) q2 (.lst (ans i [3, 4]))) p2 (.lst (ans i [0, 1, 2, 3, 4]))) q3 (.lst (ans i [5, 6]))) p3 (.lst (ans i [0, 1, 2, 3, 4, 5, 6]))) p3 = some (.lst (ans i [0, 1, 2, 3, 4, 5, 6])) := upd_same
    refine ⟨_, rfl, ?_⟩
    dsimp only [tSeq, tAsg, tLst, tOp, tRet]
    refine iss_ok T hi (σ := [some (.ref a), some (.ref p3)]) rfl [7, 8] _ _ (by decide) (ha.same S3) ?_
    refine ⟨by show 2 ≤ sizeLine; decide, fun q4 hq4 => ?_⟩
    refine ⟨p3, q4, ans i [0, 1, 2, 3, 4, 5, 6], ans i [7, 8], rfl, rfl, new_same hq4 _ _ P3, upd_same, by show 9 ≤ sizeLine; decide, fun p4 hp4 => ?_⟩
    have S4 := (S3.trans (new_same (o := .lst (ans i [7, 8])) hq4)).trans (new_same (o := .lst (ans i [0, 1, 2, 3, 4, 5, 6, 7, 8])) hp4)
    have P4 : (upd (upd (upd (upd (upd (upd (upd H p1 (.lst (ans i [0, 1, 2]))) q2 (.lst (ans i [3, 4]))) p2 (.lst (ans i [0, 1, 2, 3, 4]))) q3 (.lst (ans i [5, 6]))) p3 (.lst (ans i [0, 1, 2, 3, 4, 5, 6]))) q4 (.lst (ans i [7, 8]))) p4 (.lst (ans i [0, 1, 2, 3, 4, 5, 6, 7, 8]))) p4 = some (.lst (ans i [0, 1, 2, 3, 4, 5, 6, 7, 8])) := upd_same
    refine ⟨_, rfl, ?_⟩
    dsimp only [tSeq, tAsg, tLst, tOp, tRet]
    refine iss_ok T hi (σ := [some (.ref a), some (.ref p4)]) rfl [9, 10] _ _ (by decide) (ha.same S4) ?_
    refine ⟨by show 2 ≤ sizeLine; decide, fun q5 hq5 => ?_⟩
    refine ⟨p4, q5, ans i [0, 1, 2, 3, 4, 5, 6, 7, 8], ans i [9, 10], rfl, rfl, new_same hq5 _ _ P4, upd_same, by show 11 ≤ sizeLine; decide, fun p5 hp5 => ?_⟩
    have S5 := (S4.trans (new_same (o := .lst (ans i [9, 10])) hq5)).trans (new_same (o := .lst (ans i [0, 1, 2, 3, 4, 5, 6, 7, 8, 9, 10])) hp5)
    have P5 : (upd (upd (upd (upd (upd (upd (upd (upd (upd H p1 (.lst (ans i [0, 1, 2]))) q2 (.lst (ans i [3, 4]))) p2 (.lst (ans i [0, 1, 2, 3, 4]))) q3 (.lst (ans i [5, 6]))) p3 (.lst (ans i [0, 1, 2, 3, 4, 5, 6]))) q4 (.lst (ans i [7, 8]))) p4 (.lst (ans i [0, 1, 2, 3, 4, 5, 6, 7, 8]))) q5 (.lst (ans i [9, 10]))) p5 (.lst (ans i [0, 1, 2, 3, 4, 5, 6, 7, 8, 9, 10]))) p5 = some (.lst (ans i [0, 1, 2, 3, 4, 5, 6, 7, 8, 9, 10])) := upd_same
    refine ⟨_, rfl, ?_⟩
    dsimp only [tSeq, tAsg, tLst, tOp, tRet]
    refine iss_ok T hi (σ := [some (.ref a), some (.ref p5)]) rfl [11, 12] _ _ (by decide) (ha.same S5) ?_
    refine ⟨by show 2 ≤ sizeLine; decide, fun q6 hq6 => ?_⟩
    refine ⟨p5, q6, ans i [0, 1, 2, 3, 4, 5, 6, 7, 8, 9, 10], ans i [11, 12], rfl, rfl, new_same hq6 _ _ P5, upd_same, by show 13 ≤ sizeLine; decide, fun p6 hp6 => ?_⟩
    have S6 := (S5.trans (new_same (o := .lst (ans i [11, 12])) hq6)).trans (new_same (o := .lst (ans i [0, 1, 2, 3, 4, 5, 6, 7, 8, 9, 10, 11, 12])) hp6)
    have P6 : (upd (upd (upd (upd (upd (upd (upd (upd (upd (upd (upd H p1 (.lst (ans i [0, 1, 2]))) q2 (.lst (ans i [3, 4]))) p2 (.lst (ans i [0, 1, 2, 3, 4]))) q3 (.lst (ans i [5, 6]))) p3 (.lst (ans i [0, 1, 2, 3, 4, 5, 6]))) q4 (.lst (ans i [7, 8]))) p4 (.lst (ans i [0, 1, 2, 3, 4, 5, 6, 7, 8]))) q5 (.lst (ans i [9, 10]))) p5 (.lst (ans i [0, 1, 2, 3, 4, 5, 6, 7, 8, 9, 10]))) q6 (.lst (ans i [11, 12]))) p6 (.lst (ans i [0, 1, 2, 3, 4, 5, 6, 7, 8, 9, 10, 11, 12]))) p6 = some (.lst (ans i [0, 1, 2, 3, 4, 5, 6, 7, 8, 9, 10, 11, 12])) := upd_same
    refine ⟨_, rfl, ?_⟩
    dsimp only [tSeq, tAsg, tLst, tOp, tRet]
    refine iss_ok T hi (σ := [some (.ref a), some (.ref p6)]) rfl [13, 14] _ _ (by decide) (ha.same S6) ?_
    refine ⟨by show 2 ≤ sizeLine; decide, fun q7 hq7 => ?_⟩
    refine ⟨p6, q7, ans i [0, 1, 2, 3, 4, 5, 6, 7, 8, 9, 10, 11, 12], ans i [13, 14], rfl, rfl, new_same hq7 _ _ P6, upd_same, by show 15 ≤ sizeLine; decide, fun p7 hp7 => ?_⟩
    have S7 := (S6.trans (new_same (o := .lst (ans i [13, 14])) hq7)).trans (new_same (o := .lst (ans i [0, 1, 2, 3, 4, 5, 6, 7, 8, 9, 10, 11, 12, 13, 14])) hp7)
    have P7 : (upd (upd (upd (upd (upd (upd (upd (upd (upd (upd (upd (upd (upd H p1 (.lst (ans i [0, 1, 2]))) q2 (.lst (ans i [3, 4]))) p2 (.lst (ans i [0, 1, 2, 3, 4]))) q3 (.lst (ans i [5, 6]))) p3 (.lst (ans i [0, 1, 2, 3, 4, 5, 6]))) q4 (.lst (ans i [7, 8]))) p4 (.lst (ans i [0, 1, 2, 3, 4, 5, 6, 7, 8]))) q5 (.lst (ans i [9, 10]))) p5 (.lst (ans i [0, 1, 2, 3, 4, 5, 6, 7, 8, 9, 10]))) q6 (.lst (ans i [11, 12]))) p6 (.lst (ans i [0, 1, 2, 3, 4, 5, 6, 7, 8, 9, 10, 11, 12]))) q7 (.lst (ans i [13, 14]))) p7 (.lst (ans i [0, 1, 2, 3, 4, 5, 6, 7, 8, 9, 10, 11, 12, 13, 14]))) p7 = some (.lst (ans i [0, 1, 2, 3, 4, 5, 6, 7, 8, 9, 10, 11, 12, 13, 14])) := upd_same
    refine ⟨_, rfl, ?_⟩
    dsimp only [tSeq, tAsg, tLst, tOp, tRet]
    refine iss_ok T hi (σ := [some (.ref a), some (.ref p7)]) rfl [15, 16] _ _ (by decide) (ha.same S7) ?_
    refine ⟨by show 2 ≤ sizeLine; decide, fun q8 hq8 => ?_⟩
    refine ⟨p7, q8, ans i [0, 1, 2, 3, 4, 5, 6, 7, 8, 9, 10, 11, 12, 13, 14], ans i [15, 16], rfl, rfl, new_same hq8 _ _ P7, upd_same, by show 17 ≤ sizeLine; decide, fun p8 hp8 => ?_⟩
    have S8 := (S7.trans (new_same (o := .lst (ans i [15, 16])) hq8)).trans (new_same (o := .lst (ans i [0, 1, 2, 3, 4, 5, 6, 7, 8, 9, 10, 11, 12, 13, 14, 15, 16])) hp8)
    have P8 : (upd (upd (upd (upd (upd (upd (upd (upd (upd (upd (upd (upd (upd (upd (upd H p1 (.lst (ans i [0, 1, 2]))) q2 (.lst (ans i [3, 4]))) p2 (.lst (ans i [0, 1, 2, 3, 4]))) q3 (.lst (ans i [5, 6]))) p3 (.lst (ans i [0, 1, 2, 3, 4, 5, 6]))) q4 (.lst (ans i [7, 8]))) p4 (.lst (ans i [0, 1, 2, 3, 4, 5, 6, 7, 8]))) q5 (.lst (ans i [9, 10]))) p5 (.lst (ans i [0, 1, 2, 3, 4, 5, 6, 7, 8, 9, 10]))) q6 (.lst (ans i [11, 12]))) p6 (.lst (ans i [0, 1, 2, 3, 4, 5, 6, 7, 8, 9, 10, 11, 12]))) q7 (.lst (ans i [13, 14]))) p7 (.lst (ans i [0, 1, 2, 3, 4, 5, 6, 7, 8, 9, 10, 11, 12, 13, 14]))) q8 (.lst (ans i [15, 16]))) p8 (.lst (ans i [0, 1, 2, 3, 4, 5, 6, 7, 8, 9, 10, 11, 12, 13, 14, 15, 16]))) p8 = some (.lst (ans i [0, 1, 2, 3, 4, 5, 6, 7, 8, 9, 10, 11, 12, 13, 14, 15, 16])) := upd_same
    refine ⟨_, rfl, ?_⟩
    dsimp only [tSeq, tAsg, tLst, tOp, tRet]
    refine iss_ok T hi (σ := [some (.ref a), some (.ref p8)]) rfl [17, 18, 19] _ _ (by decide) (ha.same S8) ?_
    refine ⟨by show 3 ≤ sizeLine; decide, fun q9 hq9 => ?_⟩
    refine ⟨p8, q9, ans i [0, 1, 2, 3, 4, 5, 6, 7, 8, 9, 10, 11, 12, 13, 14, 15, 16], ans i [17, 18, 19], rfl, rfl, new_same hq9 _ _ P8, upd_same, by show 20 ≤ sizeLine; decide, fun p9 hp9 => ?_⟩
    have S9 := (S8.trans (new_same (o := .lst (ans i [17, 18, 19])) hq9)).trans (new_same (o := .lst (ans i [0, 1, 2, 3, 4, 5, 6, 7, 8, 9, 10, 11, 12, 13, 14, 15, 16, 17, 18, 19])) hp9)
    have P9 : (upd (upd (upd (upd (upd (upd (upd (upd (upd (upd (upd (upd (upd (upd (upd (upd (upd H p1 (.lst (ans i [0, 1, 2]))) q2 (.lst (ans i [3, 4]))) p2 (.lst (ans i [0, 1, 2, 3, 4]))) q3 (.lst (ans i [5, 6]))) p3 (.lst (ans i [0, 1, 2, 3, 4, 5, 6]))) q4 (.lst (ans i [7, 8]))) p4 (.lst (ans i [0, 1, 2, 3, 4, 5, 6, 7, 8]))) q5 (.lst (ans i [9, 10]))) p5 (.lst (ans i [0, 1, 2, 3, 4, 5, 6, 7, 8, 9, 10]))) q6 (.lst (ans i [11, 12]))) p6 (.lst (ans i [0, 1, 2, 3, 4, 5, 6, 7, 8, 9, 10, 11, 12]))) q7 (.lst (ans i [13, 14]))) p7 (.lst (ans i [0, 1, 2, 3, 4, 5, 6, 7, 8, 9, 10, 11, 12, 13, 14]))) q8 (.lst (ans i [15, 16]))) p8 (.lst (ans i [0, 1, 2, 3, 4, 5, 6, 7, 8, 9, 10, 11, 12, 13, 14, 15, 16]))) q9 (.lst (ans i [17, 18, 19]))) p9 (.lst (ans i [0, 1, 2, 3, 4, 5, 6, 7, 8, 9, 10, 11, 12, 13, 14, 15, 16, 17, 18, 19]))) p9 = some (.lst (ans i [0, 1, 2, 3, 4, 5, 6, 7, 8, 9, 10, 11, 12, 13, 14, 15, 16, 17, 18, 19])) := upd_same
    refine ⟨_, rfl, ?_⟩
    dsimp only [tSeq, tAsg, tLst, tOp, tRet]
    refine iss_ok T hi (σ := [some (.ref a), some (.ref p9)]) rfl [20, 21] _ _ (by decide) (ha.same S9) ?_
    refine ⟨by show 2 ≤ sizeLine; decide, fun q10 hq10 => ?_⟩
    refine ⟨p9, q10, ans i [0, 1, 2, 3, 4, 5, 6, 7, 8, 9, 10, 11, 12, 13, 14, 15, 16, 17, 18, 19], ans i [20, 21], rfl, rfl, new_same hq10 _ _ P9, upd_same, by show 22 ≤ sizeLine; decide, fun p10 hp10 => ?_⟩
    have S10 := (S9.trans (new_same (o := .lst (ans i [20, 21])) hq10)).trans (new_same (o := .lst (ans i [0, 1, 2, 3, 4, 5, 6, 7, 8, 9, 10, 11, 12, 13, 14, 15, 16, 17, 18, 19, 20, 21])) hp10)
    have P10 : (upd (upd (upd (upd (upd (upd (upd (upd (upd (upd (upd (upd (upd (upd (upd (upd (upd (upd (upd H p1 (.lst (ans i [0, 1, 2]))) q2 (.lst (ans i [3, 4]))) p2 (.lst (ans i [0, 1, 2, 3, 4]))) q3 (.lst (ans i [5, 6]))) p3 (.lst (ans i [0, 1, 2, 3, 4, 5, 6]))) q4 (.lst (ans i [7, 8]))) p4 (.lst (ans i [0, 1, 2, 3, 4, 5, 6, 7, 8]))) q5 (.lst (ans i [9, 10]))) p5 (.lst (ans i [0, 1, 2, 3, 4, 5, 6, 7, 8, 9, 10]))) q6 (.lst (ans i [11, 12]))) p6 (.lst (ans i [0, 1, 2, 3, 4, 5, 6, 7, 8, 9, 10, 11, 12]))) q7 (.lst (ans i [13, 14]))) p7 (.lst (ans i [0, 1, 2, 3, 4, 5, 6, 7, 8, 9, 10, 11, 12, 13, 14]))) q8 (.lst (ans i [15, 16]))) p8 (.lst (ans i [0, 1, 2, 3, 4, 5, 6, 7, 8, 9, 10, 11, 12, 13, 14, 15, 16]))) q9 (.lst (ans i [17, 18, 19]))) p9 (.lst (ans i [0, 1, 2, 3, 4, 5, 6, 7, 8, 9, 10, 11, 12, 13, 14, 15, 16, 17, 18, 19]))) q10 (.lst (ans i [20, 21]))) p10 (.lst (ans i [0, 1, 2, 3, 4, 5, 6, 7, 8, 9, 10, 11, 12, 13, 14, 15, 16, 17, 18, 19, 20, 21]))) p10 = some (.lst (ans i [0, 1, 2, 3, 4, 5, 6, 7, 8, 9, 10, 11, 12, 13, 14, 15, 16, 17, 18, 19, 20, 21])) := upd_same
    refine ⟨_, rfl, ?_⟩
    dsimp only [tSeq, tAsg, tLst, tOp, tRet]
    refine iss_ok T hi (σ := [some (.ref a), some (.ref p10)]) rfl [22, 23] _ _ (by decide) (ha.same S10) ?_
    refine ⟨by show 2 ≤ sizeLine; decide, fun q11 hq11 => ?_⟩
    refine ⟨p10, q11, ans i [0, 1, 2, 3, 4, 5, 6, 7, 8, 9, 10, 11, 12, 13, 14, 15, 16, 17, 18, 19, 20, 21], ans i [22, 23], rfl, rfl, new_same hq11 _ _ P10, upd_same, by show 24 ≤ sizeLine; decide, fun p11 hp11 => ?_⟩
    have S11 := (S10.trans (new_same (o := .lst (ans i [22, 23])) hq11)).trans (new_same (o := .lst (ans i [0, 1, 2, 3, 4, 5, 6, 7, 8, 9, 10, 11, 12, 13, 14, 15, 16, 17, 18, 19, 20, 21, 22, 23])) hp11)
    have P11 : (upd (upd (upd (upd (upd (upd (upd (upd (upd (upd (upd (upd (upd (upd (upd (upd (upd (upd (upd (upd (upd H p1 (.lst (ans i [0, 1, 2]))) q2 (.lst (ans i [3, 4]))) p2 (.lst (ans i [0, 1, 2, 3, 4]))) q3 (.lst (ans i [5, 6]))) p3 (.lst (ans i [0, 1, 2, 3, 4, 5, 6]))) q4 (.lst (ans i [7, 8]))) p4 (.lst (ans i [0, 1, 2, 3, 4, 5, 6, 7, 8]))) q5 (.lst (ans i [9, 10]))) p5 (.lst (ans i [0, 1, 2, 3, 4, 5, 6, 7, 8, 9, 10]))) q6 (.lst (ans i [11, 12]))) p6 (.lst (ans i [0, 1, 2, 3, 4, 5, 6, 7, 8, 9, 10, 11, 12]))) q7 (.lst (ans i [13, 14]))) p7 (.lst (ans i [0, 1, 2, 3, 4, 5, 6, 7, 8, 9, 10, 11, 12, 13, 14]))) q8 (.lst (ans i [15, 16]))) p8 (.lst (ans i [0, 1, 2, 3, 4, 5, 6, 7, 8, 9, 10, 11, 12, 13, 14, 15, 16]))) q9 (.lst (ans i [17, 18, 19]))) p9 (.lst (ans i [0, 1, 2, 3, 4, 5, 6, 7, 8, 9, 10, 11, 12, 13, 14, 15, 16, 17, 18, 19]))) q10 (.lst (ans i [20, 21]))) p10 (.lst (ans i [0, 1, 2, 3, 4, 5, 6, 7, 8, 9, 10, 11, 12, 13, 14, 15, 16, 17, 18, 19, 20, 21]))) q11 (.lst (ans i [22, 23]))) p11 (.lst (ans i [0, 1, 2, 3, 4, 5, 6, 7, 8, 9, 10, 11, 12, 13, 14, 15, 16, 17, 18, 19, 20, 21, 22, 23]))) p11 = some (.lst (ans i [0, 1, 2, 3, 4, 5, 6, 7, 8, 9, 10, 11, 12, 13, 14, 15, 16, 17, 18, 19, 20, 21, 22, 23])) := upd_same
    refine ⟨_, rfl, ?_⟩
    dsimp only [tSeq, tAsg, tLst, tOp, tRet]
    refine iss_ok T hi (σ := [some (.ref a), some (.ref p11)]) rfl [24, 25] _ _ (by decide) (ha.same S11) ?_
    refine ⟨by show 2 ≤ sizeLine; decide, fun q12 hq12 => ?_⟩
    refine ⟨p11, q12, ans i [0, 1, 2, 3, 4, 5, 6, 7, 8, 9, 10, 11, 12, 13, 14, 15, 16, 17, 18, 19, 20, 21, 22, 23], ans i [24, 25], rfl, rfl, new_same hq12 _ _ P11, upd_same, by show 26 ≤ sizeLine; decide, fun p12 hp12 => ?_⟩
    have S12 := (S11.trans (new_same (o := .lst (ans i [24, 25])) hq12)).trans (new_same (o := .lst (ans i [0, 1, 2, 3, 4, 5, 6, 7, 8, 9, 10, 11, 12, 13, 14, 15, 16, 17, 18, 19, 20, 21, 22, 23, 24, 25])) hp12)
    have P12 : (upd (upd (upd (upd (upd (upd (upd (upd (upd (upd (upd (upd (upd (upd (upd (upd (upd (upd (upd (upd (upd (upd (upd H p1 (.lst (ans i [0, 1, 2]))) q2 (.lst (ans i [3, 4]))) p2 (.lst (ans i [0, 1, 2, 3, 4]))) q3 (.lst (ans i [5, 6]))) p3 (.lst (ans i [0, 1, 2, 3, 4, 5, 6]))) q4 (.lst (ans i [7, 8]))) p4 (.lst (ans i [0, 1, 2, 3, 4, 5, 6, 7, 8]))) q5 (.lst (ans i [9, 10]))) p5 (.lst (ans i [0, 1, 2, 3, 4, 5, 6, 7, 8, 9, 10]))) q6 (.lst (ans i [11, 12]))) p6 (.lst (ans i [0, 1, 2, 3, 4, 5, 6, 7, 8, 9, 10, 11, 12]))) q7 (.lst (ans i [13, 14]))) p7 (.lst (ans i [0, 1, 2, 3, 4, 5, 6, 7, 8, 9, 10, 11, 12, 13, 14]))) q8 (.lst (ans i [15, 16]))) p8 (.lst (ans i [0, 1, 2, 3, 4, 5, 6, 7, 8, 9, 10, 11, 12, 13, 14, 15, 16]))) q9 (.lst (ans i [17, 18, 19]))) p9 (.lst (ans i [0, 1, 2, 3, 4, 5, 6, 7, 8, 9, 10, 11, 12, 13, 14, 15, 16, 17, 18, 19]))) q10 (.lst (ans i [20, 21]))) p10 (.lst (ans i [0, 1, 2, 3, 4, 5, 6, 7, 8, 9, 10, 11, 12, 13, 14, 15, 16, 17, 18, 19, 20, 21]))) q11 (.lst (ans i [22, 23]))) p11 (.lst (ans i [0, 1, 2, 3, 4, 5, 6, 7, 8, 9, 10, 11, 12, 13, 14, 15, 16, 17, 18, 19, 20, 21, 22, 23]))) q12 (.lst (ans i [24, 25]))) p12 (.lst (ans i [0, 1, 2, 3, 4, 5, 6, 7, 8, 9, 10, 11, 12, 13, 14, 15, 16, 17, 18, 19, 20, 21, 22, 23, 24, 25]))) p12 = some (.lst (ans i [0, 1, 2, 3, 4, 5, 6, 7, 8, 9, 10, 11, 12, 13, 14, 15, 16, 17, 18, 19, 20, 21, 22, 23, 24, 25])) := upd_same
    refine ⟨_, rfl, ?_⟩
    dsimp only [tSeq, tAsg, tLst, tOp, tRet]
    refine iss_ok T hi (σ := [some (.ref a), some (.ref p12)]) rfl [26, 27] _ _ (by decide) (ha.same S12) ?_
    refine ⟨by show 2 ≤ sizeLine; decide, fun q13 hq13 => ?_⟩
    refine ⟨p12, q13, ans i [0, 1, 2, 3, 4, 5, 6, 7, 8, 9, 10, 11, 12, 13, 14, 15, 16, 17, 18, 19, 20, 21, 22, 23, 24, 25], ans i [26, 27], rfl, rfl, new_same hq13 _ _ P12, upd_same, by show 28 ≤ sizeLine; decide, fun p13 hp13 => ?_⟩
    have S13 := (S12.trans (new_same (o := .lst (ans i [26, 27])) hq13)).trans (new_same (o := .lst (ans i [0, 1, 2, 3, 4, 5, 6, 7, 8, 9, 10, 11, 12, 13, 14, 15, 16, 17, 18, 19, 20, 21, 22, 23, 24, 25, 26, 27])) hp13)
    have P13 : (upd (upd (upd (upd (upd (upd (upd (upd (upd (upd (upd (upd (upd (upd (upd (upd (upd (upd (upd (upd (upd (upd (upd (upd (upd H p1 (.lst (ans i [0, 1, 2]))) q2 (.lst (ans i [3, 4]))) p2 (.lst (ans i [0, 1, 2, 3, 4]))) q3 (.lst (ans i [5, 6]))) p3 (.lst (ans i [0, 1, 2, 3, 4, 5, 6]))) q4 (.lst (ans i [7, 8]))) p4 (.lst (ans i [0, 1, 2, 3, 4, 5, 6, 7, 8]))) q5 (.lst (ans i [9, 10]))) p5 (.lst (ans i [0, 1, 2, 3, 4, 5, 6, 7, 8, 9, 10]))) q6 (.lst (ans i [11, 12]))) p6 (.lst (ans i [0, 1, 2, 3, 4, 5, 6, 7, 8, 9, 10, 11, 12]))) q7 (.lst (ans i [13, 14]))) p7 (.lst (ans i [0, 1, 2, 3, 4, 5, 6, 7, 8, 9, 10, 11, 12, 13, 14]))) q8 (.lst (ans i [15, 16]))) p8 (.lst (ans i [0, 1, 2, 3, 4, 5, 6, 7, 8, 9, 10, 11, 12, 13, 14, 15, 16]))) q9 (.lst (ans i [17, 18, 19]))) p9 (.lst (ans i [0, 1, 2, 3, 4, 5, 6, 7, 8, 9, 10, 11, 12, 13, 14, 15, 16, 17, 18, 19]))) q10 (.lst (ans i [20, 21]))) p10 (.lst (ans i [0, 1, 2, 3, 4, 5, 6, 7, 8, 9, 10, 11, 12, 13, 14, 15, 16, 17, 18, 19, 20, 21]))) q11 (.lst (ans i [22, 23]))) p11 (.lst (ans i [0, 1, 2, 3, 4, 5, 6, 7, 8, 9, 10, 11, 12, 13, 14, 15, 16, 17, 18, 19, 20, 21, 22, 23]))) q12 (.lst (ans i [24, 25]))) p12 (.lst (ans i [0, 1, 2, 3, 4, 5, 6, 7, 8, 9, 10, 11, 12, 13, 14, 15, 16, 17, 18, 19, 20, 21, 22, 23, 24, 25]))) q13 (.lst (ans i [26, 27]))) p13 (.lst (ans i [0, 1, 2, 3, 4, 5, 6, 7, 8, 9, 10, 11, 12, 13, 14, 15, 16, 17, 18, 19, 20, 21, 22, 23, 24, 25, 26, 27]))) p13 = some (.lst (ans i [0, 1, 2, 3, 4, 5, 6, 7, 8, 9, 10, 11, 12, 13, 14, 15, 16, 17, 18, 19, 20, 21, 22, 23, 24, 25, 26, 27])) := upd_same
    exact k p13 _ S13 P13
end
end Own
namespace Own
open PySem L2
def spLaw (K : PySem.W.Frag) : Sp := fun vs H Q _ => ∃ (a : Addr) (ns : List Int), vs = [.ref a] ∧ SqL K H a (ns.map V.int) ∧ ∀ H', Q (.bl true) H'
theorem lay_bls : ∀ bs : List Bool, PyData.canLayAll0 (bs.map PyData.bool) = true
  | [] => rfl
  | n :: r => by
    have h := lay_bls r
    simp only [List.map_cons, PyData.canLayAll0, PyData.canLay0, h, Bool.and_self]
theorem deep_bls : ∀ bs : List Bool, PyData.depthAll (bs.map PyData.bool) = 0
  | [] => rfl
  | n :: r => by
    have h := deep_bls r
    simp only [List.map_cons, PyData.depthAll, PyData.depth, h, Nat.max_self]
theorem shaped_bls (bs : List Bool) : SeqAt.shaped (.list (bs.map PyData.bool)) = true := by
  unfold SeqAt.shaped
  simp only [PyData.canLay0, PyData.depth, lay_bls, deep_bls, Bool.true_and]
  decide
theorem dp_bls {K : PySem.W.Frag} {H : Hp} : ∀ bs : List Bool, DpAll K H (bs.map V.bl) (bs.map PyData.bool)
  | [] => .nil
  | n :: r => .cons (.bl n) (dp_bls r)
def kb (i n : Nat) : List Bool := (List.range n).map fun j => decide (i = j)
theorem ans_kb (i n : Nat) : ans i (List.range n) = (kb i n).map V.bl := by
  unfold ans kb
  rw [List.map_map]
  rfl
theorem kb_more (i j : Nat) : (kb i (j + 1)).map V.bl = (kb i j).map V.bl ++ [V.bl (decide (V.int ((0 : Int) + (j : Int)) = V.int ((0 : Int) + (i : Int))))] := by
  unfold kb
  rw [List.range_succ, List.map_append, List.map_append]
  congr 2
  show [V.bl (decide (i = j))] = _
  congr 2
  by_cases h : i = j
  · subst h; simp
  · have h2 : ¬ (V.int ((0 : Int) + (j : Int)) = V.int ((0 : Int) + (i : Int))) := fun z => h (by have z' := V.int.inj z; omega)
    rw [decide_eq_false h, decide_eq_false h2]
theorem kb_len (i n : Nat) : (kb i n).length = n := by unfold kb; rw [List.length_map, List.length_range]
/-- two such rows are equal: != says False -/
theorem ne_kb {K : PySem.W.Frag} {H : Hp} {p q : Addr} {i n : Nat} {Q : VK} (hp : H p = some (.lst (ans i (List.range n)))) (hq : H q = some (.lst ((kb i n).map V.bl))) (k : Q (.bl false) H) : rNeD K (.ref p) (.ref q) H Q := by
  rw [ans_kb] at hp
  refine ⟨.list ((kb i n).map PyData.bool), .list ((kb i n).map PyData.bool), .lst (SqL.of hp) (dp_bls _), .lst (SqL.of hq) (dp_bls _), shaped_bls _, shaped_bls _, ?_⟩
  have e := SeqAt.eqv_refl (.list ((kb i n).map PyData.bool)) (by simp only [PyData.canLay0, lay_bls])
  rw [e]
  exact k
theorem ErrAt.but {H H' : Hp} {a D p : Addr} {xs : List V} (hp : H p = some (.lst xs)) (kp : ∀ b o, b ≠ p → H b = some o → H' b = some o) (h : ErrAt H a D) : ErrAt H' a D := by
  rcases h with h | ⟨d, fs, h, h'⟩
  · exact .inl (kp _ _ (ne_of h hp (fun z => by have z' : HO.ext _ = HO.lst xs := z; cases z')) h)
  · exact .inr ⟨d, fs, kp _ _ (ne_of h hp (fun z => by have z' : HO.ext _ = HO.lst xs := z; cases z')) h, kp _ _ (ne_of h' hp (fun z => by have z' : HO.ext _ = HO.lst xs := z; cases z')) h'⟩
theorem Errs.but {c : Nat → Addr} {H H' : Hp} {p : Addr} {xs : List V} (hp : H p = some (.lst xs)) (kp : ∀ b o, b ≠ p → H b = some o → H' b = some o) : ∀ {vs : List V} {is : List Nat}, Errs c H vs is → Errs c H' vs is
  | _, _, .nil => .nil
  | _, _, .cons h r => .cons (h.but hp kp) (Errs.but hp kp r)
section
variable {P : Program} {w : World} {K : PySem.W.Frag} {mg : Str → Option Value} {base : Heap} {c : Nat → Addr} {fI : Addr}
theorem sc_law : FnScope ["script", "pen", "made", "k", "line", "last", "one", "j"] ["script"] (defScope sLaw) := ⟨rfl, rfl, rfl, by decide +kernel, rfl, by decide +kernel, by decide +kernel⟩
theorem ok_law {f fP fD fM fK : Addr} {fd fdP fdD fdM fdK : FuncData} (F' : Fun K "law" "law" sLaw f fd) (T : T40 P K mg c fI)
    (GP : FnOk P w K mg base CX0 1 fP fdP ["script"] (spPen K)) (gP : mg "_law_pen" = some (.ref fP)) (kP : PySem.W.keepIn K (.ref fP) = true) (bP : Binds K fdP ["script"] [])
    (GD : FnOk P w K mg base CX0 2 fD fdD ["pen", "under"] spDraw) (gD : mg "_law_draw" = some (.ref fD)) (kD : PySem.W.keepIn K (.ref fD) = true) (bD : Binds K fdD ["pen", "under"] [])
    (GM : FnOk P w K mg base CX0 1 fM fdM ["word"] (spMade c)) (gM : mg "_law_made" = some (.ref fM)) (kM : PySem.W.keepIn K (.ref fM) = true) (bM : Binds K fdM ["word"] [])
    (GK : FnOk P w K mg base CX0 1 fK fdK ["caught"] (spKinds c)) (gK : mg "_law_kinds" = some (.ref fK)) (kK : PySem.W.keepIn K (.ref fK) = true) (bK : Binds K fdK ["caught"] []) :
    FnOk P w K mg base CX0 3 f fd ["script"] (spLaw K) := by
  refine F'.ok sc_law (fun vs H Q E h => ?_) (fun cdv A outer s H vs Q E hr h => ?_)
  · obtain ⟨a, ns, rfl, _⟩ := h
    rfl
  · obtain ⟨a, ns, rfl, hS, k⟩ := h
    have hrP : Room 1 _ := hr.mono (by decide)
    have hrM : Room 1 _ := hr.mono (by decide)
    have hrK : Room 1 _ := hr.mono (by decide)
    have hrD : Room 2 _ := hr
    have hr2 : Room 2 _ := hr
    refine ⟨_, (pss_cons (ps_set (i := 1) sc_law.nd rfl (.inl rfl) (pe_call GP hrP (by rfl) gP kP bP .nil pass0 (pa_cons (pv 0) pa_nil)))
        (pss_cons (ps_set (i := 2) sc_law.nd rfl (.inl rfl) (pe_call GM hrM (by rfl) gM kM bM .nil pass0 (pa_cons (pe_ix ix_list (pe_lst (pa_cons (pe_str) (pa_cons (pe_str) (pa_cons (pe_str) (pa_cons (pe_str) pa_nil))))) (pe_call GD hrD (by rfl) gD kD bD .nil pass0 (pa_cons (pv 1) (pa_cons (pe_int) pa_nil))) (fun _ _ => rfl)) pa_nil)))
        (pss_cons (ps_for PassesOwn.never rfl (pi_range1 (by rfl) T.range (pa_cons (pe_int) pa_nil)) (pg_name (i := 3) sc_law.nd rfl (.inr rfl)) (pss_one (ps_if (pt_cmpR (op_neD hr.units) (pe_call GK hrK (by rfl) gK kK bK .nil pass0 (pa_cons (pe_ix ix_list (pv 2) (pv 3) (fun _ _ => rfl)) pa_nil)) (pe_lc (own := [("j", 7)]) (g := gName 7) rfl sc_law.nd (pi_range1 (by rfl) T.range (pa_cons (pe_int) pa_nil)) (blkOk_by (N := ["script", "pen", "made", "k", "line", "last", "one", "j"]) (sc := defScope sLaw) (by decide +kernel)) (fun _ _ _ _ _ => (pg_name (i := 7) sc_law.nd rfl (.inl rfl))) (fun _ _ _ _ _ => pts_nil) (fun _ _ _ _ _ => (pe_cmpR op_eq (pv 7) (pv 3) (nomark _)))) (nomark _)) (pss_one (ps_ret (pe_bl))) pss_nil)))
        (pss_cons (ps_set (i := 4) sc_law.nd rfl (.inl rfl) (pe_call GD hrD (by rfl) gD kD bD .nil pass0 (pa_cons (pv 1) (pa_cons (pe_int) pa_nil))))
        (pss_cons (ps_set (i := 5) sc_law.nd rfl (.inl rfl) (pe_parse T.pe (T.g 27 (by decide)) hr2 (by rfl) (pv 4)))
        (pss_cons (ps_if (PW.pt (pw_or (pt_cmpR (op_neD hr.units) (pe_call GK hrK (by rfl) gK kK bK .nil pass0 (pa_cons (pv 5) pa_nil)) (pe_lc (own := [("j", 7)]) (g := gName 7) rfl sc_law.nd (pi_range1 (by rfl) T.range (pa_cons (pe_int) pa_nil)) (blkOk_by (N := ["script", "pen", "made", "k", "line", "last", "one", "j"]) (sc := defScope sLaw) (by decide +kernel)) (fun _ _ _ _ _ => (pg_name (i := 7) sc_law.nd rfl (.inl rfl))) (fun _ _ _ _ _ => pts_nil) (fun _ _ _ _ _ => (pe_cmpR op_eq (pv 7) (pe_int) (nomark _)))) (nomark _)) (pw_or1 (pt_cmpR op_ne (pe_line (pv 5)) (pv 4) (nomark _))))) (pss_one (ps_ret (pe_bl))) pss_nil)
        (pss_cons (ps_for PassesOwn.never rfl (pi_list (pe_op op_cat (pv 2) (pe_lst (pa_cons (pv 5) (pa_cons (pe_exc1 F.excBase_ValueError (T.q 28 (by decide) (by decide)) (T.g 28 (by decide)) (T.k 28 (by decide)) (by rfl) (pe_str)) pa_nil))))) (pg_name (i := 6) sc_law.nd rfl (.inl rfl)) (pss_one (ps_if (PW.pt (pw_or (pt_not (pt_val (pe_callB call_isX (by rfl) T.isinstance (by decide +kernel) (pa_cons (pv 6) (pa_cons (pe_glob (v := .ref (c 28)) (by rfl) (T.g 28 (by decide)) rfl) pa_nil))))) (pw_or1 (pt_not (pt_val (pe_callB call_isX (by rfl) T.isinstance (by decide +kernel) (pa_cons (pv 6) (pa_cons (pe_bltn (v := .ty "ValueError") (by rfl) T.ve (by decide +kernel) rfl) pa_nil)))))))) (pss_one (ps_ret (pe_bl))) pss_nil)))
        (pss_one (ps_ret (pe_cmpR op_notIn_seq (pe_bl) (pe_call GK hrK (by rfl) gK kK bK .nil pass0 (pa_cons (pe_exc1 F.excBase_ValueError (T.q 28 (by decide) (by decide)) (T.g 28 (by decide)) (T.k 28 (by decide)) (by rfl) (pe_str)) pa_nil)) rfl)))))))))), ?_⟩
    refine ⟨_, rfl, a, ns, rfl, hS, fun H1 p l ms hp s1 L1 => ?_⟩
    have npl : l ≠ p := ne_of L1.ha L1.hp (by
      intro z
      have z' := HO.lst.inj z
      cases ms with
      | nil => cases z'
      | cons n r => cases z')
    refine ⟨by show 4 ≤ sizeLine; decide, fun q hq => ?_⟩
    have ws : List V := [.str "", .str "a", .str "no such key", .str "[2]"]
    have nqp : p ≠ q := fun z => by rw [← z, L1.hp] at hq; cases hq
    have nql : l ≠ q := fun z => by rw [← z, L1.ha] at hq; cases hq
    refine ⟨_, rfl, p, l, ms, 0, 0, 4, rfl, ⟨by rw [upd_ne nqp]; exact L1.hp, by rw [upd_ne nql]; exact L1.ha, L1.len, Int.le_refl _, Int.le_refl _⟩, by decide, by decide, by decide, fun dg i1 n1 H2 d0 d4 L2' hi1 keep2 => ?_⟩
    have e2 : H2 q = some (.lst [.str "", .str "a", .str "no such key", .str "[2]"]) := keep2 _ _ nqp.symm upd_same
    obtain ⟨x, hx, hat⟩ := at_some (l := ([.str "", .str "a", .str "no such key", .str "[2]"] : List V)) (i := dg) d0 d4
    refine ⟨q, _, _, _, rfl, rfl, SqL.of e2, hat, x, rfl, fun m es H3 s3 fm hm er => ?_⟩
    have L3 : Pen H3 p l ms i1 n1 := ⟨s3 _ _ L2'.hp, s3 _ _ L2'.ha, L2'.len, L2'.hi, L2'.hn⟩
    refine ⟨_, rfl, by decide, by decide, for_range (n := 27) (fun i σ H' => (∃ v, σ = [some (.ref a), some (.ref p), some (.ref m), v, none, none, none, none]) ∧ Same H3 H') ⟨⟨none, rfl⟩, Same.refl _⟩ ?_ ?_⟩
    · rintro i σ H4 hi ⟨⟨v, rfl⟩, s4⟩
      obtain ⟨b, eb, hb⟩ := er.at (k := i) (i := i) (by rw [List.getElem?_range hi])
      refine ⟨_, rfl, _, rfl, m, es, _, _, rfl, rfl, SqL.of (s4 _ _ hm), (by have z := atI_nat (v := V.ref b) eb; rw [show ((0 : Int) + (i : Int)) = (i : Int) by omega]; exact z), b, i, rfl, by omega, hb.same s4, fun t H5 s5 ht => ?_⟩
      refine ⟨_, rfl, by decide, by decide, fun D hD => lc_range (lo := 0) (n := 28) (fun j H' => H' D = some (.lst ((kb i j).map V.bl)) ∧ Same H5 H') ⟨upd_same, new_same hD⟩ (fun j H' hj ⟨h1, h2⟩ => ?_) (fun H' ⟨h1, h2⟩ => ?_)⟩
      · refine ⟨rfl, _, rfl, _, rfl, rfl, _, h1, ?_, ?_, ?_⟩
        · rw [List.length_map, kb_len]
          exact Nat.lt_trans hj (by decide)
        · rw [upd_same, kb_more]
        · intro c' o e
          have ne : c' ≠ D := ne_of_none e hD
          rw [upd_ne ne]
          exact h2 _ _ e
      · refine ne_kb (h2 _ _ ht) h1 ⟨false, rfl, iteF ?_⟩
        exact ⟨⟨_, rfl⟩, s4.trans (s5.trans h2)⟩
    · rintro σ H4 ⟨⟨v, rfl⟩, s4⟩
      have L4 : Pen H4 p l ms i1 n1 := ⟨s4 _ _ L3.hp, s4 _ _ L3.ha, L3.len, L3.hi, L3.hn⟩
      refine ⟨_, rfl, p, l, ms, i1, n1, 100000, rfl, L4, by omega, by decide, by decide, fun line i2 n2 H5 ln0 ln9 L5 _ keep5 => ?_⟩
      refine ⟨_, rfl, line, rfl, ln0, Int.lt_trans ln9 (by decide), fun e5 d5 he5 hd5 ne5 => ?_⟩
      have pn : p ≠ d5 := fun z => by rw [← z, L5.hp] at hd5; cases hd5
      have pe : p ≠ e5 := fun z => by rw [← z, L5.hp] at he5; cases he5
      have S6 : Same H5 (upd (upd H5 d5 (exd d5 [("line", .int line)])) e5 (exo e5 (c 27) (some d5))) := fun b o e => by
        rw [upd_ne (ne_of_none e he5), upd_ne (ne_of_none e hd5)]
        exact e
      have E6 : (upd (upd H5 d5 (exd d5 [("line", .int line)])) e5 (exo e5 (c 27) (some d5))) e5 = some (exo e5 (c 27) (some d5)) := upd_same
      have D6 : (upd (upd H5 d5 (exd d5 [("line", .int line)])) e5 (exo e5 (c 27) (some d5))) d5 = some (exd d5 [("line", .int line)]) := by rw [upd_ne ne5, upd_same]
      generalize (upd (upd H5 d5 (exd d5 [("line", .int line)])) e5 (exo e5 (c 27) (some d5))) = H6 at S6 E6 D6 ⊢
      refine ⟨_, rfl, e5, 27, rfl, by decide, .inr ⟨d5, _, E6, D6⟩, fun t H7 s7 ht => ?_⟩
      refine ⟨_, rfl, by decide, by decide, fun D hD => lc_range (lo := 0) (n := 28) (fun j H' => H' D = some (.lst ((kb 27 j).map V.bl)) ∧ Same H7 H') ⟨upd_same, new_same hD⟩ (fun j H' hj ⟨h1, h2⟩ => ?_) (fun H8 ⟨h1, h2⟩ => ?_)⟩
      · refine ⟨rfl, _, rfl, rfl, _, h1, ?_, ?_, ?_⟩
        · rw [List.length_map, kb_len]
          exact Nat.lt_trans hj (by decide)
        · rw [upd_same, kb_more, show (0 : Int) + ((27 : Nat) : Int) = 27 from rfl]
        · intro c' o e
          have ne : c' ≠ D := ne_of_none e hD
          rw [upd_ne ne]
          exact h2 _ _ e
      · refine ne_kb (h2 _ _ ht) h1 ⟨false, rfl, iteF ?_⟩
        have S8 : Same H6 H8 := s7.trans h2
        refine ⟨_, rfl, e5, c 27, d5, _, _, rfl, S8 _ _ E6, S8 _ _ D6, (by simp [List.lookup] : List.lookup ("line" : Str) [(("line" : Str), V.int line)] = some (V.int line)), T.e 27 (by decide), T.pe.noN, _, rfl, rfl, false, (by show V.bl (!decide (V.int line = V.int line)) = V.bl false; simp), iteF ?_⟩
        have mp : m ≠ p := ne_of hm L3.hp (by
          intro z
          have z' := congrArg List.length (HO.lst.inj z)
          rw [er.len] at z'
          rw [List.length_range] at z'
          simp at z')
        have m5 := keep5 _ _ mp (s4 _ _ hm)
        have er5 : Errs c H5 es (List.range 27) := (er.same s4).but L4.hp keep5
        have S58 : Same H5 H8 := S6.trans S8
        refine ⟨_, rfl, _, rfl, fun a8 h8 => ⟨by show 2 ≤ sizeLine; decide, fun q hq => ?_⟩⟩
        have S9 : Same H8 (upd (upd H8 a8 (ExO (.ref (c 28)) a8)) q (.lst [.ref e5, .ref a8])) := (new_same h8).trans (new_same hq)
        have A9 : (upd (upd H8 a8 (ExO (.ref (c 28)) a8)) q (.lst [.ref e5, .ref a8])) a8 = some (ExO (.ref (c 28)) a8) := new_same hq _ _ upd_same
        have le : es.length = 27 := er.len
        refine ⟨m, q, es, _, rfl, rfl, S9 _ _ (S58 _ _ m5), upd_same, (by rw [le]; show 29 ≤ sizeLine; decide), fun r hr => ⟨r, rfl, ⟨_, SqL.of upd_same⟩, ?_⟩⟩
        have S10 := S9.trans (new_same (o := .lst (es ++ [.ref e5, .ref a8])) hr)
        have R10 : (upd (upd (upd H8 a8 (ExO (.ref (c 28)) a8)) q (.lst [.ref e5, .ref a8])) r (.lst (es ++ [.ref e5, .ref a8]))) r = some (.lst (es ++ [.ref e5, .ref a8])) := upd_same
        have X10 : Errs c (upd (upd (upd H8 a8 (ExO (.ref (c 28)) a8)) q (.lst [.ref e5, .ref a8])) r (.lst (es ++ [.ref e5, .ref a8]))) (es ++ [.ref e5, .ref a8]) (List.range 29) := by
          rw [show List.range 29 = List.range 27 ++ [27, 28] by decide]
          exact Errs.app (er5.same (S58.trans S10)) (.cons (.inr ⟨d5, _, S10 _ _ (S8 _ _ E6), S10 _ _ (S8 _ _ D6)⟩) (.cons (.inl (new_same hr _ _ A9)) .nil))
        generalize (upd (upd (upd H8 a8 (ExO (.ref (c 28)) a8)) q (.lst [.ref e5, .ref a8])) r (.lst (es ++ [.ref e5, .ref a8]))) = HF at R10 X10 ⊢
        refine for_list (K := K) (a := r) (xs := es ++ [.ref e5, .ref a8]) (fun i σ H' => (∃ u, σ = [some (.ref a), some (.ref p), some (.ref m), v, some (.int line), some (.ref e5), u, none]) ∧ Same HF H') ⟨⟨none, rfl⟩, Same.refl _⟩ (fun i σ H' _ ⟨_, z⟩ => z.seq (SqL.of R10)) ?_ ?_
        · rintro i x σ H' hx ⟨⟨u, rfl⟩, sF⟩
          have hi : i < 29 := by
            have z := (List.getElem?_eq_some_iff.mp hx).1
            rw [X10.len, List.length_range] at z
            exact z
          obtain ⟨b, eb, hb⟩ := X10.at (k := i) (i := i) (by rw [List.getElem?_range hi])
          rw [eb] at hx
          cases hx
          refine ⟨_, rfl, b, c i, _, _, true, rfl, hb.same sF, T.e i hi, fun _ z => z, ((T.one i 28 hi (by decide)).trans (by simp)), true, rfl, iteF ?_⟩
          refine ⟨_, rfl, b, c i, _, _, true, rfl, hb.same sF, T.e i hi, fun _ z => z, T.val i hi, true, rfl, iteF ?_⟩
          exact ⟨⟨_, rfl⟩, sF⟩
        · rintro σ H' ⟨⟨u, rfl⟩, sF⟩
          refine fun a9 h9 => ⟨a9, 28, rfl, by decide, .inl upd_same, fun t' H9 s9 ht' => ?_⟩
          refine ⟨t', _, rfl, .inl (SqL.of ht'), rfl, by decide, ?_⟩
          exact k H9
end
end Own
namespace Own
open PySem L2
/-- what one class must say (an error's own class without an __init__ of its own, where b) -/
def chk1 (K : PySem.W.Frag) (b : Bool) (C : Addr) : Bool :=
  PySem.W.keepIn K (.ref C) && (!b || PySem.W.excIn K C bVE "ValueError.__new__") &&
  (PySem.W.findIn K (.ref C) "__getattribute__" == some (some (.builtin "BaseException.__getattribute__"))) && (PySem.W.findIn K (.ref C) "__getattr__" == some none) && (PySem.W.subIn K (.ref C) (.type "BaseException") == some true) &&
  PySem.W.hasDictIn K C && (PySem.W.findIn K (.ref C) "__class__" == some (some (.builtin "object.__class__"))) && (PySem.W.specialIn K (.builtin "object.__class__") "__get__" == some (some (.builtin "getset_descriptor.__get__"))) &&
  (PySem.W.takesIn K (.builtin "object.__class__") == some true) && (PySem.W.mroIn K C (.type "object") == some true) && (PySem.W.kitOne K (.ref C) (.type "ValueError") == some true)
def chkC (K : PySem.W.Frag) (Cs : List Addr) : Bool := (List.range 29).all fun i => chk1 K (decide (i ≠ 27)) (Cs.getD i 0)
def chkK (K : PySem.W.Frag) (Cs : List Addr) : Bool := (List.range 29).all fun i => (List.range 29).all fun j => PySem.W.kitOne K (.ref (Cs.getD i 0)) (.ref (Cs.getD j 0)) == some (decide (i = j ∨ j = 28))
theorem chk1_k {K : PySem.W.Frag} {b : Bool} {C : Addr} (h : chk1 K b C = true) : PySem.W.keepIn K (.ref C) = true ∧ (b = true → PySem.W.excIn K C bVE "ValueError.__new__" = true) ∧ ExcC K C ∧ PySem.W.kitOne K (.ref C) (.type "ValueError") = some true := by
  unfold chk1 at h
  simp only [Bool.and_eq_true, beq_iff_eq, Bool.or_eq_true, Bool.not_eq_true'] at h
  obtain ⟨⟨⟨⟨⟨⟨⟨⟨⟨⟨h1, h2⟩, h3⟩, h4⟩, h5⟩, h6⟩, h7⟩, h8⟩, h9⟩, h10⟩, h11⟩ := h
  refine ⟨h1, fun e => ?_, ⟨h3, h4, h5, h6, h7, h8, h9, h10⟩, h11⟩
  rcases h2 with h2 | h2
  · rw [e] at h2; cases h2
  · exact h2
theorem t40_of {P : Program} {K : PySem.W.Frag} {mg : Str → Option Value} {Cs : List Addr} {fI : Addr} (g : ∀ i, i < 29 → mg (nm i) = some (.ref (Cs.getD i 0))) (c1 : chkC K Cs = true) (c2 : chkK K Cs = true) (pe : PeTxt P K mg (Cs.getD 27 0) fI)
    (z1 : mg "isinstance" = none) (z2 : mg "range" = none) (z3 : mg "ValueError" = none) : T40 P K mg (fun i => Cs.getD i 0) fI := by
  have A : ∀ i, i < 29 → chk1 K (decide (i ≠ 27)) (Cs.getD i 0) = true := fun i hi => List.all_eq_true.mp c1 i (List.mem_range.mpr hi)
  refine ⟨g, fun i hi => (chk1_k (A i hi)).1, fun i hi h => (chk1_k (A i hi)).2.1 (by simpa using h), fun i hi => (chk1_k (A i hi)).2.2.1, fun i j hi hj => ?_, fun i hi => (chk1_k (A i hi)).2.2.2, pe, z1, z2, z3⟩
  have z := List.all_eq_true.mp (List.all_eq_true.mp c2 i (List.mem_range.mpr hi)) j (List.mem_range.mpr hj)
  exact beq_iff_eq.mp z

theorem all_mk {w : World} {K : PySem.W.Frag} {h : Heap} {mg : Str → Option Value} {fa fI f1 f2 f3 f4 f5 f6 a0 a1 a2 a3 a4 a5 a6 a7 a8 a9 a10 a11 a12 a13 a14 a15 a16 a17 a18 a19 a20 a21 a22 a23 a24 a25 a26 a27 a28 cda cc : Addr} (X : K.In h) (G : h.Ns mainGlobals mg) (hfa : mg "law" = some (.ref fa))
    {od1 an1 od2 an2 od3 an3 od4 an4 od5 an5 od6 an6 odI anI cdd cld : Option Addr} {sl1 sl2 sl3 sl4 sl5 sl6 slI ccs csl : Array (Option Value)} {vs : Array Value} {oc1 kV1 dc1 pm1 cd1 ct1 oc2 kV2 dc2 pm2 cd2 ct2 oc3 kV3 dc3 pm3 cd3 ct3 oc4 kV4 dc4 pm4 cd4 ct4 oc5 kV5 dc5 pm5 cd5 ct5 oc6 kV6 dc6 pm6 cd6 ct6 ocI dcI pmI ctI ccl cl : Value} {file : Str} {tf : Tok}
    {nm0 q0 : Str} {N0 : Addr} {bs0 bm0 : List Value} {sn0 : List Str} {sub0 : List Value} {ab0 : Bool} {col0 : Option Bool} {dd0 : Option Addr} {k0 k1 k2 k3 k5 : Option Value}
    (n1 : PySem.W.nsIn K mainGlobals "_law_pen" = some (some (.ref f1))) (l1 : K.lookup f1 = some ⟨oc1, od1, .func (PySem.W.fnOf "_law_pen" "_law_pen" (defArgs sPen) (defBody sPen) (defScope sPen) .none kV1 dc1 pm1 an1 cd1 ct1), sl1⟩) (c1 : PySem.W.codeIn K cd1 "_law_pen" = true) (k1_ : PySem.W.keepIn K (.ref f1) = true)
    (n2 : PySem.W.nsIn K mainGlobals "_law_next" = some (some (.ref f2))) (l2 : K.lookup f2 = some ⟨oc2, od2, .func (PySem.W.fnOf "_law_next" "_law_next" (defArgs sNext) (defBody sNext) (defScope sNext) .none kV2 dc2 pm2 an2 cd2 ct2), sl2⟩) (c2 : PySem.W.codeIn K cd2 "_law_next" = true) (k2_ : PySem.W.keepIn K (.ref f2) = true)
    (n3 : PySem.W.nsIn K mainGlobals "_law_draw" = some (some (.ref f3))) (l3 : K.lookup f3 = some ⟨oc3, od3, .func (PySem.W.fnOf "_law_draw" "_law_draw" (defArgs sDraw) (defBody sDraw) (defScope sDraw) .none kV3 dc3 pm3 an3 cd3 ct3), sl3⟩) (c3 : PySem.W.codeIn K cd3 "_law_draw" = true) (k3_ : PySem.W.keepIn K (.ref f3) = true)
    (n4 : PySem.W.nsIn K mainGlobals "_law_made" = some (some (.ref f4))) (l4 : K.lookup f4 = some ⟨oc4, od4, .func (PySem.W.fnOf "_law_made" "_law_made" (defArgs sMade) (defBody sMade) (defScope sMade) .none kV4 dc4 pm4 an4 cd4 ct4), sl4⟩) (c4 : PySem.W.codeIn K cd4 "_law_made" = true) (k4_ : PySem.W.keepIn K (.ref f4) = true)
    (n5 : PySem.W.nsIn K mainGlobals "_law_kinds" = some (some (.ref f5))) (l5 : K.lookup f5 = some ⟨oc5, od5, .func (PySem.W.fnOf "_law_kinds" "_law_kinds" (defArgs sKinds) (defBody sKinds) (defScope sKinds) .none kV5 dc5 pm5 an5 cd5 ct5), sl5⟩) (c5 : PySem.W.codeIn K cd5 "_law_kinds" = true) (k5_ : PySem.W.keepIn K (.ref f5) = true)
    (n6 : PySem.W.nsIn K mainGlobals "law" = some (some (.ref f6))) (l6 : K.lookup f6 = some ⟨oc6, od6, .func (PySem.W.fnOf "law" "law" (defArgs sLaw) (defBody sLaw) (defScope sLaw) .none kV6 dc6 pm6 an6 cd6 ct6), sl6⟩) (c6 : PySem.W.codeIn K cd6 "law" = true) (k6_ : PySem.W.keepIn K (.ref f6) = true)
    (ga0 : PySem.W.nsIn K mainGlobals "DuplicateName" = some (some (.ref a0)))
    (ga1 : PySem.W.nsIn K mainGlobals "Endless" = some (some (.ref a1)))
    (ga2 : PySem.W.nsIn K mainGlobals "InvalidCall" = some (some (.ref a2)))
    (ga3 : PySem.W.nsIn K mainGlobals "InvalidHash" = some (some (.ref a3)))
    (ga4 : PySem.W.nsIn K mainGlobals "InvalidLine" = some (some (.ref a4)))
    (ga5 : PySem.W.nsIn K mainGlobals "InvalidMarks" = some (some (.ref a5)))
    (ga6 : PySem.W.nsIn K mainGlobals "InvalidMove" = some (some (.ref a6)))
    (ga7 : PySem.W.nsIn K mainGlobals "InvalidName" = some (some (.ref a7)))
    (ga8 : PySem.W.nsIn K mainGlobals "InvalidNumber" = some (some (.ref a8)))
    (ga9 : PySem.W.nsIn K mainGlobals "InvalidPairs" = some (some (.ref a9)))
    (ga10 : PySem.W.nsIn K mainGlobals "InvalidPlace" = some (some (.ref a10)))
    (ga11 : PySem.W.nsIn K mainGlobals "InvalidRoad" = some (some (.ref a11)))
    (ga12 : PySem.W.nsIn K mainGlobals "InvalidRule" = some (some (.ref a12)))
    (ga13 : PySem.W.nsIn K mainGlobals "InvalidRun" = some (some (.ref a13)))
    (ga14 : PySem.W.nsIn K mainGlobals "InvalidShape" = some (some (.ref a14)))
    (ga15 : PySem.W.nsIn K mainGlobals "InvalidStory" = some (some (.ref a15)))
    (ga16 : PySem.W.nsIn K mainGlobals "InvalidTrace" = some (some (.ref a16)))
    (ga17 : PySem.W.nsIn K mainGlobals "InvalidWidth" = some (some (.ref a17)))
    (ga18 : PySem.W.nsIn K mainGlobals "Mismatch" = some (some (.ref a18)))
    (ga19 : PySem.W.nsIn K mainGlobals "Moving" = some (some (.ref a19)))
    (ga20 : PySem.W.nsIn K mainGlobals "NothingToUndo" = some (some (.ref a20)))
    (ga21 : PySem.W.nsIn K mainGlobals "Over" = some (some (.ref a21)))
    (ga22 : PySem.W.nsIn K mainGlobals "UnknownChange" = some (some (.ref a22)))
    (ga23 : PySem.W.nsIn K mainGlobals "UnknownCursor" = some (some (.ref a23)))
    (ga24 : PySem.W.nsIn K mainGlobals "UnknownLabel" = some (some (.ref a24)))
    (ga25 : PySem.W.nsIn K mainGlobals "UnknownName" = some (some (.ref a25)))
    (ga26 : PySem.W.nsIn K mainGlobals "UnknownShape" = some (some (.ref a26)))
    (ga27 : PySem.W.nsIn K mainGlobals "ParseError" = some (some (.ref a27)))
    (ga28 : PySem.W.nsIn K mainGlobals "CursorError" = some (some (.ref a28)))
    (c1_ : chkC K [a0, a1, a2, a3, a4, a5, a6, a7, a8, a9, a10, a11, a12, a13, a14, a15, a16, a17, a18, a19, a20, a21, a22, a23, a24, a25, a26, a27, a28] = true) (c2_ : chkK K [a0, a1, a2, a3, a4, a5, a6, a7, a8, a9, a10, a11, a12, a13, a14, a15, a16, a17, a18, a19, a20, a21, a22, a23, a24, a25, a26, a27, a28] = true)
    (z_list : PySem.W.nsIn K mainGlobals "list" = some none)
    (z_int : PySem.W.nsIn K mainGlobals "int" = some none)
    (z_len : PySem.W.nsIn K mainGlobals "len" = some none)
    (z_isinstance : PySem.W.nsIn K mainGlobals "isinstance" = some none)
    (z_range : PySem.W.nsIn K mainGlobals "range" = some none)
    (z_ValueError : PySem.W.nsIn K mainGlobals "ValueError" = some none)
    (z_super : PySem.W.nsIn K mainGlobals "super" = some none)
    (pC : K.lookup a27 = some (excClassObj nm0 q0 a27 N0 bs0 bm0 true sn0 sub0 ab0 col0 dd0 k0 k1 k2 k3 k5 "ValueError.__new__")) (pB : PySem.HandSPX.refsVE bm0 = true)
    (pS : PySem.W.findIn K (.ref a27) "__setattr__" = some (some (.builtin "object.__setattr__"))) (pE : PySem.W.subIn K (.ref a27) (.type "BaseException") = some true) (pT : PySem.W.typeIn K (.ref a27) = some (.type "type")) (pK : PySem.W.keepIn K (.ref a27) = true)
    (pI : PySem.W.findIn K (.ref a27) "__init__" = some (some (.ref fI))) (pF : PySem.W.typeIn K (.ref fI) = some (.type "function")) (pN : PySem.W.findIn K (.ref a27) "line" = some none) (pD : PySem.W.hasDictIn K a27 = true) (pU : PySem.W.ks_superIn K a27 a27 "__init__" = some (some (.builtin "ValueError.__init__")))
    (pV : PySem.W.subIn K (.ref a27) (.type "ValueError") = some true) (pO : PySem.W.mroIn K a27 (.ref a27) = some true) (pY : PySem.W.nsIn K PySem.cStatics "thirdparty.any" = some none)
    (pL : K.lookup fI = some ⟨ocI, odI, .func (PySem.W.ksFn "__init__" "ParseError.__init__" (defArgs sPI) (defBody sPI) (defScope sPI) .none .none dcI pmI anI (.ref cda) ctI cc), slI⟩) (pG : PySem.W.codeIn K (.ref cda) "ParseError.__init__" = true)
    (pM : K.lookup cda = some ⟨ccl, cdd, .fields vs, ccs⟩) (pP : vs[2]? = some (.str file tf)) (pQ : ((PySem.Challenge.rw_seencursors_k40_errors.prog.main.file : Str) == file) = true) (pR : K.lookup cc = some ⟨cl, cld, .cell (some (.ref a27)), csl⟩)
    (pX : (PySem.Challenge.rw_seencursors_k40_errors.prog.main.scope.names.lookup ("super" : Str)).isSome = false) :
    ∃ fd : FuncData, (∀ (s : Shared) (v : Value), BindsTo s fd ⟨[v], []⟩ [("script", v)]) ∧ ∀ base : Heap, K.In base → base.Ns mainGlobals mg → FnOk PySem.Challenge.rw_seencursors_k40_errors.prog w K mg base CX0 3 fa fd ["script"] (spLaw K) := by
  have e := hfa.symm.trans (PySem.W.mg_of X G n6)
  cases e
  have B : Blt mg := ⟨PySem.W.mg_none_of X G z_list, PySem.W.mg_none_of X G z_int, PySem.W.mg_none_of X G z_len⟩
  have pe : PeTxt PySem.Challenge.rw_seencursors_k40_errors.prog K mg a27 fI := ⟨⟨⟨_, _, _, _, _, _, _, _, _, _, _, _, _, _, _, pC, pB⟩, pS, pE, pT, pK⟩, pI, pF, pN, pD, pU, pV, pO, pY, PySem.W.mg_none_of X G z_super, ⟨_, _, _, _, _, _, _, _, _, _, _, _, _, _, _, _, _, _, pL, pG, pM, pP, pQ, pR, pX⟩⟩
  have T : T40 PySem.Challenge.rw_seencursors_k40_errors.prog K mg (fun i => ([a0, a1, a2, a3, a4, a5, a6, a7, a8, a9, a10, a11, a12, a13, a14, a15, a16, a17, a18, a19, a20, a21, a22, a23, a24, a25, a26, a27, a28] : List Addr).getD i 0) fI := t40_of (fun i hi => by
    match i, hi with

    | 0, _ => exact PySem.W.mg_of X G ga0
    | 1, _ => exact PySem.W.mg_of X G ga1
    | 2, _ => exact PySem.W.mg_of X G ga2
    | 3, _ => exact PySem.W.mg_of X G ga3
    | 4, _ => exact PySem.W.mg_of X G ga4
    | 5, _ => exact PySem.W.mg_of X G ga5
    | 6, _ => exact PySem.W.mg_of X G ga6
    | 7, _ => exact PySem.W.mg_of X G ga7
    | 8, _ => exact PySem.W.mg_of X G ga8
    | 9, _ => exact PySem.W.mg_of X G ga9
    | 10, _ => exact PySem.W.mg_of X G ga10
    | 11, _ => exact PySem.W.mg_of X G ga11
    | 12, _ => exact PySem.W.mg_of X G ga12
    | 13, _ => exact PySem.W.mg_of X G ga13
    | 14, _ => exact PySem.W.mg_of X G ga14
    | 15, _ => exact PySem.W.mg_of X G ga15
    | 16, _ => exact PySem.W.mg_of X G ga16
    | 17, _ => exact PySem.W.mg_of X G ga17
    | 18, _ => exact PySem.W.mg_of X G ga18
    | 19, _ => exact PySem.W.mg_of X G ga19
    | 20, _ => exact PySem.W.mg_of X G ga20
    | 21, _ => exact PySem.W.mg_of X G ga21
    | 22, _ => exact PySem.W.mg_of X G ga22
    | 23, _ => exact PySem.W.mg_of X G ga23
    | 24, _ => exact PySem.W.mg_of X G ga24
    | 25, _ => exact PySem.W.mg_of X G ga25
    | 26, _ => exact PySem.W.mg_of X G ga26
    | 27, _ => exact PySem.W.mg_of X G ga27
    | 28, _ => exact PySem.W.mg_of X G ga28
    | n + 29, hi => exact absurd hi (by omega)
    ) c1_ c2_ pe (PySem.W.mg_none_of X G z_isinstance) (PySem.W.mg_none_of X G z_range) (PySem.W.mg_none_of X G z_ValueError)
  have F1 := fun_mk (st := sPen) l1 c1 k1_
  have F2 := fun_mk (st := sNext) l2 c2 k2_
  have F3 := fun_mk (st := sDraw) l3 c3 k3_
  have F4 := fun_mk (st := sMade) l4 c4 k4_
  have F5 := fun_mk (st := sKinds) l5 c5 k5_
  have F6 := fun_mk (st := sLaw) l6 c6 k6_
  have b1 := F1.binds (ps := ["script"]) fun _ _ _ _ _ _ us hl => match us, hl with | [_], _ => rfl
  have b2 := F2.binds (ps := ["pen"]) fun _ _ _ _ _ _ us hl => match us, hl with | [_], _ => rfl
  have b3 := F3.binds (ps := ["pen", "under"]) fun _ _ _ _ _ _ us hl => match us, hl with | [_, _], _ => rfl
  have b4 := F4.binds (ps := ["word"]) fun _ _ _ _ _ _ us hl => match us, hl with | [_], _ => rfl
  have b5 := F5.binds (ps := ["caught"]) fun _ _ _ _ _ _ us hl => match us, hl with | [_], _ => rfl
  have G1 : ∀ base, FnOk PySem.Challenge.rw_seencursors_k40_errors.prog w K mg base CX0 1 f1 _ ["script"] (spPen K) := fun base => ok_pen F1 B.lst
  have G2 : ∀ base, FnOk PySem.Challenge.rw_seencursors_k40_errors.prog w K mg base CX0 1 f2 _ ["pen"] spNext := fun base => ok_next F2 B
  have G3 : ∀ base, FnOk PySem.Challenge.rw_seencursors_k40_errors.prog w K mg base CX0 2 f3 _ ["pen", "under"] spDraw := fun base => ok_draw F3 B (G2 base) (PySem.W.mg_of X G n2) k2_ b2
  have G4 : ∀ base, FnOk PySem.Challenge.rw_seencursors_k40_errors.prog w K mg base CX0 1 f4 _ ["word"] (spMade _) := fun base => ok_made F4 T
  have G5 : ∀ base, FnOk PySem.Challenge.rw_seencursors_k40_errors.prog w K mg base CX0 1 f5 _ ["caught"] (spKinds _) := fun base => ok_kinds F5 T
  exact ⟨PySem.W.fnOf "law" "law" (defArgs sLaw) (defBody sLaw) (defScope sLaw) .none kV6 dc6 pm6 an6 cd6 ct6, fun s v => .of_eq rfl, fun base _ _ =>
    ok_law F6 T (G1 base) (PySem.W.mg_of X G n1) k1_ b1 (G3 base) (PySem.W.mg_of X G n3) k3_ b3 (G4 base) (PySem.W.mg_of X G n4) k4_ b4 (G5 base) (PySem.W.mg_of X G n5) k5_ b5⟩
theorem walk {q : Program} {loose : List Str} {XP : (Str → Option Value) → Heap → Prop} {YP : World → Heap → Prop} {d : DefRec} {K : Params → PySem.W.Frag} (hn : PySem.Challenge.rw_seencursors_k40_errors.most = some 63) (hdf : d.params.defaults = [])
    (hY : ∀ (w : World) (h : Heap), YP w h → (K w.params).In h)
    (F : ∀ (w : World) (mg : Str → Option Value) (fa : Addr) (h : Heap), (K w.params).In h → h.Ns mainGlobals mg → mg d.name = some (.ref fa) →
      ∃ fd : FuncData, (∀ (s : Shared) (u : Value), BindsTo s fd ⟨[u], []⟩ [("script", u)]) ∧ ∀ base : Heap, (K w.params).In base → base.Ns mainGlobals mg → FnOk PySem.Challenge.rw_seencursors_k40_errors.prog w (K w.params) mg base CX0 3 fa fd ["script"] (spLaw (K w.params))) :
    PySem.W.WalkO q loose XP YP PySem.Challenge.rw_seencursors_k40_errors.row.toRowW d [] (fun f vs => PySem.call f vs) :=
  L2.walk_of (l := PySem.Challenge.rw_seencursors_k40_errors) (n := 63) (k := 3) (x := "script") (CX := fun _ => CX0) (sp := fun w => spLaw (K w.params)) hn (by decide) hdf ⟨rfl, by decide, by decide⟩ hY F (fun _ _ a ns hl _ hS => ⟨a, ns, rfl, hS, fun _ => rfl⟩) fun _ _ _ _ _ z => z
end Own
open PySem PySem.W PyProof.Rows
set_option maxRecDepth 100000 in
set_option maxHeartbeats 0 in
theorem PySem.Challenge.cw_seencursors_k40_errors_holds : PySem.Challenge.rw_seencursors_k40_errors.Holds := by
  w_on; o_law; k_head; (case hw => w_witness2)
  k_fill
  refine Own.walk rfl rfl (fun w h Y => PySem.W.kIn_of Y) ?F
  case F =>
    intro w mg fa h KX G hmg
    refine' Own.all_mk KX G hmg ?n1 ?l1 ?c1 ?k1_ ?n2 ?l2 ?c2 ?k2_ ?n3 ?l3 ?c3 ?k3_ ?n4 ?l4 ?c4 ?k4_ ?n5 ?l5 ?c5 ?k5_ ?n6 ?l6 ?c6 ?k6_ ?ga0 ?ga1 ?ga2 ?ga3 ?ga4 ?ga5 ?ga6 ?ga7 ?ga8 ?ga9 ?ga10 ?ga11 ?ga12 ?ga13 ?ga14 ?ga15 ?ga16 ?ga17 ?ga18 ?ga19 ?ga20 ?ga21 ?ga22 ?ga23 ?ga24 ?ga25 ?ga26 ?ga27 ?ga28 ?c1_ ?c2_ ?z_list ?z_int ?z_len ?z_isinstance ?z_range ?z_ValueError ?z_super ?pC ?pB ?pS ?pE ?pT ?pK ?pI ?pF ?pN ?pD ?pU ?pV ?pO ?pY ?pL ?pG ?pM ?pP ?pQ ?pR ?pX
    (case n1 => k_is)
    (case l1 => k_is)
    (case c1 => k_is)
    (case k1_ => k_is)
    (case n2 => k_is)
    (case l2 => k_is)
    (case c2 => k_is)
    (case k2_ => k_is)
    (case n3 => k_is)
    (case l3 => k_is)
    (case c3 => k_is)
    (case k3_ => k_is)
    (case n4 => k_is)
    (case l4 => k_is)
    (case c4 => k_is)
    (case k4_ => k_is)
    (case n5 => k_is)
    (case l5 => k_is)
    (case c5 => k_is)
    (case k5_ => k_is)
    (case n6 => k_is)
    (case l6 => k_is)
    (case c6 => k_is)
    (case k6_ => k_is)
    (case ga0 => k_is)
    (case ga1 => k_is)
    (case ga2 => k_is)
    (case ga3 => k_is)
    (case ga4 => k_is)
    (case ga5 => k_is)
    (case ga6 => k_is)
    (case ga7 => k_is)
    (case ga8 => k_is)
    (case ga9 => k_is)
    (case ga10 => k_is)
    (case ga11 => k_is)
    (case ga12 => k_is)
    (case ga13 => k_is)
    (case ga14 => k_is)
    (case ga15 => k_is)
    (case ga16 => k_is)
    (case ga17 => k_is)
    (case ga18 => k_is)
    (case ga19 => k_is)
    (case ga20 => k_is)
    (case ga21 => k_is)
    (case ga22 => k_is)
    (case ga23 => k_is)
    (case ga24 => k_is)
    (case ga25 => k_is)
    (case ga26 => k_is)
    (case ga27 => k_is)
    (case ga28 => k_is)
    (case c1_ => kernel_rfl)
    (case c2_ => kernel_rfl)
    (case z_list => k_is)
    (case z_int => k_is)
    (case z_len => k_is)
    (case z_isinstance => k_is)
    (case z_range => k_is)
    (case z_ValueError => k_is)
    (case z_super => k_is)
    (case pC => k_is)
    (case pB => decide +kernel)
    (case pS => k_is)
    (case pE => k_is)
    (case pT => k_is)
    (case pK => k_is)
    (case pI => k_is)
    (case pF => k_is)
    (case pN => k_is)
    (case pD => k_is)
    (case pU => ks_is)
    (case pV => k_is)
    (case pO => k_is)
    (case pY => k_is)
    (case pL => k_is)
    (case pG => k_is)
    (case pM => k_is)
    (case pP => rfl)
    (case pQ => decide +kernel)
    (case pR => k_is)
    (case pX => decide +kernel)
