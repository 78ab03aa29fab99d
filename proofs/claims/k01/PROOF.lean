import PyProof.Rows.All
import Wide.All
import OpenK.AllK
import Wide.FinOn
import HandS.ForMost
import HandS.ForExc
import HandS.Style
import HandS.ExcValue
import HandS.IsInst
import HandS.ExcInit
import HandS.ExcIs
import KE.KExcInit
import PyProof.ExcBaseAll.Exception
import PyProof.InstStoreFacts
import HandS.MakeKwOnly
import HandS.ExcField
import KE.KExcIs
import PyProof.ReprRoads
import HandS.Ends
import PySem.Challenge.RW_loghouse_k01_errors_of_any_value
set_option Elab.async false
set_option linter.all false
set_option maxRecDepth 100000
set_option maxHeartbeats 2000000
namespace KL
open PySem L2
/-! ### the text -/
def top (i : Nat) : Stmt := PySem.Challenge.pw_loghouse_k01_errors_of_any_value.main.body.getD i (.Pass ⟨0, 0, 0, 0⟩)
abbrev sDeck : Stmt := top 22
abbrev sDraw : Stmt := top 23
abbrev sPick : Stmt := top 24
abbrev sIt : Stmt := top 25

/-! ### the deck -/
def dk (l : Addr) (m t : Int) : List (Key × V) := [(Sum.inr "cells", V.ref l), (Sum.inr "mixed", V.int m), (Sum.inr "turn", V.int t)]
def DeckAt (H0 H : Hp) (p : Addr) (t : Int) : Prop := Same H0 H ∧ H0 p = none ∧ ∃ (l : Addr) (ns : List Int) (m : Int), H0 l = none ∧ H p = some (.dK (dk l m t)) ∧ H l = some (.lst (ns.map V.int)) ∧ ns.length ≤ 63 ∧ 0 ≤ m ∧ m < 2147483629
def spDeck (K : PySem.W.Frag) : Sp := fun vs H Q _ => ∃ (a : Addr) (ns : List Int), vs = [.ref a] ∧ SqL K H a (ns.map V.int) ∧ ns.length ≤ 63 ∧ ∀ H' p, DeckAt H H' p 0 → Q (.ref p) H'
def spDraw : Sp := fun vs H Q _ => ∃ (H0 : Hp) (p : Addr) (t b : Int), vs = [.ref p, .int b] ∧ DeckAt H0 H p t ∧ 0 ≤ t ∧ t < 1048576 ∧ 0 < b ∧ b < 1048576 ∧ ∀ H' r, DeckAt H0 H' p (t + 1) → 0 ≤ r → r < b → Q (.int r) H'

theorem dk_cells (l : Addr) (m t : Int) : valV (dk l m t) (Sum.inr "cells") = some (V.ref l) := by rfl
theorem dk_mixed (l : Addr) (m t : Int) : valV (dk l m t) (Sum.inr "mixed") = some (V.int m) := by rfl
theorem dk_turn (l : Addr) (m t : Int) : valV (dk l m t) (Sum.inr "turn") = some (V.int t) := by rfl
theorem dk_put (l : Addr) (m t u : Int) : putK (dk l m t) (Sum.inr "turn") (V.int u) = dk l m u := by rfl
end KL
set_option Elab.async false
set_option linter.all false
set_option maxRecDepth 100000
set_option maxHeartbeats 2000000
namespace KL
open PySem L2
structure TxtD (mg : Str → Option Value) : Prop where
  list : mg "list" = none
  int : mg "int" = none
  len : mg "len" = none
section
variable {P : Program} {w : World} {K : PySem.W.Frag} {mg : Str → Option Value} {base : Heap}
theorem scDeck : FnScope ["_law_script", "_law_cells", "_law_mixed", "_law_cell"] ["_law_script"] (defScope sDeck) := ⟨rfl, rfl, rfl, by decide +kernel, rfl, by decide +kernel, by decide +kernel⟩
theorem cut_ints (ns : List Int) (lo hi : Option Int) : ∃ ms : List Int, cutV (ns.map V.int) lo hi = ms.map V.int ∧ ms.length ≤ ns.length :=
  ⟨(ns.drop (HT.sIx (ns.map V.int).length 0 lo)).take (HT.sIx (ns.map V.int).length (ns.map V.int).length hi - HT.sIx (ns.map V.int).length 0 lo), by unfold cutV; rw [List.map_take, List.map_drop], by rw [List.length_take, List.length_drop]; omega⟩
theorem ok_deck {f : Addr} {fd : FuncData} (F : Fun K "_law_deck" "_law_deck" sDeck f fd) (T : TxtD mg) : FnOk P w K mg base CX0 1 f fd ["_law_script"] (spDeck K) := by
  refine F.ok scDeck (fun vs H Q E h => ?_) (fun cdv A outer s H vs Q E hr h => ?_)
  · obtain ⟨a, ns, rfl, _⟩ := h
    rfl
  · obtain ⟨a, ns, rfl, hS, hlen, k⟩ := h
    refine ⟨_, pss_cons (ps_par (i := 1) (j := 2) (by rfl) scDeck.nd rfl rfl (by decide) rfl rfl (pa_cons (pe_callTy call_list_of (by rfl) T.list (by decide +kernel) (pa_cons (pe_slice sl_list (pv 0) po_none (po_some pe_int)) pa_nil)) (pa_cons pe_int pa_nil)) (by rfl))
      (pss_cons (ps_for PassesOwn.never rfl (pi_list (pv 1)) (pg_name (i := 3) scDeck.nd rfl (.inl rfl))
        (pss_one (ps_set (i := 2) scDeck.nd rfl (.inl rfl) (pe_op op_mod (pe_callTy call_int1 (by rfl) T.int (by decide +kernel) (pa_cons (pe_op op_add (pe_op op_add (pe_op op_mul (pv 2) pe_int) (pe_op op_mod (pe_callTy call_int1 (by rfl) T.int (by decide +kernel) (pa_cons (pv 3) pa_nil)) pe_int)) pe_int) pa_nil)) pe_int))))
      (pss_one (ps_ret (pe_disp (pps_cons pe_str (pe_revL (pv 1)) (pps_cons pe_str (pv 2) (pps_cons pe_str pe_int pps_nil))) (by rfl) (by rfl) (fun z => by cases z) (by decide))))), ?_⟩
    refine ⟨_, rfl, _, rfl, a, _, rfl, hS, fun p0 hp0 => ?_⟩
    obtain ⟨ms, ems, hms⟩ := cut_ints ns none (some 63)
    refine ⟨p0, ms.map V.int, rfl, .inl (SqL.of (by rw [upd_same]; exact congrArg some (congrArg HO.lst ems))), fun l hl => ?_⟩
    have npl : l ≠ p0 := fun q => by
      rw [q, upd_same] at hl
      cases hl
    have hl0 : H l = none := by
      rw [upd_ne npl] at hl
      exact hl
    refine ⟨_, _, rfl, ?_⟩
    have hSm : SqL K (upd (upd H p0 (HO.lst (cutV (List.map V.int ns) none (some 63)))) l (HO.lst (List.map V.int ms))) l (ms.map V.int) := SqL.of upd_same
    refine ⟨_, rfl, l, rfl, ⟨_, hSm⟩, for_list (K := K) (a := l) (xs := ms.map V.int) (fun i σ H' => H' = upd (upd H p0 (HO.lst (cutV (List.map V.int ns) none (some 63)))) l (HO.lst (List.map V.int ms)) ∧ ∃ (m : Int) (v : Option V), σ = [some (.ref a), some (.ref l), some (.int m), v] ∧ 0 ≤ m ∧ m < 2147483629)
      ⟨rfl, 186301, none, rfl, by decide, by decide⟩ (fun i σ H' _ ⟨e, _⟩ => e ▸ hSm) ?_ ?_⟩
    · rintro i y σ H' hi ⟨rfl, m, v, rfl, m0, m1⟩
      obtain ⟨u, rfl⟩ : ∃ u, y = V.int u := by
        rw [List.getElem?_map] at hi
        cases e : ms[i]? with
        | none =>
          rw [e] at hi
          cases hi
        | some u =>
          rw [e] at hi
          exact ⟨u, (Option.some.inj hi).symm⟩
      refine ⟨_, rfl, _, _, rfl, rfl, .inl ⟨by omega, by omega⟩, ?_⟩
      refine ⟨_, rfl, .inl ⟨_, rfl, ?_⟩⟩
      refine ⟨_, _, rfl, rfl, (by show (0 : Int) < 2147483587; decide), ?_⟩
      refine ⟨_, _, rfl, rfl, _, _, rfl, rfl, .inl ⟨_, rfl, ?_⟩⟩
      refine ⟨_, _, rfl, rfl, (by show (0 : Int) < 2147483629; decide), ?_⟩
      exact ⟨rfl, _, _, rfl, Int.emod_nonneg _ (by decide), Int.emod_lt_of_pos _ (by decide)⟩
    · rintro σ H' ⟨rfl, m, v, rfl, m0, m1⟩
      have same1 : Same H (upd (upd H p0 (HO.lst (cutV (List.map V.int ns) none (some 63)))) l (HO.lst (List.map V.int ms))) := fun b o e => by
        rw [upd_ne (ne_of_none e hl0), upd_ne (ne_of_none e hp0)]
        exact e
      revert hSm same1
      generalize upd (upd H p0 (HO.lst (cutV (List.map V.int ns) none (some 63)))) l (HO.lst (List.map V.int ms)) = H1
      intro hSm same1 p hp
      refine ⟨_, rfl, l, _, rfl, Same.seq (fun b o e => by rw [upd_ne (ne_of_none e hp)]; exact e) hSm, fun q hq => ?_⟩
      have nqp : q ≠ p := fun z => by
        rw [z, upd_same] at hq
        cases hq
      have hq1 : H1 q = none := by
        rw [upd_ne nqp] at hq
        exact hq
      refine ⟨_, rfl, (by rw [upd_ne nqp.symm, upd_same]), [(Sum.inr "cells", V.ref q), (Sum.inr "mixed", V.int m), (Sum.inr "turn", V.int 0)], rfl, (by show 3 ≤ 15; decide), k _ _ ⟨fun b o e => ?_, same1.free hp, q, ms.reverse, m, same1.free hq1, upd_same, ?_, ?_, m0, m1⟩⟩
      · have e1 := same1 b o e
        rw [upd_ne (ne_of_none e1 hp), upd_ne (ne_of_none e1 hq1), upd_ne (ne_of_none e1 hp)]
        exact e1
      · rw [upd_ne nqp, upd_same, List.map_reverse]
      · rw [List.length_reverse]
        exact Nat.le_trans hms hlen
end
end KL
set_option Elab.async false
set_option linter.all false
set_option maxRecDepth 100000
set_option maxHeartbeats 2000000
namespace KL
open PySem L2
theorem dg_cells {H : Hp} {p l : Addr} {m t : Int} (h : H p = some (.dK (dk l m t))) : DGet H p (.str "cells") (some (.ref l)) := DGet.k (k := Sum.inr "cells") h
theorem dg_mixed {H : Hp} {p l : Addr} {m t : Int} (h : H p = some (.dK (dk l m t))) : DGet H p (.str "mixed") (some (.int m)) := DGet.k (k := Sum.inr "mixed") h
theorem dg_turn {H : Hp} {p l : Addr} {m t : Int} (h : H p = some (.dK (dk l m t))) : DGet H p (.str "turn") (some (.int t)) := DGet.k (k := Sum.inr "turn") h
theorem dp_turn {H : Hp} {p l : Addr} {m t u : Int} (h : H p = some (.dK (dk l m t))) : DPut H p (.str "turn") (.int u) (upd H p (.dK (dk l m u))) := DPut.k (k := Sum.inr "turn") h (by show 3 < sizeLine; decide)
theorem dp_ints {K : PySem.W.Frag} {H : Hp} : ∀ ns : List Int, DpAll K H (ns.map V.int) (ns.map PyData.int)
  | [] => .nil
  | n :: r => .cons (.int n) (dp_ints r)
theorem lay_ints : ∀ ns : List Int, PyData.canLayAll0 (ns.map PyData.int) = true
  | [] => rfl
  | n :: r => by
    show (true && PyData.canLayAll0 (r.map PyData.int)) = true
    rw [lay_ints r]
    rfl
theorem depth_ints : ∀ ns : List Int, PyData.depthAll (ns.map PyData.int) = 0
  | [] => rfl
  | n :: r => by
    show max 0 (PyData.depthAll (r.map PyData.int)) = 0
    rw [depth_ints r]
    rfl
theorem shaped_ints (ns : List Int) : SeqAt.shaped (PyData.list (ns.map PyData.int)) = true := by
  show (PyData.canLayAll0 (ns.map PyData.int) && decide (PyData.depthAll (ns.map PyData.int) + 1 ≤ 64)) = true
  rw [lay_ints, depth_ints]
  rfl
section
variable {P : Program} {w : World} {K : PySem.W.Frag} {mg : Str → Option Value} {base : Heap}
theorem scDraw : FnScope ["_law_deck_here", "_law_below", "_law_mixed", "_law_cell"] ["_law_deck_here", "_law_below"] (defScope sDraw) := ⟨rfl, rfl, rfl, by decide +kernel, rfl, by decide +kernel, by decide +kernel⟩
theorem ok_draw {f : Addr} {fd : FuncData} (F : Fun K "_law_draw" "_law_draw" sDraw f fd) (T : TxtD mg) : FnOk P w K mg base CX0 1 f fd ["_law_deck_here", "_law_below"] spDraw := by
  refine F.ok scDraw (fun vs H Q E h => ?_) (fun cdv A outer s H vs Q E hr h => ?_)
  · obtain ⟨H0, p, t, b, rfl, _⟩ := h
    rfl
  · obtain ⟨H0, p, t, b, rfl, ⟨s0, p0, l, ns, m, l0, hp, hl, hlen, m0, m1⟩, t0, t1, b0, b1, k⟩ := h
    have hu := hu_of hr
    have nlp : l ≠ p := ne_of hl hp (by intro q; cases q)
    refine ⟨_, pss_cons (ps_dput hu (pv 0) pe_str (pe_op op_add (pe_dget hu (pv 0) pe_str (fun _ _ => rfl)) pe_int) rfl)
      (pss_cons (ps_set (i := 2) scDraw.nd rfl (.inl rfl) (pe_op op_add (pe_dget hu (pv 0) pe_str (fun _ _ => rfl)) (pe_op op_mul (pe_op op_mul pe_int (pe_dget hu (pv 0) pe_str (fun _ _ => rfl))) (pe_dget hu (pv 0) pe_str (fun _ _ => rfl)))))
      (pss_cons (ps_if (pt_cmpR (op_neD hr.units) (pe_dget hu (pv 0) pe_str (fun _ _ => rfl)) (pe_lst pa_nil) (nomark _))
        (pss_cons (ps_set (i := 3) scDraw.nd rfl (.inl rfl) (pe_bm0 PySem.F.plainAttrs_list PySem.F.slot_list_pop PySem.F.type_list_pop mt_pop (pe_dget hu (pv 0) pe_str (fun _ _ => rfl))))
        (pss_cons (ps_if (pt_cmpR op_ge (pv 3) (pe_op op_pow pe_int pe_int) (nomark _))
          (pss_cons (ps_expr (pe_bm PySem.F.plainAttrs_list PySem.F.slot_list_append PySem.F.type_list_append mt_append (pe_dget hu (pv 0) pe_str (fun _ _ => rfl)) (pa_cons (pe_op op_fdiv (pv 3) (pv 1)) pa_nil)))
          (pss_one (ps_ret (pe_op op_mod (pe_callTy call_int1 (by rfl) T.int (by decide +kernel) (pa_cons (pv 3) pa_nil)) (pv 1))))) pss_nil)
        (pss_one (ps_set (i := 2) scDraw.nd rfl (.inl rfl) (pe_op op_add (pv 2) (pe_op op_mod (pe_callTy call_int1 (by rfl) T.int (by decide +kernel) (pa_cons (pv 3) pa_nil)) pe_int)))))) pss_nil)
      (pss_cons (ps_set (i := 2) scDraw.nd rfl (.inl rfl) (pe_op op_mod (pe_callTy call_int1 (by rfl) T.int (by decide +kernel) (pa_cons (pe_op op_add (pe_op op_mul (pe_op op_mod (pv 2) pe_int) pe_int) (pe_dget hu (pv 0) pe_str (fun _ _ => rfl))) pa_nil)) pe_int))
      (pss_cons (ps_set (i := 2) scDraw.nd rfl (.inl rfl) (pe_op op_mod (pe_callTy call_int1 (by rfl) T.int (by decide +kernel) (pa_cons (pe_op op_add (pe_op op_add (pe_op op_mul (pv 2) (pv 2)) (pe_op op_mul pe_int (pe_dget hu (pv 0) pe_str (fun _ _ => rfl)))) pe_int) pa_nil)) pe_int))
      (pss_one (ps_ret (pe_op op_mod (pe_op op_fdiv (pe_op op_mod (pe_callTy call_int1 (by rfl) T.int (by decide +kernel) (pa_cons (pe_op op_mul (pv 2) pe_int) pa_nil)) pe_int) pe_int) (pv 1)))))))), ?_⟩
    refine ⟨_, rfl, p, _, rfl, dg_turn hp, _, _, rfl, rfl, _, rfl, p, _, rfl, dp_turn hp, ?_⟩
    have hp1 : (upd H p (.dK (dk l m (t + 1)))) p = some (.dK (dk l m (t + 1))) := upd_same
    have hl1 : (upd H p (.dK (dk l m (t + 1)))) l = some (.lst (ns.map V.int)) := by rw [upd_ne nlp]; exact hl
    have s1 : Same H0 (upd H p (.dK (dk l m (t + 1)))) := fun b o e => by
      rw [upd_ne (ne_of_none e p0)]
      exact s0 b o e
    clear hp hl s0
    revert hp1 hl1 s1
    generalize upd H p (.dK (dk l m (t + 1))) = H1
    intro hp hl s0
    refine ⟨_, rfl, p, _, rfl, dg_mixed hp, _, rfl, p, _, rfl, dg_turn hp, _, _, rfl, rfl, .inl ⟨by decide, by decide⟩, ?_⟩
    refine ⟨_, rfl, p, _, rfl, dg_turn hp, _, _, rfl, rfl, .inr ⟨by omega, by omega⟩, _, _, rfl, rfl, ?_⟩
    refine ⟨_, rfl, p, _, rfl, dg_cells hp, Nat.zero_le _, fun q hq => ?_⟩
    have hp1 : (upd H1 q (.lst [])) p = some (.dK (dk l m (t + 1))) := by rw [upd_ne (ne_of_none hp hq)]; exact hp
    have hl1 : (upd H1 q (.lst [])) l = some (.lst (ns.map V.int)) := by rw [upd_ne (ne_of_none hl hq)]; exact hl
    have hq1 : (upd H1 q (.lst [])) q = some (.lst []) := upd_same
    have s1 : Same H0 (upd H1 q (.lst [])) := fun b o e => by
      have e1 := s0 b o e
      rw [upd_ne (ne_of_none e1 hq)]
      exact e1
    clear hp hl s0 hq
    revert hp1 hl1 s1 hq1
    generalize upd H1 q (.lst []) = H2
    intro hp hl hq s0
    refine ⟨.list (ns.map .int), .list [], .lst (SqL.of hl) (dp_ints ns), .lst (SqL.of hq) .nil, shaped_ints ns, by decide, _, rfl, ?_⟩
    revert hl
    rcases ns with _ | ⟨n0, nr⟩
    · intro hl
      refine iteF ?_
      generalize m + 186303 * (t + 1) * (t + 1) = M
      refine ⟨_, rfl, _, _, rfl, rfl, (by show (0 : Int) < 2147483549; decide), _, _, rfl, rfl, .inr ⟨by decide, by decide⟩, _, rfl, p, _, rfl, dg_turn hp, _, _, rfl, rfl, .inl ⟨_, rfl, _, _, rfl, rfl, (by show (0 : Int) < 2147483647; decide), ?_⟩⟩
      have c0 := Int.emod_nonneg (M % 2147483549 * 40692 + (t + 1)) (b := 2147483647) (by decide)
      have c1 := Int.emod_lt_of_pos (M % 2147483549 * 40692 + (t + 1)) (b := 2147483647) (by decide)
      revert c0 c1
      generalize (M % 2147483549 * 40692 + (t + 1)) % 2147483647 = M2
      intro c0 c1
      refine ⟨_, rfl, _, rfl, _, _, rfl, rfl, .inl ⟨by omega, by omega⟩, _, rfl, p, _, rfl, dg_turn hp, _, _, rfl, rfl, .inl ⟨by decide, by decide⟩, _, _, rfl, rfl, _, _, rfl, rfl, .inl ⟨_, rfl, _, _, rfl, rfl, (by show (0 : Int) < 2147483579; decide), ?_⟩⟩
      refine ⟨_, rfl, _, _, rfl, rfl, .inr ⟨by decide, by decide⟩, .inl ⟨_, rfl, _, _, rfl, rfl, (by show (0 : Int) < 2147483629; decide), _, _, rfl, rfl, ⟨by decide, by decide⟩, _, rfl, _, _, rfl, rfl, b0, ?_⟩⟩
      exact k _ _ ⟨s0, p0, l, [], m, l0, hp, hl, hlen, m0, m1⟩ (Int.emod_nonneg _ (by omega)) (Int.emod_lt_of_pos _ b0)
    · intro hl
      refine iteT ?_
      have hne : n0 :: nr ≠ [] := fun z => by cases z
      have elast : (List.map V.int (n0 :: nr))[(List.map V.int (n0 :: nr)).length - 1]? = some (V.int ((n0 :: nr).getLast hne)) := by
        rw [List.getElem?_map, List.length_map, ← List.getLast?_eq_getElem?, List.getLast?_eq_some_getLast hne]
        rfl
      refine ⟨_, rfl, p, _, rfl, dg_cells hp, .inl ⟨rfl, _, SqL.of hl⟩, l, _, _, rfl, rfl, hl, elast, ?_⟩
      have edrop : (List.map V.int (n0 :: nr)).dropLast = ((n0 :: nr).dropLast).map V.int := by
        rw [List.map_dropLast]
      have hd63 : (n0 :: nr).dropLast.length + 1 ≤ 63 := by
        rw [List.length_dropLast]
        have : 1 ≤ (n0 :: nr).length := by simp
        omega
      rw [edrop]
      generalize (n0 :: nr).getLast hne = c
      have hp1 : (upd H2 l (.lst (((n0 :: nr).dropLast).map V.int))) p = some (.dK (dk l m (t + 1))) := by rw [upd_ne nlp.symm]; exact hp
      have hl1 : (upd H2 l (.lst (((n0 :: nr).dropLast).map V.int))) l = some (.lst (((n0 :: nr).dropLast).map V.int)) := upd_same
      have s1 : Same H0 (upd H2 l (.lst (((n0 :: nr).dropLast).map V.int))) := fun b o e => by
        rw [upd_ne (ne_of_none e l0)]
        exact s0 b o e
      clear hp hl s0 hq
      revert hp1 hl1 s1 hd63
      generalize upd H2 l (.lst (((n0 :: nr).dropLast).map V.int)) = H3
      generalize (n0 :: nr).dropLast = ns
      intro hlen hp hl s0
      refine ⟨_, rfl, _, _, rfl, rfl, ⟨by decide, by decide, by decide⟩, _, _, rfl, rfl, _, rfl, ?_⟩
      refine ite2 (fun _ => ?_) (fun _ => ?_)
      · refine ⟨_, rfl, p, _, rfl, dg_cells hp, .inl ⟨rfl, _, SqL.of hl⟩, _, rfl, _, rfl, _, _, rfl, rfl, ⟨b0, by omega⟩, l, _, _, rfl, rfl, hl, ?_, ?_⟩
        · rw [List.length_map]
          exact Nat.lt_of_le_of_lt (Nat.le_of_succ_le hlen) (by decide)
        · refine ⟨_, rfl, .inl ⟨_, rfl, _, rfl, _, _, rfl, rfl, b0, ?_⟩⟩
          refine k _ _ ⟨fun b o e => ?_, p0, l, ns ++ [c / b], m, l0, ?_, ?_, ?_, m0, m1⟩ (Int.emod_nonneg _ (by omega)) (Int.emod_lt_of_pos _ b0)
          · rw [upd_ne (ne_of_none e l0)]
            exact s0 b o e
          · rw [upd_ne nlp.symm]
            exact hp
          · rw [upd_same, List.map_append]
            rfl
          · rw [List.length_append]
            exact hlen
      · refine ⟨_, rfl, _, rfl, .inl ⟨_, rfl, _, _, rfl, rfl, (by show (0 : Int) < 2147483563; decide), _, _, rfl, rfl, ?_⟩⟩
        have hlen : ns.length ≤ 63 := by omega
        generalize m + 186303 * (t + 1) * (t + 1) + c % 2147483563 = M
        refine ⟨_, rfl, _, _, rfl, rfl, (by show (0 : Int) < 2147483549; decide), _, _, rfl, rfl, .inr ⟨by decide, by decide⟩, _, rfl, p, _, rfl, dg_turn hp, _, _, rfl, rfl, .inl ⟨_, rfl, _, _, rfl, rfl, (by show (0 : Int) < 2147483647; decide), ?_⟩⟩
        have c0 := Int.emod_nonneg (M % 2147483549 * 40692 + (t + 1)) (b := 2147483647) (by decide)
        have c1 := Int.emod_lt_of_pos (M % 2147483549 * 40692 + (t + 1)) (b := 2147483647) (by decide)
        revert c0 c1
        generalize (M % 2147483549 * 40692 + (t + 1)) % 2147483647 = M2
        intro c0 c1
        refine ⟨_, rfl, _, rfl, _, _, rfl, rfl, .inl ⟨by omega, by omega⟩, _, rfl, p, _, rfl, dg_turn hp, _, _, rfl, rfl, .inl ⟨by decide, by decide⟩, _, _, rfl, rfl, _, _, rfl, rfl, .inl ⟨_, rfl, _, _, rfl, rfl, (by show (0 : Int) < 2147483579; decide), ?_⟩⟩
        refine ⟨_, rfl, _, _, rfl, rfl, .inr ⟨by decide, by decide⟩, .inl ⟨_, rfl, _, _, rfl, rfl, (by show (0 : Int) < 2147483629; decide), _, _, rfl, rfl, ⟨by decide, by decide⟩, _, rfl, _, _, rfl, rfl, b0, ?_⟩⟩
        exact k _ _ ⟨s0, p0, l, ns, m, l0, hp, hl, hlen, m0, m1⟩ (Int.emod_nonneg _ (by omega)) (Int.emod_lt_of_pos _ b0)
end
end KL
set_option Elab.async false
set_option linter.all false
set_option maxRecDepth 100000
set_option maxHeartbeats 2000000
namespace KL
open PySem L2
/-! ### data, dicts among them -/
mutual
inductive Dq (H : Hp) : V → PyData → Prop
  | non : Dq H .non .none
  | bl (b : Bool) : Dq H (.bl b) (.bool b)
  | int (i : Int) : Dq H (.int i) (.int i)
  | str (x : Str) : Dq H (.str x) (.str x)
  | lst {a : Addr} {xs : List V} {ds : List PyData} : H a = some (.lst xs) → DqAll H xs ds → Dq H (.ref a) (.list ds)
  | tup {a : Addr} {xs : List V} {ds : List PyData} : H a = some (.tup xs) → DqAll H xs ds → Dq H (.ref a) (.tuple ds)
  | dct0 {a : Addr} : H a = some (.dK []) → Dq H (.ref a) (.dict [])
  | dct1 {a : Addr} {x : Str} {i : Int} : H a = some (.dK [(Sum.inr x, V.int i)]) → Dq H (.ref a) (.dict [(.str x, .int i)])
inductive DqAll (H : Hp) : List V → List PyData → Prop
  | nil : DqAll H [] []
  | cons {v : V} {vs : List V} {d : PyData} {ds : List PyData} : Dq H v d → DqAll H vs ds → DqAll H (v :: vs) (d :: ds)
end
mutual
theorem Dq.same {H H' : Hp} (e : Same H H') : ∀ (d : PyData) (v : V), Dq H v d → Dq H' v d
  | .none, _, h => by
    cases h
    exact .non
  | .bool _, _, h => by
    cases h
    exact .bl _
  | .int _, _, h => by
    cases h
    exact .int _
  | .str _, _, h => by
    cases h
    exact .str _
  | .list ds, _, h => by
    cases h with
    | lst q r => exact .lst (e _ _ q) (DqAll.same e ds _ r)
  | .tuple ds, _, h => by
    cases h with
    | tup q r => exact .tup (e _ _ q) (DqAll.same e ds _ r)
  | .dict kvs, _, h => by
    cases h with
    | dct0 q => exact .dct0 (e _ _ q)
    | dct1 q => exact .dct1 (e _ _ q)
theorem DqAll.same {H H' : Hp} (e : Same H H') : ∀ (ds : List PyData) (vs : List V), DqAll H vs ds → DqAll H' vs ds
  | [], _, h => by
    cases h
    exact .nil
  | d :: ds, _, h => by
    cases h with
    | cons q r => exact .cons (Dq.same e d _ q) (DqAll.same e ds _ r)
end
theorem same_new {H : Hp} {p : Addr} {o : HO} (h : H p = none) : Same H (upd H p o) := fun b u e => by
  rw [upd_ne (ne_of_none e h)]
  exact e
/-- a deck, with all that was made since kept -/
theorem deck_wide {H0 H Hn : Hp} {p : Addr} {t : Int} (D : DeckAt H0 H p t) (S : Same H Hn) : ∃ H1, DeckAt H1 Hn p t ∧ Same H0 H1 ∧ ∀ b o, Hn b = some o → H b = none → H1 b = some o := by
  obtain ⟨s0, p0, l, ns, m, l0, hp, hl, r⟩ := D
  refine ⟨fun b => if b = p ∨ b = l then none else Hn b, ⟨fun b o e => ?_, if_pos (.inl rfl), l, ns, m, if_pos (.inr rfl), S _ _ hp, S _ _ hl, r⟩, fun b o e => ?_, fun b o e n => ?_⟩
  · have e : (if b = p ∨ b = l then none else Hn b) = some o := e
    by_cases z : b = p ∨ b = l
    · rw [if_pos z] at e
      cases e
    · rw [if_neg z] at e
      exact e
  · show (if b = p ∨ b = l then none else Hn b) = some o
    rw [if_neg, S _ _ (s0 _ _ e)]
    rintro (z | z)
    · rw [z, p0] at e
      cases e
    · rw [z, l0] at e
      cases e
  · show (if b = p ∨ b = l then none else Hn b) = some o
    rw [if_neg, e]
    rintro (z | z)
    · rw [z, hp] at n
      cases n
    · rw [z, hl] at n
      cases n

/-! ### pick -/
def spPick : Sp := fun vs H Q _ => ∃ (H0 : Hp) (p : Addr) (t : Int) (a : Addr) (xs : List V), vs = [.ref p, .ref a] ∧ DeckAt H0 H p t ∧ 0 ≤ t ∧ t < 1048576 ∧ H0 a = some (.lst xs) ∧ 0 < xs.length ∧ xs.length < 1000 ∧ ∀ H' (i : Nat) v, DeckAt H0 H' p (t + 1) → xs[i]? = some v → Q v H'
def menu : List PyData := [.none, .bool true, .bool false, .int 0, .int (-1), .int 7, .int (10 ^ 39), .str "", .str "a", .str "places", .str "deeds", .tuple [], .tuple [.int 0], .tuple [.str "a", .tuple [.int 1]], .list [], .list [.int 1, .str "x"], .dict [],
  .dict [(.str "a", .int 1)], .tuple [.tuple [], .tuple []], .str "log0-x", .tuple [.str "drifts", .str "", .str "b"], .int (-(10 ^ 39)), .str " ", .str "line\nline"]
def spIt : Sp := fun vs H Q _ => ∃ (H0 : Hp) (p : Addr) (t : Int), vs = [.ref p] ∧ DeckAt H0 H p t ∧ 0 ≤ t ∧ t < 1048576 ∧ ∀ H1 H' v d, Same H0 H1 → DeckAt H1 H' p (t + 1) → d ∈ menu → Dq H1 v d → Q v H'
theorem DqAll.get {H : Hp} : ∀ (ds : List PyData) (vs : List V) (i : Nat) (v : V), DqAll H vs ds → vs[i]? = some v → ∃ d, d ∈ ds ∧ Dq H v d
  | _, _, i, v, .nil, e => by simp at e
  | _, _, 0, v, .cons (d := d) h _, e => by
    simp at e
    subst e
    exact ⟨d, by simp, h⟩
  | _, _, i + 1, v, .cons _ r, e => by
    obtain ⟨d, hd, h⟩ := DqAll.get _ _ i v r (by simpa using e)
    exact ⟨d, by simp [hd], h⟩
section
variable {P : Program} {w : World} {K : PySem.W.Frag} {mg : Str → Option Value} {base : Heap}
theorem scPick : FnScope ["_law_deck_here", "_law_some"] ["_law_deck_here", "_law_some"] (defScope sPick) := ⟨rfl, rfl, rfl, by decide +kernel, rfl, by decide +kernel, by decide +kernel⟩
theorem ok_pick {f g : Addr} {fd gd : FuncData} (F : Fun K "_law_pick" "_law_pick" sPick f fd) (T : TxtD mg) (G : FnOk P w K mg base CX0 1 g gd ["_law_deck_here", "_law_below"] spDraw) (gm : mg "_law_draw" = some (.ref g)) (gk : PySem.W.keepIn K (.ref g) = true) (gb : Binds K gd ["_law_deck_here", "_law_below"] []) :
    FnOk P w K mg base CX0 2 f fd ["_law_deck_here", "_law_some"] spPick := by
  refine F.ok scPick (fun vs H Q E h => ?_) (fun cdv A outer s H vs Q E hr h => ?_)
  · obtain ⟨H0, p, t, a, xs, rfl, _⟩ := h
    rfl
  · obtain ⟨H0, p, t, a, xs, rfl, D, t0, t1, ha, hx0, hx1, k⟩ := h
    refine ⟨_, pss_one (ps_ret (pe_ix ix_list (pv 1) (pe_call G hr rfl gm gk gb .nil pass0 (pa_cons (pv 0) (pa_cons (pe_callB call_len_seq (by rfl) T.len PySem.boot_len (pa_cons (pv 1) pa_nil)) pa_nil))) (fun _ _ => rfl))), ?_⟩
    refine ⟨_, rfl, _, rfl, _, rfl, a, xs, rfl, .inl (SqL.of (D.1 _ _ ha)), H0, p, t, _, rfl, D, t0, t1, by omega, by omega, fun H' r D' r0 rb => ?_⟩
    obtain ⟨j, rfl⟩ := Int.eq_ofNat_of_zero_le r0
    have hj : j < xs.length := by omega
    exact ⟨a, xs, _, xs[j], rfl, rfl, SqL.of (D'.1 _ _ ha), atI_nat (List.getElem?_eq_getElem hj), k H' j _ D' (List.getElem?_eq_getElem hj)⟩
theorem scIt : FnScope ["_law_deck_here", "_law_some"] ["_law_deck_here"] (defScope sIt) := ⟨rfl, rfl, rfl, by decide +kernel, rfl, by decide +kernel, by decide +kernel⟩
theorem ok_it {f g : Addr} {fd gd : FuncData} (F : Fun K "_law_it" "_law_it" sIt f fd) (G : FnOk P w K mg base CX0 2 g gd ["_law_deck_here", "_law_some"] spPick) (gm : mg "_law_pick" = some (.ref g)) (gk : PySem.W.keepIn K (.ref g) = true) (gb : Binds K gd ["_law_deck_here", "_law_some"] []) :
    FnOk P w K mg base CX0 3 f fd ["_law_deck_here"] spIt := by
  refine F.ok scIt (fun vs H Q E h => ?_) (fun cdv A outer s H vs Q E hr h => ?_)
  · obtain ⟨H0, p, t, rfl, _⟩ := h
    rfl
  · obtain ⟨H0, p, t, rfl, D, t0, t1, k⟩ := h
    refine ⟨_, pss_cons (ps_set (i := 1) scIt.nd rfl (.inl rfl) (pe_lst (pa_cons pe_non (pa_cons pe_bl (pa_cons pe_bl (pa_cons pe_int (pa_cons (pe_un un_neg pe_int) (pa_cons pe_int (pa_cons (pe_op op_pow pe_int pe_int) (pa_cons pe_str (pa_cons pe_str (pa_cons pe_str (pa_cons pe_str (pa_cons (pe_tup pa_nil) (pa_cons (pe_tup (pa_cons pe_int pa_nil)) (pa_cons (pe_tup (pa_cons pe_str (pa_cons (pe_tup (pa_cons pe_int pa_nil)) pa_nil))) (pa_cons (pe_lst pa_nil) (pa_cons (pe_lst (pa_cons pe_int (pa_cons pe_str pa_nil))) (pa_cons pe_dnewK pa_nil))))))))))))))))))) (pss_one (ps_ret (pe_call G hr rfl gm gk gb .nil pass0 (pa_cons (pv 0) (pa_cons (pe_op op_cat (pv 1) (pe_lst (pa_cons (pe_disp (pps_cons pe_str pe_int pps_nil) (by rfl) (by rfl) (fun z => by cases z) (by decide)) (pa_cons (pe_tup (pa_cons (pe_tup pa_nil) (pa_cons (pe_tup pa_nil) pa_nil))) (pa_cons pe_str (pa_cons (pe_tup (pa_cons pe_str (pa_cons pe_str (pa_cons pe_str pa_nil)))) (pa_cons (pe_un un_neg (pe_op op_pow pe_int pe_int)) (pa_cons pe_str (pa_cons pe_str pa_nil))))))))) pa_nil))))), ?_⟩
    refine ⟨_, rfl, _, _, rfl, rfl, ⟨by decide, by decide, by decide⟩, (by show 0 ≤ sizeLine; decide), fun q1 n1 => ?_⟩
    have f1 : (upd H q1 (HO.tup [])) q1 = some (HO.tup []) := upd_same
    have s1 : Same H (upd H q1 (HO.tup [])) := same_new n1
    revert f1 s1
    generalize upd H q1 (HO.tup []) = H1
    intro f1 s1
    refine ⟨(by show 1 ≤ sizeLine; decide), fun q2 n2 => ?_⟩
    have f2 : (upd H1 q2 (HO.tup [V.int 0])) q2 = some (HO.tup [V.int 0]) := upd_same
    have s2 : Same H1 (upd H1 q2 (HO.tup [V.int 0])) := same_new n2
    revert f2 s2
    generalize upd H1 q2 (HO.tup [V.int 0]) = H2
    intro f2 s2
    refine ⟨(by show 1 ≤ sizeLine; decide), fun q3 n3 => ?_⟩
    have f3 : (upd H2 q3 (HO.tup [V.int 1])) q3 = some (HO.tup [V.int 1]) := upd_same
    have s3 : Same H2 (upd H2 q3 (HO.tup [V.int 1])) := same_new n3
    revert f3 s3
    generalize upd H2 q3 (HO.tup [V.int 1]) = H3
    intro f3 s3
    refine ⟨(by show 2 ≤ sizeLine; decide), fun q4 n4 => ?_⟩
    have f4 : (upd H3 q4 (HO.tup [V.str "a", V.ref q3])) q4 = some (HO.tup [V.str "a", V.ref q3]) := upd_same
    have s4 : Same H3 (upd H3 q4 (HO.tup [V.str "a", V.ref q3])) := same_new n4
    revert f4 s4
    generalize upd H3 q4 (HO.tup [V.str "a", V.ref q3]) = H4
    intro f4 s4
    refine ⟨(by show 0 ≤ sizeLine; decide), fun q5 n5 => ?_⟩
    have f5 : (upd H4 q5 (HO.lst [])) q5 = some (HO.lst []) := upd_same
    have s5 : Same H4 (upd H4 q5 (HO.lst [])) := same_new n5
    revert f5 s5
    generalize upd H4 q5 (HO.lst []) = H5
    intro f5 s5
    refine ⟨(by show 2 ≤ sizeLine; decide), fun q6 n6 => ?_⟩
    have f6 : (upd H5 q6 (HO.lst [V.int 1, V.str "x"])) q6 = some (HO.lst [V.int 1, V.str "x"]) := upd_same
    have s6 : Same H5 (upd H5 q6 (HO.lst [V.int 1, V.str "x"])) := same_new n6
    revert f6 s6
    generalize upd H5 q6 (HO.lst [V.int 1, V.str "x"]) = H6
    intro f6 s6
    refine fun q7 n7 => ?_
    have f7 : (upd H6 q7 (HO.dK [])) q7 = some (HO.dK []) := upd_same
    have s7 : Same H6 (upd H6 q7 (HO.dK [])) := same_new n7
    revert f7 s7
    generalize upd H6 q7 (HO.dK []) = H7
    intro f7 s7
    refine ⟨(by show 17 ≤ sizeLine; decide), fun q8 n8 => ?_⟩
    dsimp only
    have f8 : (upd H7 q8 (HO.lst [V.non, V.bl true, V.bl false, V.int 0, V.int (-1), V.int 7, V.int (10 ^ Int.toNat 39), V.str "", V.str "a", V.str "places", V.str "deeds", V.ref q1, V.ref q2, V.ref q4, V.ref q5, V.ref q6, V.ref q7])) q8 = some (HO.lst [V.non, V.bl true, V.bl false, V.int 0, V.int (-1), V.int 7, V.int (10 ^ Int.toNat 39), V.str "", V.str "a", V.str "places", V.str "deeds", V.ref q1, V.ref q2, V.ref q4, V.ref q5, V.ref q6, V.ref q7]) := upd_same
    have s8 : Same H7 (upd H7 q8 (HO.lst [V.non, V.bl true, V.bl false, V.int 0, V.int (-1), V.int 7, V.int (10 ^ Int.toNat 39), V.str "", V.str "a", V.str "places", V.str "deeds", V.ref q1, V.ref q2, V.ref q4, V.ref q5, V.ref q6, V.ref q7])) := same_new n8
    revert f8 s8
    generalize upd H7 q8 (HO.lst [V.non, V.bl true, V.bl false, V.int 0, V.int (-1), V.int 7, V.int (10 ^ Int.toNat 39), V.str "", V.str "a", V.str "places", V.str "deeds", V.ref q1, V.ref q2, V.ref q4, V.ref q5, V.ref q6, V.ref q7]) = H8
    intro f8 s8
    refine ⟨_, rfl, _, rfl, fun q9 n9 => ⟨upd_same, [(Sum.inr "a", V.int 1)], rfl, (by show 1 ≤ 15; decide), ?_⟩⟩
    have f9 : (upd (upd H8 q9 (HO.dK [])) q9 (HO.dK (mergeK [] [(Sum.inr "a", V.int 1)]))) q9 = some (HO.dK [(Sum.inr "a", V.int 1)]) := upd_same
    have s9 : Same H8 (upd (upd H8 q9 (HO.dK [])) q9 (HO.dK (mergeK [] [(Sum.inr "a", V.int 1)]))) := fun b u e => by
      rw [upd_ne (ne_of_none e n9), upd_ne (ne_of_none e n9)]
      exact e
    revert f9 s9
    generalize upd (upd H8 q9 (HO.dK [])) q9 (HO.dK (mergeK [] [(Sum.inr "a", V.int 1)])) = H9
    intro f9 s9
    refine ⟨(by show 0 ≤ sizeLine; decide), fun q10 n10 => ?_⟩
    have f10 : (upd H9 q10 (HO.tup [])) q10 = some (HO.tup []) := upd_same
    have s10 : Same H9 (upd H9 q10 (HO.tup [])) := same_new n10
    revert f10 s10
    generalize upd H9 q10 (HO.tup []) = H10
    intro f10 s10
    refine ⟨(by show 0 ≤ sizeLine; decide), fun q11 n11 => ?_⟩
    have f11 : (upd H10 q11 (HO.tup [])) q11 = some (HO.tup []) := upd_same
    have s11 : Same H10 (upd H10 q11 (HO.tup [])) := same_new n11
    revert f11 s11
    generalize upd H10 q11 (HO.tup []) = H11
    intro f11 s11
    refine ⟨(by show 2 ≤ sizeLine; decide), fun q12 n12 => ?_⟩
    have f12 : (upd H11 q12 (HO.tup [V.ref q10, V.ref q11])) q12 = some (HO.tup [V.ref q10, V.ref q11]) := upd_same
    have s12 : Same H11 (upd H11 q12 (HO.tup [V.ref q10, V.ref q11])) := same_new n12
    revert f12 s12
    generalize upd H11 q12 (HO.tup [V.ref q10, V.ref q11]) = H12
    intro f12 s12
    refine ⟨(by show 3 ≤ sizeLine; decide), fun q13 n13 => ?_⟩
    have f13 : (upd H12 q13 (HO.tup [V.str "drifts", V.str "", V.str "b"])) q13 = some (HO.tup [V.str "drifts", V.str "", V.str "b"]) := upd_same
    have s13 : Same H12 (upd H12 q13 (HO.tup [V.str "drifts", V.str "", V.str "b"])) := same_new n13
    revert f13 s13
    generalize upd H12 q13 (HO.tup [V.str "drifts", V.str "", V.str "b"]) = H13
    intro f13 s13
    refine ⟨_, _, rfl, rfl, ⟨by decide, by decide, by decide⟩, _, rfl, (by show 7 ≤ sizeLine; decide), fun q14 n14 => ?_⟩
    dsimp only
    have f14 : (upd H13 q14 (HO.lst [V.ref q9, V.ref q12, V.str "log0-x", V.ref q13, V.int (-(10 ^ Int.toNat 39)), V.str " ", V.str "line\nline"])) q14 = some (HO.lst [V.ref q9, V.ref q12, V.str "log0-x", V.ref q13, V.int (-(10 ^ Int.toNat 39)), V.str " ", V.str "line\nline"]) := upd_same
    have s14 : Same H13 (upd H13 q14 (HO.lst [V.ref q9, V.ref q12, V.str "log0-x", V.ref q13, V.int (-(10 ^ Int.toNat 39)), V.str " ", V.str "line\nline"])) := same_new n14
    revert f14 s14
    generalize upd H13 q14 (HO.lst [V.ref q9, V.ref q12, V.str "log0-x", V.ref q13, V.int (-(10 ^ Int.toNat 39)), V.str " ", V.str "line\nline"]) = H14
    intro f14 s14
    refine ⟨q8, q14, _, _, rfl, rfl, (Same.trans (Same.trans (Same.trans (Same.trans (Same.trans s9 s10) s11) s12) s13) s14) _ _ f8, f14, (by show 24 ≤ sizeLine; decide), fun q15 n15 => ?_⟩
    dsimp only
    have f15 : (upd H14 q15 (HO.lst ([V.non, V.bl true, V.bl false, V.int 0, V.int (-1), V.int 7, V.int (10 ^ Int.toNat 39), V.str "", V.str "a", V.str "places", V.str "deeds", V.ref q1, V.ref q2, V.ref q4, V.ref q5, V.ref q6, V.ref q7] ++ [V.ref q9, V.ref q12, V.str "log0-x", V.ref q13, V.int (-(10 ^ Int.toNat 39)), V.str " ", V.str "line\nline"]))) q15 = some (HO.lst ([V.non, V.bl true, V.bl false, V.int 0, V.int (-1), V.int 7, V.int (10 ^ Int.toNat 39), V.str "", V.str "a", V.str "places", V.str "deeds", V.ref q1, V.ref q2, V.ref q4, V.ref q5, V.ref q6, V.ref q7] ++ [V.ref q9, V.ref q12, V.str "log0-x", V.ref q13, V.int (-(10 ^ Int.toNat 39)), V.str " ", V.str "line\nline"])) := upd_same
    have s15 : Same H14 (upd H14 q15 (HO.lst ([V.non, V.bl true, V.bl false, V.int 0, V.int (-1), V.int 7, V.int (10 ^ Int.toNat 39), V.str "", V.str "a", V.str "places", V.str "deeds", V.ref q1, V.ref q2, V.ref q4, V.ref q5, V.ref q6, V.ref q7] ++ [V.ref q9, V.ref q12, V.str "log0-x", V.ref q13, V.int (-(10 ^ Int.toNat 39)), V.str " ", V.str "line\nline"]))) := same_new n15
    revert f15 s15
    generalize upd H14 q15 (HO.lst ([V.non, V.bl true, V.bl false, V.int 0, V.int (-1), V.int 7, V.int (10 ^ Int.toNat 39), V.str "", V.str "a", V.str "places", V.str "deeds", V.ref q1, V.ref q2, V.ref q4, V.ref q5, V.ref q6, V.ref q7] ++ [V.ref q9, V.ref q12, V.str "log0-x", V.ref q13, V.int (-(10 ^ Int.toNat 39)), V.str " ", V.str "line\nline"])) = H15
    intro f15 s15
    have S : Same H H15 := (Same.trans (Same.trans (Same.trans (Same.trans (Same.trans (Same.trans (Same.trans (Same.trans (Same.trans (Same.trans (Same.trans (Same.trans (Same.trans (Same.trans s1 s2) s3) s4) s5) s6) s7) s8) s9) s10) s11) s12) s13) s14) s15)
    obtain ⟨J, DJ, SJ, kJ⟩ := deck_wide D S
    have g1 := kJ _ _ ((Same.trans (Same.trans (Same.trans (Same.trans (Same.trans (Same.trans (Same.trans (Same.trans (Same.trans (Same.trans (Same.trans (Same.trans (Same.trans s2 s3) s4) s5) s6) s7) s8) s9) s10) s11) s12) s13) s14) s15) _ _ f1) n1
    have g2 := kJ _ _ ((Same.trans (Same.trans (Same.trans (Same.trans (Same.trans (Same.trans (Same.trans (Same.trans (Same.trans (Same.trans (Same.trans (Same.trans s3 s4) s5) s6) s7) s8) s9) s10) s11) s12) s13) s14) s15) _ _ f2) (s1.free n2)
    have g3 := kJ _ _ ((Same.trans (Same.trans (Same.trans (Same.trans (Same.trans (Same.trans (Same.trans (Same.trans (Same.trans (Same.trans (Same.trans s4 s5) s6) s7) s8) s9) s10) s11) s12) s13) s14) s15) _ _ f3) ((Same.trans s1 s2).free n3)
    have g4 := kJ _ _ ((Same.trans (Same.trans (Same.trans (Same.trans (Same.trans (Same.trans (Same.trans (Same.trans (Same.trans (Same.trans s5 s6) s7) s8) s9) s10) s11) s12) s13) s14) s15) _ _ f4) ((Same.trans (Same.trans s1 s2) s3).free n4)
    have g5 := kJ _ _ ((Same.trans (Same.trans (Same.trans (Same.trans (Same.trans (Same.trans (Same.trans (Same.trans (Same.trans s6 s7) s8) s9) s10) s11) s12) s13) s14) s15) _ _ f5) ((Same.trans (Same.trans (Same.trans s1 s2) s3) s4).free n5)
    have g6 := kJ _ _ ((Same.trans (Same.trans (Same.trans (Same.trans (Same.trans (Same.trans (Same.trans (Same.trans s7 s8) s9) s10) s11) s12) s13) s14) s15) _ _ f6) ((Same.trans (Same.trans (Same.trans (Same.trans s1 s2) s3) s4) s5).free n6)
    have g7 := kJ _ _ ((Same.trans (Same.trans (Same.trans (Same.trans (Same.trans (Same.trans (Same.trans s8 s9) s10) s11) s12) s13) s14) s15) _ _ f7) ((Same.trans (Same.trans (Same.trans (Same.trans (Same.trans s1 s2) s3) s4) s5) s6).free n7)
    have g8 := kJ _ _ ((Same.trans (Same.trans (Same.trans (Same.trans (Same.trans (Same.trans s9 s10) s11) s12) s13) s14) s15) _ _ f8) ((Same.trans (Same.trans (Same.trans (Same.trans (Same.trans (Same.trans s1 s2) s3) s4) s5) s6) s7).free n8)
    have g9 := kJ _ _ ((Same.trans (Same.trans (Same.trans (Same.trans (Same.trans s10 s11) s12) s13) s14) s15) _ _ f9) ((Same.trans (Same.trans (Same.trans (Same.trans (Same.trans (Same.trans (Same.trans s1 s2) s3) s4) s5) s6) s7) s8).free n9)
    have g10 := kJ _ _ ((Same.trans (Same.trans (Same.trans (Same.trans s11 s12) s13) s14) s15) _ _ f10) ((Same.trans (Same.trans (Same.trans (Same.trans (Same.trans (Same.trans (Same.trans (Same.trans s1 s2) s3) s4) s5) s6) s7) s8) s9).free n10)
    have g11 := kJ _ _ ((Same.trans (Same.trans (Same.trans s12 s13) s14) s15) _ _ f11) ((Same.trans (Same.trans (Same.trans (Same.trans (Same.trans (Same.trans (Same.trans (Same.trans (Same.trans s1 s2) s3) s4) s5) s6) s7) s8) s9) s10).free n11)
    have g12 := kJ _ _ ((Same.trans (Same.trans s13 s14) s15) _ _ f12) ((Same.trans (Same.trans (Same.trans (Same.trans (Same.trans (Same.trans (Same.trans (Same.trans (Same.trans (Same.trans s1 s2) s3) s4) s5) s6) s7) s8) s9) s10) s11).free n12)
    have g13 := kJ _ _ ((Same.trans s14 s15) _ _ f13) ((Same.trans (Same.trans (Same.trans (Same.trans (Same.trans (Same.trans (Same.trans (Same.trans (Same.trans (Same.trans (Same.trans s1 s2) s3) s4) s5) s6) s7) s8) s9) s10) s11) s12).free n13)
    have g14 := kJ _ _ (s15 _ _ f14) ((Same.trans (Same.trans (Same.trans (Same.trans (Same.trans (Same.trans (Same.trans (Same.trans (Same.trans (Same.trans (Same.trans (Same.trans s1 s2) s3) s4) s5) s6) s7) s8) s9) s10) s11) s12) s13).free n14)
    have g15 := kJ _ _ ((Same.refl _) _ _ f15) ((Same.trans (Same.trans (Same.trans (Same.trans (Same.trans (Same.trans (Same.trans (Same.trans (Same.trans (Same.trans (Same.trans (Same.trans (Same.trans s1 s2) s3) s4) s5) s6) s7) s8) s9) s10) s11) s12) s13) s14).free n15)
    have A24 : DqAll J ([V.non, V.bl true, V.bl false, V.int 0, V.int (-1), V.int 7, V.int (10 ^ Int.toNat 39), V.str "", V.str "a", V.str "places", V.str "deeds", V.ref q1, V.ref q2, V.ref q4, V.ref q5, V.ref q6, V.ref q7] ++ [V.ref q9, V.ref q12, V.str "log0-x", V.ref q13, V.int (-(10 ^ Int.toNat 39)), V.str " ", V.str "line\nline"]) menu := (.cons (.non) (.cons (.bl _) (.cons (.bl _) (.cons (.int _) (.cons (.int _) (.cons (.int _) (.cons (.int _) (.cons (.str _) (.cons (.str _) (.cons (.str _) (.cons (.str _) (.cons (.tup g1 .nil) (.cons (.tup g2 (.cons (.int _) .nil)) (.cons (.tup g4 (.cons (.str _) (.cons (.tup g3 (.cons (.int _) .nil)) .nil))) (.cons (.lst g5 .nil) (.cons (.lst g6 (.cons (.int _) (.cons (.str _) .nil))) (.cons (.dct0 g7) (.cons (.dct1 g9) (.cons (.tup g12 (.cons (.tup g10 .nil) (.cons (.tup g11 .nil) .nil))) (.cons (.str _) (.cons (.tup g13 (.cons (.str _) (.cons (.str _) (.cons (.str _) .nil)))) (.cons (.int _) (.cons (.str _) (.cons (.str _) .nil))))))))))))))))))))))))
    refine ⟨J, p, t, q15, _, rfl, DJ, t0, t1, g15, by show 0 < 24; decide, by show 24 < 1000; decide, fun H2 i v D2 e => ?_⟩
    obtain ⟨d, hd, h⟩ := DqAll.get _ _ i v A24 e
    exact k J H2 v d SJ D2 hd h
end
end KL
set_option Elab.async false
set_option linter.all false
set_option maxRecDepth 100000
set_option maxHeartbeats 4000000
namespace PySem
namespace KX
open PySem.W PySem.Calls PyProof.Rows
abbrev excB : List Value := [.type "Exception", .type "BaseException", .type "object"]
/-! ### a call of an error's class with keywords alone -/
section
variable {M : Model} {A : Around} {E : Value → Shared → Prop} {h : Heap} {g : Array GenState} {d : Drawn} {t : Nat} {os : OsState}
variable {nm q : Str} {C N : Addr} {bs bm bmB : List Value} {hdct : Bool} {sn : List Str} {sub : List Value} {ab : Bool} {col : Option Bool} {dd : Option Addr} {k0 k1 k2 k3 k5 : Option Value} {B newId initId : String}
theorem newCheckK (F : ExcBaseFacts B newId initId bmB) (hT : ∀ X : String, bm.contains (.type X) = bmB.contains (.type X)) {kw : List (Str × Value)} {Q : Unit → Shared → Prop}
    (hC : h.get? C = some (excClassObj nm q C N bs bm hdct sn sub ab col dd k0 k1 k2 k3 k5 newId)) (hq : Q () ⟨h, g, d, t, os⟩) : wpAny M A (checkBuiltinCall newId ⟨[.ref C], kw⟩) Q E ⟨h, g, d, t, os⟩ := by
  have z1 : (Value.ref C :: bm).contains (.type B) = true := by
    rw [List.contains_cons, hT, F.hasB, Bool.or_true]
  have z2 := F.noStar
  simp only [checkBuiltinCall, F.newKind, F.newSplit, F.newRow]
  repeat (first
    | refine wpAny_loadPart_at hC ?_
    | (refine wpAny_isSubtype_exc hC ?_
       rw [z1])
    | refine wpAny_staticBase_exc hC ?_
    | refine wpAny_madeBy_exc hC ?_
    | simp only [bne_self_eq_false, Bool.false_eq_true, if_false]
    | wp_step)
  exact hq
end
section
variable {prog : Program} {w : World} {A : Around} {E : Value → Shared → Prop} {R : Result → Shared → Prop} {h : Heap} {g : Array GenState} {d : Drawn} {t : Nat} {os : OsState}
variable {nm q : Str} {C N : Addr} {bs bm bmB : List Value} {hdct : Bool} {sn : List Str} {sub : List Value} {ab : Bool} {col : Option Bool} {dd : Option Addr} {k0 k1 k2 k3 k5 : Option Value} {B newId initId : String}
/-- the heap behind: empty args, the object -/
abbrev madeH (h : Heap) (C : Addr) : Heap := (h.push (kdv_tup [])).push (PX.excO C h.objs.size)
theorem newK (F : ExcBaseFacts B newId initId bmB) (hT : ∀ X : String, bm.contains (.type X) = bmB.contains (.type X)) {kw : List (Str × Value)}
    (hC : h.get? C = some (excClassObj nm q C N bs bm hdct sn sub ab col dd k0 k1 k2 k3 k5 newId)) (hq : R (.ok (.ret (.ref (h.objs.size + 1)))) ⟨madeH h C, g, d, t, os⟩) :
    codeAny (model prog w) A (.builtin newId ⟨[.ref C], kw⟩) R ⟨h, g, d, t, os⟩ := by
  have z0 := F.ends
  have z1 : (Value.ref C :: bm).contains (.type B) = true := by
    rw [List.contains_cons, hT, F.hasB, Bool.or_true]
  have z2 : (Value.ref C :: bm).contains (.type "AttributeError") = false := by
    rw [List.contains_cons, hT, F.noAttr]
    rfl
  have z3 : (Value.ref C :: bm).contains (.type "NameError") = false := by
    rw [List.contains_cons, hT, F.noName]
    rfl
  refine codeAny_builtinAt F.entry ?_
  unfold Builtin.«BaseException.__new__»
  refine wpAt_bind ?_
  show wpAt _ _ _ (stack >>= _) _ _ _
  refine wpAt_bind (wpAt_stack fun p below => wpAt_of_wpAny ?_)
  wp_walk
  refine wpAt_of_wpAny ?_
  rw [F.owner]
  repeat (first
    | with_reducible refine wpAny_madeHere_exc F.canon hC ?_
    | with_reducible refine wpAny_loadPart_at hC ?_
    | (with_reducible refine wpAny_isSubtype_exc hC ?_
       first
         | rw [z1]
         | rw [z2]
         | rw [z3])
    | wp_step)
  show R _ _
  rw [Heap.size_push]
  exact hq
theorem typeCallK (F : ExcBaseFacts B newId initId bmB) (hT : ∀ X : String, bm.contains (.type X) = bmB.contains (.type X)) {kw : List (Str × Value)} {fI : Addr} {Q : Fin → Shared → Prop}
    (hC : h.get? C = some (excClassObj nm q C N bs bm hdct sn sub ab col dd k0 k1 k2 k3 k5 newId)) (hi : Looks (model prog w) h (typeLookup (.ref C) "__init__") (some (.ref fI))) (hb : ∀ self, Looks (model prog w) h (bindSpecial (.ref fI) self) (.ref fI, [self]))
    (hq : codeAny (model prog w) A (.call (.ref fI) ⟨[.ref (h.objs.size + 1)], kw⟩) (fun r s' => match r with
      | .ok (.ret v) => v = .none ∧ Q (.done (.ret (.ref (h.objs.size + 1)))) s'
      | .ok _ => False
      | .error e => E e s') ⟨madeH h C, g, d, t, os⟩) : wpAny (model prog w) A (Builtin.«type.__call__» ⟨[.ref C], kw⟩) Q E ⟨h, g, d, t, os⟩ := by
  repeat (first
    | with_reducible refine wpAny_loadPart_at hC ?_
    | with_reducible refine wpAny_madeBy_exc hC ?_
    | wp_step)
  refine codeAny_call_builtin_code (Code.quiet_builtin _ F.quiet) (newCheckK F hT hC ?_)
  refine newK F hT hC ?_
  show wpAny _ _ _ _ _ _
  have k : ∀ b o, h.get? b = some o → (madeH h C).get? b = some o := fun b o e => Heap.get?_push_of_some _ (Heap.get?_push_of_some _ e)
  have hC1 := k _ _ hC
  have hg1 : (madeH h C).get? (h.objs.size + 1) = some (PX.excO C h.objs.size) := by heap_get
  have z : (Value.ref C :: bm).contains (.ref C) = true := by simp
  have i1 := hi.keeps k
  have b1 := (hb (.ref (h.objs.size + 1))).keeps k
  unfold isInstance
  repeat (first
    | with_reducible refine wpAny_loadPart_at hg1 ?_
    | (with_reducible refine wpAny_isSubtype_exc hC1 ?_
       rw [z])
    | wp_step)
  show wpAny _ _ (typeLookup (.ref C) _) _ _ _
  refine i1.at ?_
  refine wpAny_holding (wpAny_bind (b1.at ?_))
  refine wpAny_bind (wpAny_call (codeAny_mono hq fun r s' y => ?_))
  rcases r with e | (v | _ | _ | _) <;> first | exact y | exact y.elim | skip
  obtain ⟨rfl, y⟩ := y
  first
    | exact wpAny_pure (wpAny_pure y)
    | (wp_walk
       exact y)
theorem typeCheckK {M : Model} {E : Value → Shared → Prop} {kw : List (Str × Value)} {Q : Unit → Shared → Prop} (hC : h.get? C = some (excClassObj nm q C N bs bm hdct sn sub ab col dd k0 k1 k2 k3 k5 newId)) (hq : Q () ⟨h, g, d, t, os⟩) :
    wpAny M A (checkBuiltinCall "type.__call__" ⟨[.ref C], kw⟩) Q E ⟨h, g, d, t, os⟩ := by
  have y1 := tc_sub
  have y2 : (⟨h, g, d, t, os⟩ : Shared).TypeIs (.ref C) "type" := ⟨_, hC, rfl⟩
  simp only [checkBuiltinCall, tc_kind, tc_split]
  repeat (any_goals (first
    | assumption
    | with_reducible refine wpAny_loadPart_at hC ?_
    | with_reducible refine wpAny_onRaise ?_
    | with_reducible refine wpAny_map ?_
    | wp_step))
theorem callK (F : ExcBaseFacts B newId initId bmB) (hT : ∀ X : String, bm.contains (.type X) = bmB.contains (.type X)) {kw : List (Str × Value)} {fI : Addr}
    (hC : h.get? C = some (excClassObj nm q C N bs bm hdct sn sub ab col dd k0 k1 k2 k3 k5 newId)) (hi : Looks (model prog w) h (typeLookup (.ref C) "__init__") (some (.ref fI))) (hb : ∀ self, Looks (model prog w) h (bindSpecial (.ref fI) self) (.ref fI, [self]))
    (hq : codeAny (model prog w) (A.under (.builtin "type.__call__" ⟨[.ref C], kw⟩)) (.call (.ref fI) ⟨[.ref (h.objs.size + 1)], kw⟩) (InitBack (h.objs.size + 1) R) ⟨madeH h C, g, d, t, os⟩) :
    codeAny (model prog w) A (.call (.ref C) ⟨[], kw⟩) R ⟨h, g, d, t, os⟩ := by
  have y1 := tc_lookup
  have y2 := tc_bind (.ref C)
  have y3 : (⟨h, g, d, t, os⟩ : Shared).TypeIs (.ref C) "type" := ⟨_, hC, rfl⟩
  refine codeAny_of_tree ?_
  show wpAny _ _ (callAny (.ref C) _) _ _ _
  repeat (any_goals (first
    | assumption
    | with_reducible refine wpAny_loadPart_at hC ?_
    | wp_step))
  refine ⟨rfl, ?_⟩
  refine codeAny_call_builtin_at (Code.quiet_builtin _ (by decide +kernel)) entry_typeCall (typeCheckK hC (typeCallK F hT hC hi hb ?_))
  refine codeAny_mono hq fun r s' y => ?_
  rcases r with e | (v | _ | _ | _) <;> exact y
end
end KX
end PySem
set_option Elab.async false
set_option linter.all false
set_option maxRecDepth 100000
set_option maxHeartbeats 4000000
namespace PySem
namespace KX
open PySem.W PySem.Calls PyProof.Rows PySem.HandSPX
def iA (fl : Str) (p1 p2 : Pos) : Arguments := { posonlyargs := [], args := [{ arg := "self", annotation := none, pos := p1 }, { arg := fl, annotation := none, pos := p2 }], vararg := none, kwonlyargs := [], kw_defaults := [], kwarg := none, defaults := [] }
def iB (fl : Str) (q1 q2 q3 q4 : Pos) : List Stmt := [.Assign [.Attribute (.Name "self" q1) fl q2] (.Name fl q3) q4]
def iS (fl : Str) : Scope := { kind := .function, names := [(PySem.Str.ofString "self", .local), (fl, .local)], isGenerator := false, isCoroutine := false, more := [] }
/-- the fields of the errors -/
def IsFl (fl : Str) : Prop := fl = "part" ∨ fl = "line" ∨ fl = "index" ∨ fl = "paper" ∨ fl = "deed" ∨ fl = "thing" ∨ fl = "tries"
/-- what the written part says of an error's class at C -/
structure EC (K : Frag) (C : Addr) : Prop where
  ini : excInitIn K C excB "Exception.__new__" = true
  sa : findIn K (.ref C) "__setattr__" = some (some (.builtin "object.__setattr__"))
  ov : excOver K C excB = true
  hd : hasDictIn K C = true
  kp : keepIn K (.ref C) = true
  is : L2.ExcC K C
/-- .. and of its field and its __init__ -/
structure EI (K : Frag) (C fI : Addr) (fl qual : Str) : Prop where
  c : EC K C
  fls : IsFl fl
  nf : findIn K (.ref C) fl = some none
  iC : findIn K (.ref C) "__init__" = some (some (.ref fI))
  fn : ∃ (od : Option Addr) (doc pm : Value) (an : Option Addr) (cdv ct : Value) (osl : Array (Option Value)) (p1 p2 q1 q2 q3 q4 : Pos),
    K.lookup fI = some ⟨.type "function", od, .func (fnOf "__init__" qual (iA fl p1 p2) (iB fl q1 q2 q3 q4) (iS fl) .none .none doc pm an cdv ct), osl⟩ ∧ codeIn K cdv qual = true
/-- a made error: at e, its dict at d -/
structure Made (h h' : Heap) (e C d : Addr) (fl : Str) (v : Value) : Prop where
  keep : ∀ b o, h.get? b = some o → h'.get? b = some o
  new : h.objs.size ≤ e
  obj : ∃ t1 : Addr, h'.get? e = some { cls := .ref C, dict := some d, data := .fields #[.ref t1, .none, .none, .none, .bool false, .none] }
  dbig : h.objs.size ≤ d
  dne : d ≠ e
  ns : h'.Ns1 d (fun y => if y = fl then some v else none)
section
variable {prog : Program} {w : World} {A : Around} {E : Value → Shared → Prop} {R : Result → Shared → Prop} {s : Shared} {K : Frag} {C fI : Addr} {fl qual : Str}
theorem nameAt {M : Model} {s : Shared} {name : Str} {scope : Scope} {L a : Addr} {cd : Value} {m : Str → Option Value} {x : Str} {pos : Pos} {v : Value} {Q : Value → Shared → Prop} (hn : s.heap.Ns L m) (hv : m x = some v) (h : Q v s)
    (hk : scope.kind = .function) (hl : (envOfC name scope L a cd).kindOf x = some .local) (hd : (x == ("__debug__" : Str)) = false) : wpAny M A (eval (.Name x pos) (envOfC name scope L a cd)) Q E s :=
  wpAny_Name (wpAny_loadName_local hk hl hn hv h) hd
/-- self.fl = v on a fresh error -/
theorem storeE {x t0 : Addr} {tk : Tok} {v : Value} (T : EC K C) (nf : findIn K (.ref C) fl = some none) (X : K.In s.heap) (hx : s.heap.get? x = some (PX.excO C t0))
    (hq : ∀ h' tk' dx, (∀ b o, b ≠ x → s.heap.get? b = some o → h'.get? b = some o) → s.heap.objs.size ≤ dx → dx ≠ x → h'.get? x = some { cls := .ref C, dict := some dx, data := .fields #[.ref t0, .none, .none, .none, .bool false, .none] } →
      h'.Ns1 dx (fun y => if y = fl then some v else none) → R (.ok (.ret .none)) { s with heap := h', toks := tk' }) : codeAny (model prog w) A (.call (.builtin "object.__setattr__") ⟨[.ref x, .str fl tk, v], []⟩) R s := by
  refine osa_openX (od := none) F.store_Exception X ⟨hx, rfl, rfl, trivial⟩ T.ov (show takerIn K C fl = some none by unfold takerIn; rw [nf]; rfl) fun b => ?_
  obtain ⟨cd, hc, hd'⟩ := any_some T.hd
  have hxs : x ≠ s.heap.objs.size := Nat.ne_of_lt (Heap.lt_size hx)
  refine wpAny_bind (wpAny_pure (wpAny_bind (instanceDict_exc hx (looks_clsIn X hc) hd' ?_)))
  show wpAny _ _ (Builtin.ObjectAttr.storeInDict s.heap.objs.size (.str fl tk) fl v) _ _ _
  refine PX.store_in_new ?_ fun h' tk' hn' hs => ?_
  · exact ⟨_, #[], _, (Heap.get?_update_ne _ _ _ _ hxs.symm).trans (Heap.get?_push_at rfl rfl), rfl, fun e he => absurd he (by simp), fun _ => rfl⟩
  · have hx1 := Heap.get?_push_of_some (dictOf [] 0) hx
    refine hq h' tk' s.heap.objs.size (fun b o hb ho => ?_) (Nat.le_refl _) hxs.symm ?_ hn'
    · exact (hs.2 b (Nat.ne_of_lt (Heap.lt_size ho))).trans ((Heap.get?_update_ne _ _ _ _ hb).trans (Heap.get?_push_of_some _ ho))
    · exact (hs.2 x hxs).trans (Heap.get?_update_self _ hx1 rfl)
/-- the run of __init__ -/
theorem initRun (T : EI K C fI fl qual) {x t0 : Addr} {v : Value} {as : Args} (X : K.In s.heap) (hlim : s.heap.NoLimit) (hx : s.heap.get? x = some (PX.excO C t0)) (hroom : A.depth < recursionLimit)
    (has : as = ⟨[.ref x, v], []⟩ ∨ as = ⟨[.ref x], [(fl, v)]⟩)
    (hq : ∀ h' tk dx, (∀ b o, b ≠ x → s.heap.get? b = some o → h'.get? b = some o) → s.heap.objs.size ≤ dx → dx ≠ x → h'.get? x = some { cls := .ref C, dict := some dx, data := .fields #[.ref t0, .none, .none, .none, .bool false, .none] } →
      h'.Ns1 dx (fun y => if y = fl then some v else none) → R (.ok (.ret .none)) { s with heap := h', toks := tk }) : codeAny (model prog w) A (.call (.ref fI) as) R s := by
  obtain ⟨od, doc, pm, an, cdv, ct, osl, p1, p2, q1, q2, q3, q4, ho, hcd⟩ := T.fn
  have bd : BindsTo s (fnOf "__init__" qual (iA fl p1 p2) (iB fl q1 q2 q3 q4) (iS fl) .none .none doc pm an cdv ct) as [("self", .ref x), (fl, v)] := by
    rcases T.fls with e | e | e | e | e | e | e <;> subst e <;> rcases has with e | e <;> subst e <;> exact .of_eq (by first | rfl | with_unfolding_all rfl)
  have kd : ([(("self" : Str), Value.ref x), (fl, v)].all fun y => (iS fl).names.lookup y.1 == some .local || (iS fl).names.lookup y.1 == some .cell) = true := by
    rcases T.fls with e | e | e | e | e | e | e <;> subst e <;> first | rfl | with_unfolding_all rfl
  refine Att.call_fn X hlim ho hcd hroom bd kd (fun s₁ IC => ?_) rfl rfl rfl
  obtain ⟨h₁, tk₁, rfl⟩ := IC.toInCall.same
  have k : ∀ b o, s.heap.get? b = some o → h₁.get? b = some o := IC.toInCall.keep
  have hn := IC.toInCall.ns
  have X₁ : K.In h₁ := X.keeps k
  have hx₁ := k _ _ hx
  have z : s.heap.objs.size < h₁.objs.size := hn.lt
  show wpAny _ _ (execs _ _) _ _ _
  refine wpAny_execs_cons (plainObj_wpAny_Assign_Attribute ?_)
  have n1 : ∀ {a : Addr} {cd : Value}, (envOfC qual (iS fl) s.heap.objs.size a cd).kindOf fl = some .local := fun {a cd} => by
    rcases T.fls with e | e | e | e | e | e | e <;> subst e <;> first | rfl | with_unfolding_all rfl
  have n2 : ∀ {a : Addr} {cd : Value}, (envOfC qual (iS fl) s.heap.objs.size a cd).kindOf "self" = some .local := fun {a cd} => by
    rcases T.fls with e | e | e | e | e | e | e <;> subst e <;> first | rfl | with_unfolding_all rfl
  have n3 : (fl == ("__debug__" : Str)) = false := by
    rcases T.fls with e | e | e | e | e | e | e <;> subst e <;> decide +kernel
  refine nameAt (v := v) hn ?_ (nameAt (v := .ref x) hn ?_ ?_ rfl n2 (by decide +kernel)) rfl n1 n3
  · rcases T.fls with e | e | e | e | e | e | e <;> subst e <;> first | rfl | with_unfolding_all rfl | kernel_rfl
  · rcases T.fls with e | e | e | e | e | e | e <;> subst e <;> first | rfl | with_unfolding_all rfl | kernel_rfl
  refine set_plain X₁ (ox := PX.excO C t0) (od := none) ⟨hx₁, rfl, rfl, trivial⟩ T.c.sa ?_
  refine storeE T.c T.nf X₁ hx₁ fun h₃ tk₃ dx k₃ dn dne hx₃ hn₃ => ?_
  show wpAny _ _ (execs _ _) _ _ _
  exact wpAny_execs_nil (hq h₃ tk₃ dx (fun b o hb e => k₃ b o hb (k b o e)) (Nat.le_of_lt (Nat.lt_of_lt_of_le z dn)) dne hx₃ hn₃)
end
end KX
end PySem
set_option Elab.async false
set_option linter.all false
set_option maxRecDepth 100000
set_option maxHeartbeats 4000000
namespace PySem
namespace KX
open PySem.W PySem.Calls PyProof.Rows PySem.HandSPX
section
variable {prog : Program} {w : World} {A : Around} {E : Value → Shared → Prop} {R : Result → Shared → Prop} {s : Shared} {K : Frag} {C fI : Addr} {fl qual : Str}
theorem exMade (T : EI K C fI fl qual) {v : Value} {as : Args} (has : as = ⟨[v], []⟩ ∨ as = ⟨[], [(fl, v)]⟩) (X : K.In s.heap) (hlim : s.heap.NoLimit) (hroom : A.depth + 1 < recursionLimit)
    (hq : ∀ h' tk e d, Made s.heap h' e C d fl v → R (.ok (.ret (.ref e))) { s with heap := h', toks := tk }) : codeAny (model prog w) A (.call (.ref C) as) R s := by
  obtain ⟨nm, N, q, bs, bm, hdct, sn, sub, ab, col, dd, k0, k1, k2, k3, k5, hC, hT⟩ := excInit_of X T.c.ini
  obtain ⟨od, doc, pm, an, cdv, ct, osl, p1, p2, q1, q2, q3, q4, ho, hcd⟩ := T.fn
  obtain ⟨hp, g, dr, tk, os⟩ := s
  have hfI := X _ _ ho
  have fin : ∀ (pos : List Value) (c : Code) (as' : Args), (as' = ⟨[.ref (hp.objs.size + 1), v], []⟩ ∨ as' = ⟨[.ref (hp.objs.size + 1)], [(fl, v)]⟩) → (A.under c).depth = A.depth + 1 →
      codeAny (model prog w) (A.under c) (.call (.ref fI) as') (InitBack (hp.objs.size + 1) R) ⟨(hp.push (kdv_tup pos)).push (PX.excO C hp.objs.size), g, dr, tk, os⟩ := fun pos c as' ha hdp => by
    have k : ∀ b o, hp.get? b = some o → ((hp.push (kdv_tup pos)).push (PX.excO C hp.objs.size)).get? b = some o := fun b o e => Heap.get?_push_of_some _ (Heap.get?_push_of_some _ e)
    have hget : ((hp.push (kdv_tup pos)).push (PX.excO C hp.objs.size)).get? (hp.objs.size + 1) = some (PX.excO C hp.objs.size) := by heap_get
    refine initRun (s := ⟨(hp.push (kdv_tup pos)).push (PX.excO C hp.objs.size), g, dr, tk, os⟩) T (X.keeps k) (hlim.keeps k) hget ?_ ha fun h' tk' dx k' dn dne hx hns => ?_
    · rw [hdp]
      exact hroom
    · have z : hp.objs.size + 1 + 1 ≤ dx := by
        have q := dn
        rw [Heap.size_push, Heap.size_push] at q
        exact q
      exact ⟨rfl, hq h' tk' (hp.objs.size + 1) dx ⟨fun b o e => k' b o (Nat.ne_of_lt (Nat.lt_succ_of_lt (Heap.lt_size e))) (k b o e), Nat.le_succ _, ⟨_, hx⟩, Nat.le_trans (Nat.le_trans (Nat.le_succ _) (Nat.le_succ _)) z, dne, hns⟩⟩
  rcases has with rfl | rfl
  · refine PX.call_own F.excBase_Exception hT hC (looks_findIn X T.iC) (fun self => exc_bind hfI rfl self) (by show 1 ≤ sizeLine; rw [sizeLine_eq]; omega) (fin [v] _ _ (.inl rfl) ?_)
    first | rfl | simp [Around.under, Code.weight, Code.isCreation, Code.isGuard, Code.isCaller, Code.frames, Code.isFrame, guardIds]
  · refine callK F.excBase_Exception hT hC (looks_findIn X T.iC) (fun self => exc_bind hfI rfl self) (fin [] _ _ (.inr rfl) ?_)
    first | rfl | simp [Around.under, Code.weight, Code.isCreation, Code.isGuard, Code.isCaller, Code.frames, Code.isFrame, guardIds]
end
end KX
end PySem
namespace KL
open PySem L2 PySem.KX PySem.Spec PyProof.Rows
section
variable {X : Cx} {pins : List (Addr × Obj)} {σ : L2.St} {H : Hp} {s : Shared}
theorem invTwo {h' : Heap} {tk : Nat} {a C d : Addr} {fl : Str} {v : V} {u : Value} (I : Inv X pins σ H s) (M : Made s.heap h' a C d fl u) (rv : RelV v u) :
    H a = none ∧ H d = none ∧ Inv X pins σ (upd (upd H d (exd d [(fl, v)])) a (exo a C (some d))) { s with heap := h', toks := tk } := by
  have na : H a = none := I.hok.fresh M.new
  have nd : H d = none := I.hok.fresh M.dbig
  have fa : ∀ {b : Addr} {o : Obj}, s.heap.get? b = some o → b ≠ a := fun q => Nat.ne_of_lt (Nat.lt_of_lt_of_le (Heap.lt_size q) M.new)
  have fd : ∀ {b : Addr} {o : Obj}, s.heap.get? b = some o → b ≠ d := fun q => Nat.ne_of_lt (Nat.lt_of_lt_of_le (Heap.lt_size q) M.dbig)
  have S : Same H (upd (upd H d (exd d [(fl, v)])) a (exo a C (some d))) := fun b o e => by
    rw [upd_ne (ne_of_none e na), upd_ne (ne_of_none e nd)]
    exact e
  refine ⟨na, nd, I.un { keep := fun b o q _ _ _ => M.keep b o q, slot := fun b o q _ _ _ => ⟨o.slots, M.keep b o q⟩, free := fun b o q n _ => ?_, there := fun b o q _ => ⟨o, M.keep b o q⟩, tups := fun b xs q => S _ _ q, frzs := fun b o u q => S _ _ q, tbls := fun b ps q => ⟨#[], by rw [S _ _ q]; simp⟩ } fun b o e => ?_⟩
  · rw [upd_ne (fa q), upd_ne (fd q)]
    exact n
  · by_cases hb : b = a
    · subst hb
      rw [upd_same] at e
      cases e
      obtain ⟨t1, ho⟩ := M.obj
      exact exo_ok ho
    · rw [upd_ne hb] at e
      by_cases hd : b = d
      · subst hd
        rw [upd_same] at e
        cases e
        refine exd_ok M.ns fun f => ?_
        rw [lookup_put]
        by_cases hf : f = fl
        · rw [if_pos hf, if_pos hf]
          exact rv
        · rw [if_neg hf, if_neg hf]
          exact True.intro
      · rw [upd_ne hd] at e
        exact (I.hok b o e).stay (fun c w _ q => M.keep c w q) (fun c q => S _ _ q) fun c xs q => S _ _ q
end
/-- C(e) or C(fl = e) -/
def tEx (C : Addr) (fl : Str) (ta : TA) : TE := fun σ H Q => ta σ H fun vs H1 => ∃ v, vs = [v] ∧ ∀ a d, H1 a = none → H1 d = none → d ≠ a → Q (.ref a) (upd (upd H1 d (exd d [(fl, v)])) a (exo a C (some d)))
section
variable {X : Cx} {C fI : Addr} {fl qual x : Str} {p pos kpos : Pos} {e : Expr} {te : TE} {ta : TA}
theorem pe_ex (T : EI X.K C fI fl qual) (gC : X.mg x = some (.ref C)) (hr : Room 1 X.A) (hg : Gl X x) (ha : PA X [e] ta) (hdb : (x == ("__debug__" : Str)) = false := by decide) (he : starEach (e :: []) X.env = (false, eval e X.env) :: starEach [] X.env := by rfl)
    (hpl : (backTo pos (starEach [] X.env)).any (·.1) = false := by rfl) : PE X (.Call (.Name x p) [e] [] pos) (tEx C fl ta) := by
  refine ⟨fun pins s σ H Q I h => ?_⟩
  refine wpAny_Call_Name_kw (ld_glob I hg gC ?_ hdb)
  refine PySem.W.callWith_K (h₀ := X.base) I.ok.mod.kin T.c.kp (thn (ha.run pos pins s σ H _ I h) fun us s1 ⟨vs, H1, I1, r, v, ev, q⟩ => ⟨I1.kIn, ?_⟩) he hpl
  subst ev
  cases r with
  | cons rv rn =>
    cases rn
    rename_i u
    refine wpAny_call (exMade T (.inl rfl) I1.kIn I1.nolimit (by have := hr.dp; omega) fun h' tk a d M => ?_)
    obtain ⟨n1, n2, J⟩ := invTwo (tk := tk) I1 M rv
    exact ⟨.ref a, _, J, rfl, q a d n1 n2 M.dne⟩
theorem pe_exK (T : EI X.K C fI fl qual) (gC : X.mg x = some (.ref C)) (hr : Room 1 X.A) (hg : Gl X x) (ha : PE X e te) (hdb : (x == ("__debug__" : Str)) = false := by decide)
    (hall : (backToKw pos (keywordEach [⟨some fl, e, kpos⟩] X.env)).all (·.1.isSome) = true := by rfl) (hks : (backToKw pos (keywordEach [⟨some fl, e, kpos⟩] X.env)).filterMap (·.1) = [fl] := by rfl)
    (hpl : ((backTo pos (starEach [] X.env)).any (·.1) || (backToKw pos (keywordEach [⟨some fl, e, kpos⟩] X.env)).any (·.1.isNone)) = false := by rfl) :
    PE X (.Call (.Name x p) [] [⟨some fl, e, kpos⟩] pos) (tEx C fl (tCons te tNil)) := by
  refine ⟨fun pins s σ H Q I h => ?_⟩
  refine wpAny_Call_Name_kw (ld_glob I hg gC ?_ hdb)
  refine PySem.W.callWith_KW0 (h₀ := X.base) I.ok.mod.kin T.c.kp hall ?_ hpl
  refine thn ((pk_cons ha pk_nil).run pos pins s σ H _ I h) fun us s1 ⟨vs, H1, I1, r, v, ev, q⟩ => ⟨I1.kIn, ?_⟩
  rw [hks]
  subst ev
  cases r with
  | cons rv rn =>
    cases rn
    rename_i u
    refine wpAny_call (exMade T (.inr rfl) I1.kIn I1.nolimit (by have := hr.dp; omega) fun h' tk a d M => ?_)
    obtain ⟨n1, n2, J⟩ := invTwo (tk := tk) I1 M rv
    exact ⟨.ref a, _, J, rfl, q a d n1 n2 M.dne⟩
end
end KL
set_option Elab.async false
set_option linter.all false
set_option maxRecDepth 100000
set_option maxHeartbeats 4000000
namespace KL
open PySem L2 PySem.KX PySem.Spec PyProof.Rows
/-- an error's class without an __init__ -/
structure EB (K : PySem.W.Frag) (C : Addr) : Prop where
  c : EC K C
  ex : PySem.W.excIn K C excB "Exception.__new__" = true
/-- C() -/
def tEx0 (C : Addr) : TE := fun _ H Q => ∀ a, H a = none → Q (.ref a) (upd H a (exo a C none))
/-- e.f of an error -/
def tExAt (K : PySem.W.Frag) (f : Str) (te : TE) : TE := fun σ H Q => te σ H fun x H1 => ∃ (a C d : Addr) (fs : List (Str × V)) (v : V), x = .ref a ∧ EC K C ∧ PySem.W.findIn K (.ref C) f = some none ∧ H1 a = some (exo a C (some d)) ∧ H1 d = some (exd d fs) ∧ fs.lookup f = some v ∧ Q v H1
/-- an error stands at a -/
def ErrAt (H : Hp) (a C : Addr) : Prop := H a = some (exo a C none) ∨ ∃ d fs, H a = some (exo a C (some d)) ∧ H d = some (exd d fs)
/-- isinstance(e, c) -/
def rExIs (K : PySem.W.Frag) : List V → Hp → VK → Prop := fun xs H Q => ∃ (a C : Addr) (c : V) (cv : Value) (b : Bool), xs = [.ref a, c] ∧ EC K C ∧ ErrAt H a C ∧ ClsV c cv ∧ PySem.W.kitOne K (.ref C) cv = some b ∧ Q (.bl b) H
section
variable {X : Cx}
theorem pe_ex0 {C : Addr} {x : Str} {p pos : Pos} (T : EB X.K C) (gC : X.mg x = some (.ref C)) (hg : Gl X x) (hdb : (x == ("__debug__" : Str)) = false := by decide) : PE X (.Call (.Name x p) [] [] pos) (tEx0 C) := by
  refine ⟨fun pins s σ H Q I h => ?_⟩
  refine wpAny_Call_Name_kw (ld_glob I hg gC ?_ hdb)
  refine PySem.W.callWith_K0 I.kIn T.c.kp ?_
  obtain ⟨bm, N, nm, qn, bs, hdct, sn, sub, ab, col, dd, k0, k1, k2, k3, k5, mN, hC, hN, hni, O⟩ := exc_obj I.kIn T.ex
  obtain ⟨hp, g, dr, tk, os⟩ := s
  refine wpAny_call_exc_subT F.excBase_Exception O hC hN hni (fun h' a hm => ?_) (Nat.zero_le _)
  have hn : H a = none := I.hok.gone hm.new
  obtain ⟨t, ht, _, _⟩ := hm.there
  exact ⟨.ref a, upd H a (exo a C none), I.laidN (t' := tk) hm.keeps hm.new hn (exo_ok ht), rfl, h a hn⟩
theorem pe_exAt {e : Expr} {f : Str} {te : TE} {pos : Pos} (he : PE X e te) (hb : attributeBase e f X.env (eval e X.env) = eval e X.env := by rfl) : PE X (.Attribute e f pos) (tExAt X.K f te) := by
  refine ⟨fun pins s σ H Q I h => ?_⟩
  refine attr_of hb (thn (he.run pins s σ H _ I h) fun u s1 ⟨x, H1, I1, rx, a, C, d, fs, v, ex, T, nf, ha, hd, l, q⟩ => ?_)
  subst ex
  obtain rfl : u = Value.ref a := rx
  obtain ⟨t1, ho⟩ := exo_at I1.hok ha
  obtain ⟨mA, hns, hr⟩ := exd_at I1.hok hd
  obtain ⟨od, hod, hl⟩ := lookIn_ns hns
  obtain ⟨u, hu, ru⟩ := RelO.some_of (v := v) (o := mA f) (by rw [← l]; exact hr f)
  exact PySem.PX.exc_get I1.kIn ⟨ho, rfl, rfl, hod⟩ T.is.hg T.is.hk T.is.hs (PySem.W.findObj_own T.hd nf rfl (by rw [hl, hu])) (handed_of ru) ⟨v, H1, I1.tok _, ru, q⟩
theorem call_exIs : CallR X (.builtin "isinstance") (rExIs X.K) := by
  intro pins s σ H xs us Q I r h
  obtain ⟨a, C, c, cv, b, rfl, T, ea, kc, e, q⟩ := h
  obtain ⟨u1, u2, rfl, r1, r2⟩ := vals2 r
  have e2 := kc.eq r2
  subst e2
  cases (show u1 = Value.ref a from r1)
  have hcl : (PySem.W.clsIn X.K C).isSome = true := by
    obtain ⟨cd, hc, _⟩ := PySem.W.any_some T.hd
    rw [hc]
    rfl
  have go : ∀ {ox : Obj} {od : Option Obj}, PySem.W.InstAt s.heap a ox C od → wpAny (model X.prog X.w) X.A (call (.builtin "isinstance") [.ref a, u2]) (EP X pins σ Q) X.xe s := fun {ox od} J =>
    PySem.W.kia_one (PySem.W.kitx_exc hcl T.is.hg T.is.hk T.is.hs T.is.ha T.is.hn T.is.ht T.is.hm) I.kIn J e (fun z => nomatch z) fun tk => ⟨.bl b, H, I.tok tk, rfl, q⟩
  rcases ea with ea | ⟨d, fs, ea, ed⟩
  · obtain ⟨t1, ho⟩ := exo_at I.hok ea
    exact go (od := none) ⟨ho, rfl, rfl, trivial⟩
  · obtain ⟨t1, ho⟩ := exo_at I.hok ea
    obtain ⟨mA, hns, hr⟩ := exd_at I.hok ed
    obtain ⟨od, hod, hl⟩ := lookIn_ns hns
    exact go (od := some od) ⟨ho, rfl, rfl, hod⟩
end
end KL
set_option Elab.async false
set_option linter.all false
set_option maxRecDepth 100000
set_option maxHeartbeats 4000000
namespace KL
open PySem L2 PySem.KX PySem.Spec PyProof.Rows
def isTop : PyData → Bool
  | .dict _ => true
  | _ => false
section
variable {X : Cx} {pins : List (Addr × Obj)} {σ : L2.St} {H : Hp} {s : Shared}
mutual
theorem Dq.reads (I : Inv X pins σ H s) : ∀ (d : PyData) (v : V) (u : Value), Dq H v d → RelV v u → ∃ as, Reads s.heap u d as ∧ (isTop d = true → sysModules ∉ as)
  | .none, _, _, h, r => by
    cases h
    cases r
    exact ⟨_, .none, fun z => by cases z⟩
  | .bool b, _, _, h, r => by
    cases h
    cases r
    exact ⟨_, .bool b, fun z => by cases z⟩
  | .int i, _, _, h, r => by
    cases h
    obtain ⟨t, rfl⟩ := r
    exact ⟨_, .int i t, fun z => by cases z⟩
  | .str x, _, _, h, r => by
    cases h
    obtain ⟨t, rfl⟩ := r
    exact ⟨_, .str x t, fun z => by cases z⟩
  | .list ds, _, _, h, r => by
    cases h with
    | lst q ha =>
      cases r
      obtain ⟨_, its, n, rv, ho⟩ := I.hok _ _ q
      obtain ⟨as, hr⟩ := DqAll.reads I ds _ its ha rv
      exact ⟨_, .list ho rfl rfl hr, fun z => by cases z⟩
  | .tuple ds, _, _, h, r => by
    cases h with
    | tup q ha =>
      cases r
      obtain ⟨_, its, rv, o, h1, h2, n, h3⟩ := I.hok _ _ q
      obtain ⟨as, hr⟩ := DqAll.reads I ds _ its ha rv
      exact ⟨_, .tuple h1 h2 h3 hr, fun z => by cases z⟩
  | .dict kvs, _, _, h, r => by
    cases h with
    | dct0 q =>
      cases r
      obtain ⟨_, ns, vs, rv, o, es, ep, h1, h2, h3, _, h5, _⟩ := I.hok _ _ q
      cases rv
      have e0 : es.toList = [] := by
        cases e : es.toList with
        | nil => rfl
        | cons x y =>
          rw [e] at h5
          cases h5
      refine ⟨_, .dict h1 h2.1 h3 (as := []) (bs := []) (by rw [e0]; exact .nil) (by rw [e0]; exact .nil), fun _ z => ?_⟩
      simp at z
      rw [← z] at ns
      simp at ns
    | @dct1 a0 x0 i0 q =>
      cases r
      obtain ⟨_, ns, vs, rv, o, es, ep, h1, h2, h3, _, h5, _⟩ := I.hok _ _ q
      cases rv with
      | cons r1 r2 =>
        cases r2
        obtain ⟨r1, t, r3⟩ := r1
        have e1 : ∃ (e : DictEntry) (tk : Tok), es.toList = [e] ∧ e.key = .str x0 tk ∧ e.val = .int i0 t := by
          generalize es.toList = L at h5
          cases h5 with
          | cons k1 k2 k3 =>
            rename_i e es'
            cases k3
            have k1 : keyIs _ _ = true := k1
            rw [← r1] at k1
            rcases keyIs_shape k1 with ⟨_, _, z, _⟩ | ⟨y, tk, z, z2⟩
            · cases z
            · cases z
              exact ⟨e, tk, rfl, z2, k2.trans r3⟩
        obtain ⟨e, tk, e1, e2, e3⟩ := e1
        refine ⟨_, .dict h1 h2.1 h3 (as := [] ++ []) (bs := [] ++ []) ?_ ?_, fun _ z => ?_⟩
        · rw [e1, List.map_cons, e2]
          exact .cons (.str _ tk) .nil
        · rw [e1, List.map_cons, e3]
          exact .cons (.int _ t) .nil
        · simp at z
          rw [← z] at ns
          simp at ns
theorem DqAll.reads (I : Inv X pins σ H s) : ∀ (ds : List PyData) (vs : List V) (us : List Value), DqAll H vs ds → Vals vs us → ∃ as, ReadsAll s.heap us ds as
  | [], _, _, h, r => by
    cases h
    cases r
    exact ⟨_, .nil⟩
  | d :: ds, _, _, h, r => by
    cases h with
    | cons h1 h2 =>
      cases r with
      | cons r1 r2 =>
        obtain ⟨as, q1, _⟩ := Dq.reads I d _ _ h1 r1
        obtain ⟨bs, q2⟩ := DqAll.reads I ds _ _ h2 r2
        exact ⟨_, .cons q1 q2⟩
end
end
/-! ### repr -/
theorem menu_see : ∀ d ∈ menu, d.showable = true ∧ (d.hasDict = true → isTop d = true) ∧ d.shown.length ≤ 100 ∧ d.depth ≤ 3 := by
  have z : (menu.all fun d => d.showable && (!d.hasDict || isTop d) && decide (d.shown.length ≤ 100) && decide (d.depth ≤ 3)) = true := by decide +kernel
  intro d hd
  have q := List.all_eq_true.mp z d hd
  simp only [Bool.and_eq_true, decide_eq_true_eq, Bool.or_eq_true, Bool.not_eq_true'] at q
  obtain ⟨⟨⟨q1, q2⟩, q3⟩, q4⟩ := q
  refine ⟨q1, fun h => ?_, q3, q4⟩
  rcases q2 with q2 | q2
  · rw [q2] at h
    cases h
  · exact q2
/-- the text of a list of two -/
def two (d e : PyData) : Str := listText [d.shown, e.shown]
section
variable {X : Cx}
/-- repr of a list of two things of the menu -/
def rRep2 : List V → Hp → VK → Prop := fun xs H Q => ∃ (q : Addr) (v1 v2 : V) (d1 d2 : PyData), xs = [.ref q] ∧ H q = some (.lst [v1, v2]) ∧ Dq H v1 d1 ∧ Dq H v2 d2 ∧ d1 ∈ menu ∧ d2 ∈ menu ∧ Q (.str (two d1 d2)) H
theorem two_len : ∀ d ∈ menu, ∀ e ∈ menu, (two d e).length ≤ 1000 := by
  have z : (menu.all fun d => menu.all fun e => decide ((two d e).length ≤ 1000)) = true := by decide +kernel
  intro d hd e he
  exact of_decide_eq_true (List.all_eq_true.mp (List.all_eq_true.mp z d hd) e he)
theorem call_rep2 (hG : X.A.guards = some []) (hu : X.A.units + 64 < cLine) : CallR X (.builtin "repr") rRep2 := by
  intro pins s σ H xs us Q I r h
  obtain ⟨q, v1, v2, d1, d2, rfl, hq, h1, h2, m1, m2, k⟩ := h
  obtain ⟨u, rfl, ru⟩ := vals1 r
  cases (show u = Value.ref q from ru)
  obtain ⟨_, its, n, rv, ho⟩ := I.hok _ _ hq
  cases rv with
  | cons r1 rv =>
    cases rv with
    | cons r2 rv =>
      cases rv
      rename_i u1 u2
      obtain ⟨as1, R1, S1⟩ := Dq.reads I d1 v1 u1 h1 r1
      obtain ⟨as2, R2, S2⟩ := Dq.reads I d2 v2 u2 h2 r2
      obtain ⟨a1, b1, c1, e1⟩ := menu_see d1 m1
      obtain ⟨a2, b2, c2, e2⟩ := menu_see d2 m2
      have hz : 100 ≤ sizeLine := by rw [sizeLine_eq]; omega
      obtain ⟨bs1, A1, K1⟩ := ReprK.of_reads (prog := X.prog) (w := X.w) R1 a1 (fun z => S1 (b1 z)) (Nat.le_trans c1 hz)
      obtain ⟨bs2, A2, K2⟩ := ReprK.of_reads (prog := X.prog) (w := X.w) R2 a2 (fun z => S2 (b2 z)) (Nat.le_trans c2 hz)
      have K1 := (K1.more (as' := bs1 ++ bs2) fun b hb => List.mem_append_left _ hb).level_le e1
      have K2 := (K2.more (as' := bs1 ++ bs2) fun b hb => List.mem_append_right _ hb).level_le e2
      have RL : Reads s.heap (.ref q) (.list [d1, d2]) _ := .list ho rfl rfl (.cons R1 (.cons R2 .nil))
      have hna : q ∉ bs1 ++ bs2 := fun hm => by
        rcases List.mem_append.mp hm with hm | hm
        · exact not_mem_of_deeper RL (n := max d1.depth d2.depth) (by simp only [PyData.depth, PyData.depthAll]; omega) (fun b hb => let ⟨d, as, x, y⟩ := A1 b hb; ⟨d, as, x, by omega⟩) hm
        · exact not_mem_of_deeper RL (n := max d1.depth d2.depth) (by simp only [PyData.depth, PyData.depthAll]; omega) (fun b hb => let ⟨d, as, x, y⟩ := A2 b hb; ⟨d, as, x, by omega⟩) hm
      refine call_repr_slot (T := "list") (idr := "list.__repr__") (by omega) ⟨_, ho, rfl⟩ F.slot_list_repr.toG ?_
      refine call_list_reprK (ts := [d1.shown, d2.shown]) (d := 3) ho rfl rfl hna rfl (fun i y e => ?_) (g := []) hG (fun b _ => Clear.nil b) (by show X.A.units + 1 + (3 + 1) < cLine; omega) (fun b o e => e) (fun h' u tk hk => ⟨_, _, rfl, .str (two d1 d2), H, I.kept hk, ⟨u, rfl⟩, k⟩) ?_
      · match i, e with
        | 0, e =>
          simp at e
          subst e
          exact ⟨_, rfl, K1⟩
        | 1, e =>
          simp at e
          subst e
          exact ⟨_, rfl, K2⟩
        | i + 2, e => simp at e
      · exact Nat.le_trans (two_len d1 m1 d2 m2) (by rw [sizeLine_eq]; omega)
/-- repr of a thing of the menu -/
def rRep1 : List V → Hp → VK → Prop := fun xs H Q => ∃ (v : V) (d : PyData), xs = [v] ∧ Dq H v d ∧ d ∈ menu ∧ Q (.str d.shown) H
theorem call_rep1 (hG : X.A.guards = some []) (hu : X.A.units + 64 < cLine) : CallR X (.builtin "repr") rRep1 := by
  intro pins s σ H xs us Q I r h
  obtain ⟨v, d, rfl, h1, m1, k⟩ := h
  obtain ⟨u, rfl, ru⟩ := vals1 r
  obtain ⟨as1, R1, S1⟩ := Dq.reads I d v u h1 ru
  obtain ⟨a1, b1, c1, e1⟩ := menu_see d m1
  have hz : 100 ≤ sizeLine := by rw [sizeLine_eq]; omega
  have big : ∀ a : Addr, u = .ref a → wpAny (model X.prog X.w) X.A (call (.builtin "repr") [u]) (EP X pins σ Q) X.xe s := fun a e => by
    subst e
    exact repr_of_reads' R1 a1 (fun z => S1 (b1 z)) hG (by omega) (fun _ _ e => e) (fun h' u tk hk => ⟨.str d.shown, H, I.kept hk, ⟨u, rfl⟩, k⟩) (Nat.le_trans c1 hz)
  cases R1 with
  | none => exact PySem.P.repr_of_none ⟨.str _, H, I.tok _, ⟨s.toks, by simp only [PyData.shown]⟩, k⟩
  | bool b => exact PySem.P.repr_of_bool ⟨.str _, H, I.tok _, ⟨s.toks, by simp only [PyData.shown]⟩, k⟩
  | int i t => exact PySem.P.repr_of_int (by simpa [PyData.showable] using a1) ⟨.str _, H, I.tok _, ⟨s.toks, by simp only [PyData.shown]⟩, k⟩
  | str x t => exact PySem.P.repr_of_str ⟨.str _, H, I.tok _, ⟨s.toks, by simp only [PyData.shown]⟩, k⟩ (by have := Nat.le_trans c1 hz; simpa only [PyData.shown] using this)
  | list _ _ _ _ => exact big _ rfl
  | tuple _ _ _ _ => exact big _ rfl
  | dict _ _ _ _ _ => exact big _ rfl
end
end KL
set_option Elab.async false
set_option linter.all false
set_option maxRecDepth 100000
set_option maxHeartbeats 4000000
namespace KL
open PySem L2 PySem.KX PySem.Spec PyProof.Rows
abbrev sFirst : Stmt := top 26
abbrev sLast : Stmt := top 27
abbrev sBare : Stmt := top 28
abbrev sKinds : Stmt := top 29
abbrev sPure : Stmt := top 30
abbrev sCaught : Stmt := top 31
abbrev sLaw : Stmt := top 32
/-- Python's own errors that none of these is -/
def others : List String := ["ValueError", "TypeError", "LookupError", "StopIteration", "ArithmeticError", "RuntimeError", "AttributeError"]
/-- what the top has left of the nineteen classes (C), their __init__ (I), HouseError (B) -/
structure Txt (K : PySem.W.Frag) (mg : Str → Option Value) (C I : Nat → Addr) (B : Addr) : Prop where
  d : TxtD mg
  ec : ∀ i, i < 19 → EC K (C i)
  e0 : EI K (C 0) (I 0) "part" "BadHouse.__init__"
  e1 : EI K (C 1) (I 1) "line" "BadText.__init__"
  e2 : EI K (C 2) (I 2) "index" "NoArrow.__init__"
  e3 : EI K (C 3) (I 3) "paper" "Beyond.__init__"
  e4 : EI K (C 4) (I 4) "deed" "CannotDo.__init__"
  e5 : EI K (C 5) (I 5) "thing" "NoTape.__init__"
  e6 : EI K (C 6) (I 6) "paper" "NoPace.__init__"
  e7 : EI K (C 7) (I 7) "paper" "NotTold.__init__"
  e8 : EI K (C 8) (I 8) "paper" "Drifts.__init__"
  e9 : EI K (C 9) (I 9) "part" "BadReader.__init__"
  e10 : EI K (C 10) (I 10) "thing" "BadQuestion.__init__"
  e11 : EI K (C 11) (I 11) "part" "BadPolicy.__init__"
  e12 : EI K (C 12) (I 12) "tries" "BadTries.__init__"
  b13 : EB K (C 13)
  b14 : EB K (C 14)
  b15 : EB K (C 15)
  b16 : EB K (C 16)
  b17 : EB K (C 17)
  b18 : EB K (C 18)
  m0 : mg "BadHouse" = some (.ref (C 0))
  m1 : mg "BadText" = some (.ref (C 1))
  m2 : mg "NoArrow" = some (.ref (C 2))
  m3 : mg "Beyond" = some (.ref (C 3))
  m4 : mg "CannotDo" = some (.ref (C 4))
  m5 : mg "NoTape" = some (.ref (C 5))
  m6 : mg "NoPace" = some (.ref (C 6))
  m7 : mg "NotTold" = some (.ref (C 7))
  m8 : mg "Drifts" = some (.ref (C 8))
  m9 : mg "BadReader" = some (.ref (C 9))
  m10 : mg "BadQuestion" = some (.ref (C 10))
  m11 : mg "BadPolicy" = some (.ref (C 11))
  m12 : mg "BadTries" = some (.ref (C 12))
  m13 : mg "Unlike" = some (.ref (C 13))
  m14 : mg "OtherPeople" = some (.ref (C 14))
  m15 : mg "NothingToUndo" = some (.ref (C 15))
  m16 : mg "NothingToRedo" = some (.ref (C 16))
  m17 : mg "NoHouse" = some (.ref (C 17))
  m18 : mg "InvalidCommand" = some (.ref (C 18))
  mB : mg "HouseError" = some (.ref B)
  kC : ∀ i j, i < 19 → j < 19 → PySem.W.kitOne K (.ref (C i)) (.ref (C j)) = some (decide (i = j))
  kB : ∀ i, i < 19 → PySem.W.kitOne K (.ref (C i)) (.ref B) = some true
  kX : ∀ i, i < 19 → PySem.W.kitOne K (.ref (C i)) (.type "Exception") = some true
  kO : ∀ i, i < 19 → ∀ T ∈ others, PySem.W.kitOne K (.ref (C i)) (.type T) = some false
  ty : ∀ i, i < 19 → PySem.W.typeIn K (.ref (C i)) = some (.type "type")
  x5 : PySem.W.exmOne K (.ref (C 5)) (.ref B) = some true
  x0 : PySem.W.exmOne K (.ref (C 0)) (.ref (C 0)) = some true
  isi : mg "isinstance" = none
  repr : mg "repr" = none
  range : mg "range" = none
  exc : mg "Exception" = none
  o0 : mg "ValueError" = none
  o1 : mg "TypeError" = none
  o2 : mg "LookupError" = none
  o3 : mg "StopIteration" = none
  o4 : mg "ArithmeticError" = none
  o5 : mg "RuntimeError" = none
  o6 : mg "AttributeError" = none
theorem two_new {H : Hp} {a d : Addr} (oa od : HO) (na : H a = none) (nd : H d = none) (ne : d ≠ a) : Same H (upd (upd H d od) a oa) ∧ (upd (upd H d od) a oa) a = some oa ∧ (upd (upd H d od) a oa) d = some od :=
  ⟨fun b o e => by
    rw [upd_ne (ne_of_none e na), upd_ne (ne_of_none e nd)]
    exact e, upd_same, by rw [upd_ne ne, upd_same]⟩
theorem iteNo {b : Bool} {A B : Prop} (hb : b = false) (h : B) : if b = true then A else B := by
  subst hb
  exact iteF h
theorem iteYes {b : Bool} {A B : Prop} (hb : b = true) (h : A) : if b = true then A else B := by
  subst hb
  exact iteT h
/-- two errors of one class with one value -/
def spMk (C : Nat → Addr) (lo hi : Nat) : Sp := fun vs H Q _ => ∃ (n : Nat) (v : V), vs = [.int n, v] ∧ lo ≤ n ∧ n < hi ∧ ∀ H' T a1 a2, Same H H' → H' T = some (.tup [.ref a1, .ref a2, v, v]) → ErrAt H' a1 (C n) → ErrAt H' a2 (C n) → Q (.ref T) H'
section
variable {P : Program} {w : World} {K : PySem.W.Frag} {mg : Str → Option Value} {base : Heap} {C I : Nat → Addr} {B : Addr}
theorem scFirst : FnScope ["_law_number", "_law_it_here", "_law_one", "_law_two"] ["_law_number", "_law_it_here"] (defScope sFirst) := ⟨rfl, rfl, rfl, by decide +kernel, rfl, by decide +kernel, by decide +kernel⟩
theorem ok_law_first {f : Addr} {fd : FuncData} (F : Fun K "_law_first" "_law_first" sFirst f fd) (T : Txt K mg C I B) : FnOk P w K mg base CX0 2 f fd ["_law_number", "_law_it_here"] (spMk C 0 7) := by
  refine F.ok scFirst (fun vs H Q E h => ?_) (fun cdv A outer s H vs Q E hr h => ?_)
  · obtain ⟨n, v, rfl, _⟩ := h
    rfl
  · obtain ⟨n, v, rfl, n0, n1, k⟩ := h
    refine ⟨_, (pss_cons (ps_if (pt_cmpR op_eq (pv 0) pe_int (nomark _)) (pss_cons (ps_par (i := 2) (j := 3) (by rfl) scFirst.nd rfl rfl (by decide) rfl rfl (pa_cons (pe_ex T.e0 T.m0 hr (by rfl) (pa_cons (pv 1) pa_nil)) (pa_cons (pe_exK T.e0 T.m0 hr (by rfl) (pv 1)) pa_nil)) (by rfl)) (pss_one (ps_ret (pe_tup (pa_cons (pv 2) (pa_cons (pv 3) (pa_cons (pe_exAt (pv 2)) (pa_cons (pe_exAt (pv 3)) pa_nil)))))))) pss_nil)
      (pss_cons (ps_if (pt_cmpR op_eq (pv 0) pe_int (nomark _)) (pss_cons (ps_par (i := 2) (j := 3) (by rfl) scFirst.nd rfl rfl (by decide) rfl rfl (pa_cons (pe_ex T.e1 T.m1 hr (by rfl) (pa_cons (pv 1) pa_nil)) (pa_cons (pe_exK T.e1 T.m1 hr (by rfl) (pv 1)) pa_nil)) (by rfl)) (pss_one (ps_ret (pe_tup (pa_cons (pv 2) (pa_cons (pv 3) (pa_cons (pe_exAt (pv 2)) (pa_cons (pe_exAt (pv 3)) pa_nil)))))))) pss_nil)
      (pss_cons (ps_if (pt_cmpR op_eq (pv 0) pe_int (nomark _)) (pss_cons (ps_par (i := 2) (j := 3) (by rfl) scFirst.nd rfl rfl (by decide) rfl rfl (pa_cons (pe_ex T.e2 T.m2 hr (by rfl) (pa_cons (pv 1) pa_nil)) (pa_cons (pe_exK T.e2 T.m2 hr (by rfl) (pv 1)) pa_nil)) (by rfl)) (pss_one (ps_ret (pe_tup (pa_cons (pv 2) (pa_cons (pv 3) (pa_cons (pe_exAt (pv 2)) (pa_cons (pe_exAt (pv 3)) pa_nil)))))))) pss_nil)
      (pss_cons (ps_if (pt_cmpR op_eq (pv 0) pe_int (nomark _)) (pss_cons (ps_par (i := 2) (j := 3) (by rfl) scFirst.nd rfl rfl (by decide) rfl rfl (pa_cons (pe_ex T.e3 T.m3 hr (by rfl) (pa_cons (pv 1) pa_nil)) (pa_cons (pe_exK T.e3 T.m3 hr (by rfl) (pv 1)) pa_nil)) (by rfl)) (pss_one (ps_ret (pe_tup (pa_cons (pv 2) (pa_cons (pv 3) (pa_cons (pe_exAt (pv 2)) (pa_cons (pe_exAt (pv 3)) pa_nil)))))))) pss_nil)
      (pss_cons (ps_if (pt_cmpR op_eq (pv 0) pe_int (nomark _)) (pss_cons (ps_par (i := 2) (j := 3) (by rfl) scFirst.nd rfl rfl (by decide) rfl rfl (pa_cons (pe_ex T.e4 T.m4 hr (by rfl) (pa_cons (pv 1) pa_nil)) (pa_cons (pe_exK T.e4 T.m4 hr (by rfl) (pv 1)) pa_nil)) (by rfl)) (pss_one (ps_ret (pe_tup (pa_cons (pv 2) (pa_cons (pv 3) (pa_cons (pe_exAt (pv 2)) (pa_cons (pe_exAt (pv 3)) pa_nil)))))))) pss_nil)
      (pss_cons (ps_if (pt_cmpR op_eq (pv 0) pe_int (nomark _)) (pss_cons (ps_par (i := 2) (j := 3) (by rfl) scFirst.nd rfl rfl (by decide) rfl rfl (pa_cons (pe_ex T.e5 T.m5 hr (by rfl) (pa_cons (pv 1) pa_nil)) (pa_cons (pe_exK T.e5 T.m5 hr (by rfl) (pv 1)) pa_nil)) (by rfl)) (pss_one (ps_ret (pe_tup (pa_cons (pv 2) (pa_cons (pv 3) (pa_cons (pe_exAt (pv 2)) (pa_cons (pe_exAt (pv 3)) pa_nil)))))))) pss_nil)
      (pss_cons (ps_par (i := 2) (j := 3) (by rfl) scFirst.nd rfl rfl (by decide) rfl rfl (pa_cons (pe_ex T.e6 T.m6 hr (by rfl) (pa_cons (pv 1) pa_nil)) (pa_cons (pe_exK T.e6 T.m6 hr (by rfl) (pv 1)) pa_nil)) (by rfl)) (pss_one (ps_ret (pe_tup (pa_cons (pv 2) (pa_cons (pv 3) (pa_cons (pe_exAt (pv 2)) (pa_cons (pe_exAt (pv 3)) pa_nil)))))))))))))), ?_⟩
    have hn : n = 0 ∨ n = 1 ∨ n = 2 ∨ n = 3 ∨ n = 4 ∨ n = 5 ∨ n = 6 := by omega
    rcases hn with rfl | rfl | rfl | rfl | rfl | rfl | rfl
    · skip
      refine ⟨_, rfl, rfl, _, rfl, iteYes (by decide +kernel) ?_⟩
      refine ⟨_, rfl, v, rfl, fun a1 d1 na1 nd1 ne1 => ?_⟩
      have q1 := two_new (exo a1 (C 0) (some d1)) (exd d1 [("part", v)]) na1 nd1 ne1
      revert q1
      generalize upd (upd H d1 (exd d1 [("part", v)])) a1 (exo a1 (C 0) (some d1)) = H1
      rintro ⟨S1, A1, D1⟩
      refine ⟨_, rfl, v, rfl, fun a2 d2 na2 nd2 ne2 => ?_⟩
      have q2 := two_new (exo a2 (C 0) (some d2)) (exd d2 [("part", v)]) na2 nd2 ne2
      revert q2
      generalize upd (upd H1 d2 (exd d2 [("part", v)])) a2 (exo a2 (C 0) (some d2)) = H2
      rintro ⟨S2, A2, D2⟩
      refine ⟨_, _, rfl, _, rfl, _, rfl, _, rfl, a1, C 0, d1, _, v, rfl, T.e0.c, T.e0.nf, S2 _ _ A1, S2 _ _ D1, rfl, _, rfl, a2, C 0, d2, _, v, rfl, T.e0.c, T.e0.nf, A2, D2, rfl, (by show 4 ≤ sizeLine; decide), fun t ht => ?_⟩
      have S3 := same_new (o := .tup [.ref a1, .ref a2, v, v]) ht
      exact k _ t a1 a2 (S1.trans (S2.trans S3)) upd_same (.inr ⟨d1, _, S3 _ _ (S2 _ _ A1), S3 _ _ (S2 _ _ D1)⟩) (.inr ⟨d2, _, S3 _ _ A2, S3 _ _ D2⟩)
    · skip
      refine ⟨_, rfl, rfl, _, rfl, iteNo (by decide +kernel) ?_⟩
      refine ⟨_, rfl, rfl, _, rfl, iteYes (by decide +kernel) ?_⟩
      refine ⟨_, rfl, v, rfl, fun a1 d1 na1 nd1 ne1 => ?_⟩
      have q1 := two_new (exo a1 (C 1) (some d1)) (exd d1 [("line", v)]) na1 nd1 ne1
      revert q1
      generalize upd (upd H d1 (exd d1 [("line", v)])) a1 (exo a1 (C 1) (some d1)) = H1
      rintro ⟨S1, A1, D1⟩
      refine ⟨_, rfl, v, rfl, fun a2 d2 na2 nd2 ne2 => ?_⟩
      have q2 := two_new (exo a2 (C 1) (some d2)) (exd d2 [("line", v)]) na2 nd2 ne2
      revert q2
      generalize upd (upd H1 d2 (exd d2 [("line", v)])) a2 (exo a2 (C 1) (some d2)) = H2
      rintro ⟨S2, A2, D2⟩
      refine ⟨_, _, rfl, _, rfl, _, rfl, _, rfl, a1, C 1, d1, _, v, rfl, T.e1.c, T.e1.nf, S2 _ _ A1, S2 _ _ D1, rfl, _, rfl, a2, C 1, d2, _, v, rfl, T.e1.c, T.e1.nf, A2, D2, rfl, (by show 4 ≤ sizeLine; decide), fun t ht => ?_⟩
      have S3 := same_new (o := .tup [.ref a1, .ref a2, v, v]) ht
      exact k _ t a1 a2 (S1.trans (S2.trans S3)) upd_same (.inr ⟨d1, _, S3 _ _ (S2 _ _ A1), S3 _ _ (S2 _ _ D1)⟩) (.inr ⟨d2, _, S3 _ _ A2, S3 _ _ D2⟩)
    · skip
      refine ⟨_, rfl, rfl, _, rfl, iteNo (by decide +kernel) ?_⟩
      refine ⟨_, rfl, rfl, _, rfl, iteNo (by decide +kernel) ?_⟩
      refine ⟨_, rfl, rfl, _, rfl, iteYes (by decide +kernel) ?_⟩
      refine ⟨_, rfl, v, rfl, fun a1 d1 na1 nd1 ne1 => ?_⟩
      have q1 := two_new (exo a1 (C 2) (some d1)) (exd d1 [("index", v)]) na1 nd1 ne1
      revert q1
      generalize upd (upd H d1 (exd d1 [("index", v)])) a1 (exo a1 (C 2) (some d1)) = H1
      rintro ⟨S1, A1, D1⟩
      refine ⟨_, rfl, v, rfl, fun a2 d2 na2 nd2 ne2 => ?_⟩
      have q2 := two_new (exo a2 (C 2) (some d2)) (exd d2 [("index", v)]) na2 nd2 ne2
      revert q2
      generalize upd (upd H1 d2 (exd d2 [("index", v)])) a2 (exo a2 (C 2) (some d2)) = H2
      rintro ⟨S2, A2, D2⟩
      refine ⟨_, _, rfl, _, rfl, _, rfl, _, rfl, a1, C 2, d1, _, v, rfl, T.e2.c, T.e2.nf, S2 _ _ A1, S2 _ _ D1, rfl, _, rfl, a2, C 2, d2, _, v, rfl, T.e2.c, T.e2.nf, A2, D2, rfl, (by show 4 ≤ sizeLine; decide), fun t ht => ?_⟩
      have S3 := same_new (o := .tup [.ref a1, .ref a2, v, v]) ht
      exact k _ t a1 a2 (S1.trans (S2.trans S3)) upd_same (.inr ⟨d1, _, S3 _ _ (S2 _ _ A1), S3 _ _ (S2 _ _ D1)⟩) (.inr ⟨d2, _, S3 _ _ A2, S3 _ _ D2⟩)
    · skip
      refine ⟨_, rfl, rfl, _, rfl, iteNo (by decide +kernel) ?_⟩
      refine ⟨_, rfl, rfl, _, rfl, iteNo (by decide +kernel) ?_⟩
      refine ⟨_, rfl, rfl, _, rfl, iteNo (by decide +kernel) ?_⟩
      refine ⟨_, rfl, rfl, _, rfl, iteYes (by decide +kernel) ?_⟩
      refine ⟨_, rfl, v, rfl, fun a1 d1 na1 nd1 ne1 => ?_⟩
      have q1 := two_new (exo a1 (C 3) (some d1)) (exd d1 [("paper", v)]) na1 nd1 ne1
      revert q1
      generalize upd (upd H d1 (exd d1 [("paper", v)])) a1 (exo a1 (C 3) (some d1)) = H1
      rintro ⟨S1, A1, D1⟩
      refine ⟨_, rfl, v, rfl, fun a2 d2 na2 nd2 ne2 => ?_⟩
      have q2 := two_new (exo a2 (C 3) (some d2)) (exd d2 [("paper", v)]) na2 nd2 ne2
      revert q2
      generalize upd (upd H1 d2 (exd d2 [("paper", v)])) a2 (exo a2 (C 3) (some d2)) = H2
      rintro ⟨S2, A2, D2⟩
      refine ⟨_, _, rfl, _, rfl, _, rfl, _, rfl, a1, C 3, d1, _, v, rfl, T.e3.c, T.e3.nf, S2 _ _ A1, S2 _ _ D1, rfl, _, rfl, a2, C 3, d2, _, v, rfl, T.e3.c, T.e3.nf, A2, D2, rfl, (by show 4 ≤ sizeLine; decide), fun t ht => ?_⟩
      have S3 := same_new (o := .tup [.ref a1, .ref a2, v, v]) ht
      exact k _ t a1 a2 (S1.trans (S2.trans S3)) upd_same (.inr ⟨d1, _, S3 _ _ (S2 _ _ A1), S3 _ _ (S2 _ _ D1)⟩) (.inr ⟨d2, _, S3 _ _ A2, S3 _ _ D2⟩)
    · skip
      refine ⟨_, rfl, rfl, _, rfl, iteNo (by decide +kernel) ?_⟩
      refine ⟨_, rfl, rfl, _, rfl, iteNo (by decide +kernel) ?_⟩
      refine ⟨_, rfl, rfl, _, rfl, iteNo (by decide +kernel) ?_⟩
      refine ⟨_, rfl, rfl, _, rfl, iteNo (by decide +kernel) ?_⟩
      refine ⟨_, rfl, rfl, _, rfl, iteYes (by decide +kernel) ?_⟩
      refine ⟨_, rfl, v, rfl, fun a1 d1 na1 nd1 ne1 => ?_⟩
      have q1 := two_new (exo a1 (C 4) (some d1)) (exd d1 [("deed", v)]) na1 nd1 ne1
      revert q1
      generalize upd (upd H d1 (exd d1 [("deed", v)])) a1 (exo a1 (C 4) (some d1)) = H1
      rintro ⟨S1, A1, D1⟩
      refine ⟨_, rfl, v, rfl, fun a2 d2 na2 nd2 ne2 => ?_⟩
      have q2 := two_new (exo a2 (C 4) (some d2)) (exd d2 [("deed", v)]) na2 nd2 ne2
      revert q2
      generalize upd (upd H1 d2 (exd d2 [("deed", v)])) a2 (exo a2 (C 4) (some d2)) = H2
      rintro ⟨S2, A2, D2⟩
      refine ⟨_, _, rfl, _, rfl, _, rfl, _, rfl, a1, C 4, d1, _, v, rfl, T.e4.c, T.e4.nf, S2 _ _ A1, S2 _ _ D1, rfl, _, rfl, a2, C 4, d2, _, v, rfl, T.e4.c, T.e4.nf, A2, D2, rfl, (by show 4 ≤ sizeLine; decide), fun t ht => ?_⟩
      have S3 := same_new (o := .tup [.ref a1, .ref a2, v, v]) ht
      exact k _ t a1 a2 (S1.trans (S2.trans S3)) upd_same (.inr ⟨d1, _, S3 _ _ (S2 _ _ A1), S3 _ _ (S2 _ _ D1)⟩) (.inr ⟨d2, _, S3 _ _ A2, S3 _ _ D2⟩)
    · skip
      refine ⟨_, rfl, rfl, _, rfl, iteNo (by decide +kernel) ?_⟩
      refine ⟨_, rfl, rfl, _, rfl, iteNo (by decide +kernel) ?_⟩
      refine ⟨_, rfl, rfl, _, rfl, iteNo (by decide +kernel) ?_⟩
      refine ⟨_, rfl, rfl, _, rfl, iteNo (by decide +kernel) ?_⟩
      refine ⟨_, rfl, rfl, _, rfl, iteNo (by decide +kernel) ?_⟩
      refine ⟨_, rfl, rfl, _, rfl, iteYes (by decide +kernel) ?_⟩
      refine ⟨_, rfl, v, rfl, fun a1 d1 na1 nd1 ne1 => ?_⟩
      have q1 := two_new (exo a1 (C 5) (some d1)) (exd d1 [("thing", v)]) na1 nd1 ne1
      revert q1
      generalize upd (upd H d1 (exd d1 [("thing", v)])) a1 (exo a1 (C 5) (some d1)) = H1
      rintro ⟨S1, A1, D1⟩
      refine ⟨_, rfl, v, rfl, fun a2 d2 na2 nd2 ne2 => ?_⟩
      have q2 := two_new (exo a2 (C 5) (some d2)) (exd d2 [("thing", v)]) na2 nd2 ne2
      revert q2
      generalize upd (upd H1 d2 (exd d2 [("thing", v)])) a2 (exo a2 (C 5) (some d2)) = H2
      rintro ⟨S2, A2, D2⟩
      refine ⟨_, _, rfl, _, rfl, _, rfl, _, rfl, a1, C 5, d1, _, v, rfl, T.e5.c, T.e5.nf, S2 _ _ A1, S2 _ _ D1, rfl, _, rfl, a2, C 5, d2, _, v, rfl, T.e5.c, T.e5.nf, A2, D2, rfl, (by show 4 ≤ sizeLine; decide), fun t ht => ?_⟩
      have S3 := same_new (o := .tup [.ref a1, .ref a2, v, v]) ht
      exact k _ t a1 a2 (S1.trans (S2.trans S3)) upd_same (.inr ⟨d1, _, S3 _ _ (S2 _ _ A1), S3 _ _ (S2 _ _ D1)⟩) (.inr ⟨d2, _, S3 _ _ A2, S3 _ _ D2⟩)
    · skip
      refine ⟨_, rfl, rfl, _, rfl, iteNo (by decide +kernel) ?_⟩
      refine ⟨_, rfl, rfl, _, rfl, iteNo (by decide +kernel) ?_⟩
      refine ⟨_, rfl, rfl, _, rfl, iteNo (by decide +kernel) ?_⟩
      refine ⟨_, rfl, rfl, _, rfl, iteNo (by decide +kernel) ?_⟩
      refine ⟨_, rfl, rfl, _, rfl, iteNo (by decide +kernel) ?_⟩
      refine ⟨_, rfl, rfl, _, rfl, iteNo (by decide +kernel) ?_⟩
      refine ⟨_, rfl, v, rfl, fun a1 d1 na1 nd1 ne1 => ?_⟩
      have q1 := two_new (exo a1 (C 6) (some d1)) (exd d1 [("paper", v)]) na1 nd1 ne1
      revert q1
      generalize upd (upd H d1 (exd d1 [("paper", v)])) a1 (exo a1 (C 6) (some d1)) = H1
      rintro ⟨S1, A1, D1⟩
      refine ⟨_, rfl, v, rfl, fun a2 d2 na2 nd2 ne2 => ?_⟩
      have q2 := two_new (exo a2 (C 6) (some d2)) (exd d2 [("paper", v)]) na2 nd2 ne2
      revert q2
      generalize upd (upd H1 d2 (exd d2 [("paper", v)])) a2 (exo a2 (C 6) (some d2)) = H2
      rintro ⟨S2, A2, D2⟩
      refine ⟨_, _, rfl, _, rfl, _, rfl, _, rfl, a1, C 6, d1, _, v, rfl, T.e6.c, T.e6.nf, S2 _ _ A1, S2 _ _ D1, rfl, _, rfl, a2, C 6, d2, _, v, rfl, T.e6.c, T.e6.nf, A2, D2, rfl, (by show 4 ≤ sizeLine; decide), fun t ht => ?_⟩
      have S3 := same_new (o := .tup [.ref a1, .ref a2, v, v]) ht
      exact k _ t a1 a2 (S1.trans (S2.trans S3)) upd_same (.inr ⟨d1, _, S3 _ _ (S2 _ _ A1), S3 _ _ (S2 _ _ D1)⟩) (.inr ⟨d2, _, S3 _ _ A2, S3 _ _ D2⟩)
theorem scLast : FnScope ["_law_number", "_law_it_here", "_law_one", "_law_two"] ["_law_number", "_law_it_here"] (defScope sLast) := ⟨rfl, rfl, rfl, by decide +kernel, rfl, by decide +kernel, by decide +kernel⟩
theorem ok_law_last {f : Addr} {fd : FuncData} (F : Fun K "_law_last" "_law_last" sLast f fd) (T : Txt K mg C I B) : FnOk P w K mg base CX0 2 f fd ["_law_number", "_law_it_here"] (spMk C 7 13) := by
  refine F.ok scLast (fun vs H Q E h => ?_) (fun cdv A outer s H vs Q E hr h => ?_)
  · obtain ⟨n, v, rfl, _⟩ := h
    rfl
  · obtain ⟨n, v, rfl, n0, n1, k⟩ := h
    refine ⟨_, (pss_cons (ps_if (pt_cmpR op_eq (pv 0) pe_int (nomark _)) (pss_cons (ps_par (i := 2) (j := 3) (by rfl) scLast.nd rfl rfl (by decide) rfl rfl (pa_cons (pe_ex T.e7 T.m7 hr (by rfl) (pa_cons (pv 1) pa_nil)) (pa_cons (pe_exK T.e7 T.m7 hr (by rfl) (pv 1)) pa_nil)) (by rfl)) (pss_one (ps_ret (pe_tup (pa_cons (pv 2) (pa_cons (pv 3) (pa_cons (pe_exAt (pv 2)) (pa_cons (pe_exAt (pv 3)) pa_nil)))))))) pss_nil)
      (pss_cons (ps_if (pt_cmpR op_eq (pv 0) pe_int (nomark _)) (pss_cons (ps_par (i := 2) (j := 3) (by rfl) scLast.nd rfl rfl (by decide) rfl rfl (pa_cons (pe_ex T.e8 T.m8 hr (by rfl) (pa_cons (pv 1) pa_nil)) (pa_cons (pe_exK T.e8 T.m8 hr (by rfl) (pv 1)) pa_nil)) (by rfl)) (pss_one (ps_ret (pe_tup (pa_cons (pv 2) (pa_cons (pv 3) (pa_cons (pe_exAt (pv 2)) (pa_cons (pe_exAt (pv 3)) pa_nil)))))))) pss_nil)
      (pss_cons (ps_if (pt_cmpR op_eq (pv 0) pe_int (nomark _)) (pss_cons (ps_par (i := 2) (j := 3) (by rfl) scLast.nd rfl rfl (by decide) rfl rfl (pa_cons (pe_ex T.e9 T.m9 hr (by rfl) (pa_cons (pv 1) pa_nil)) (pa_cons (pe_exK T.e9 T.m9 hr (by rfl) (pv 1)) pa_nil)) (by rfl)) (pss_one (ps_ret (pe_tup (pa_cons (pv 2) (pa_cons (pv 3) (pa_cons (pe_exAt (pv 2)) (pa_cons (pe_exAt (pv 3)) pa_nil)))))))) pss_nil)
      (pss_cons (ps_if (pt_cmpR op_eq (pv 0) pe_int (nomark _)) (pss_cons (ps_par (i := 2) (j := 3) (by rfl) scLast.nd rfl rfl (by decide) rfl rfl (pa_cons (pe_ex T.e10 T.m10 hr (by rfl) (pa_cons (pv 1) pa_nil)) (pa_cons (pe_exK T.e10 T.m10 hr (by rfl) (pv 1)) pa_nil)) (by rfl)) (pss_one (ps_ret (pe_tup (pa_cons (pv 2) (pa_cons (pv 3) (pa_cons (pe_exAt (pv 2)) (pa_cons (pe_exAt (pv 3)) pa_nil)))))))) pss_nil)
      (pss_cons (ps_if (pt_cmpR op_eq (pv 0) pe_int (nomark _)) (pss_cons (ps_par (i := 2) (j := 3) (by rfl) scLast.nd rfl rfl (by decide) rfl rfl (pa_cons (pe_ex T.e11 T.m11 hr (by rfl) (pa_cons (pv 1) pa_nil)) (pa_cons (pe_exK T.e11 T.m11 hr (by rfl) (pv 1)) pa_nil)) (by rfl)) (pss_one (ps_ret (pe_tup (pa_cons (pv 2) (pa_cons (pv 3) (pa_cons (pe_exAt (pv 2)) (pa_cons (pe_exAt (pv 3)) pa_nil)))))))) pss_nil)
      (pss_cons (ps_par (i := 2) (j := 3) (by rfl) scLast.nd rfl rfl (by decide) rfl rfl (pa_cons (pe_ex T.e12 T.m12 hr (by rfl) (pa_cons (pv 1) pa_nil)) (pa_cons (pe_exK T.e12 T.m12 hr (by rfl) (pv 1)) pa_nil)) (by rfl)) (pss_one (ps_ret (pe_tup (pa_cons (pv 2) (pa_cons (pv 3) (pa_cons (pe_exAt (pv 2)) (pa_cons (pe_exAt (pv 3)) pa_nil))))))))))))), ?_⟩
    have hn : n = 7 ∨ n = 8 ∨ n = 9 ∨ n = 10 ∨ n = 11 ∨ n = 12 := by omega
    rcases hn with rfl | rfl | rfl | rfl | rfl | rfl
    · skip
      refine ⟨_, rfl, rfl, _, rfl, iteYes (by decide +kernel) ?_⟩
      refine ⟨_, rfl, v, rfl, fun a1 d1 na1 nd1 ne1 => ?_⟩
      have q1 := two_new (exo a1 (C 7) (some d1)) (exd d1 [("paper", v)]) na1 nd1 ne1
      revert q1
      generalize upd (upd H d1 (exd d1 [("paper", v)])) a1 (exo a1 (C 7) (some d1)) = H1
      rintro ⟨S1, A1, D1⟩
      refine ⟨_, rfl, v, rfl, fun a2 d2 na2 nd2 ne2 => ?_⟩
      have q2 := two_new (exo a2 (C 7) (some d2)) (exd d2 [("paper", v)]) na2 nd2 ne2
      revert q2
      generalize upd (upd H1 d2 (exd d2 [("paper", v)])) a2 (exo a2 (C 7) (some d2)) = H2
      rintro ⟨S2, A2, D2⟩
      refine ⟨_, _, rfl, _, rfl, _, rfl, _, rfl, a1, C 7, d1, _, v, rfl, T.e7.c, T.e7.nf, S2 _ _ A1, S2 _ _ D1, rfl, _, rfl, a2, C 7, d2, _, v, rfl, T.e7.c, T.e7.nf, A2, D2, rfl, (by show 4 ≤ sizeLine; decide), fun t ht => ?_⟩
      have S3 := same_new (o := .tup [.ref a1, .ref a2, v, v]) ht
      exact k _ t a1 a2 (S1.trans (S2.trans S3)) upd_same (.inr ⟨d1, _, S3 _ _ (S2 _ _ A1), S3 _ _ (S2 _ _ D1)⟩) (.inr ⟨d2, _, S3 _ _ A2, S3 _ _ D2⟩)
    · skip
      refine ⟨_, rfl, rfl, _, rfl, iteNo (by decide +kernel) ?_⟩
      refine ⟨_, rfl, rfl, _, rfl, iteYes (by decide +kernel) ?_⟩
      refine ⟨_, rfl, v, rfl, fun a1 d1 na1 nd1 ne1 => ?_⟩
      have q1 := two_new (exo a1 (C 8) (some d1)) (exd d1 [("paper", v)]) na1 nd1 ne1
      revert q1
      generalize upd (upd H d1 (exd d1 [("paper", v)])) a1 (exo a1 (C 8) (some d1)) = H1
      rintro ⟨S1, A1, D1⟩
      refine ⟨_, rfl, v, rfl, fun a2 d2 na2 nd2 ne2 => ?_⟩
      have q2 := two_new (exo a2 (C 8) (some d2)) (exd d2 [("paper", v)]) na2 nd2 ne2
      revert q2
      generalize upd (upd H1 d2 (exd d2 [("paper", v)])) a2 (exo a2 (C 8) (some d2)) = H2
      rintro ⟨S2, A2, D2⟩
      refine ⟨_, _, rfl, _, rfl, _, rfl, _, rfl, a1, C 8, d1, _, v, rfl, T.e8.c, T.e8.nf, S2 _ _ A1, S2 _ _ D1, rfl, _, rfl, a2, C 8, d2, _, v, rfl, T.e8.c, T.e8.nf, A2, D2, rfl, (by show 4 ≤ sizeLine; decide), fun t ht => ?_⟩
      have S3 := same_new (o := .tup [.ref a1, .ref a2, v, v]) ht
      exact k _ t a1 a2 (S1.trans (S2.trans S3)) upd_same (.inr ⟨d1, _, S3 _ _ (S2 _ _ A1), S3 _ _ (S2 _ _ D1)⟩) (.inr ⟨d2, _, S3 _ _ A2, S3 _ _ D2⟩)
    · skip
      refine ⟨_, rfl, rfl, _, rfl, iteNo (by decide +kernel) ?_⟩
      refine ⟨_, rfl, rfl, _, rfl, iteNo (by decide +kernel) ?_⟩
      refine ⟨_, rfl, rfl, _, rfl, iteYes (by decide +kernel) ?_⟩
      refine ⟨_, rfl, v, rfl, fun a1 d1 na1 nd1 ne1 => ?_⟩
      have q1 := two_new (exo a1 (C 9) (some d1)) (exd d1 [("part", v)]) na1 nd1 ne1
      revert q1
      generalize upd (upd H d1 (exd d1 [("part", v)])) a1 (exo a1 (C 9) (some d1)) = H1
      rintro ⟨S1, A1, D1⟩
      refine ⟨_, rfl, v, rfl, fun a2 d2 na2 nd2 ne2 => ?_⟩
      have q2 := two_new (exo a2 (C 9) (some d2)) (exd d2 [("part", v)]) na2 nd2 ne2
      revert q2
      generalize upd (upd H1 d2 (exd d2 [("part", v)])) a2 (exo a2 (C 9) (some d2)) = H2
      rintro ⟨S2, A2, D2⟩
      refine ⟨_, _, rfl, _, rfl, _, rfl, _, rfl, a1, C 9, d1, _, v, rfl, T.e9.c, T.e9.nf, S2 _ _ A1, S2 _ _ D1, rfl, _, rfl, a2, C 9, d2, _, v, rfl, T.e9.c, T.e9.nf, A2, D2, rfl, (by show 4 ≤ sizeLine; decide), fun t ht => ?_⟩
      have S3 := same_new (o := .tup [.ref a1, .ref a2, v, v]) ht
      exact k _ t a1 a2 (S1.trans (S2.trans S3)) upd_same (.inr ⟨d1, _, S3 _ _ (S2 _ _ A1), S3 _ _ (S2 _ _ D1)⟩) (.inr ⟨d2, _, S3 _ _ A2, S3 _ _ D2⟩)
    · skip
      refine ⟨_, rfl, rfl, _, rfl, iteNo (by decide +kernel) ?_⟩
      refine ⟨_, rfl, rfl, _, rfl, iteNo (by decide +kernel) ?_⟩
      refine ⟨_, rfl, rfl, _, rfl, iteNo (by decide +kernel) ?_⟩
      refine ⟨_, rfl, rfl, _, rfl, iteYes (by decide +kernel) ?_⟩
      refine ⟨_, rfl, v, rfl, fun a1 d1 na1 nd1 ne1 => ?_⟩
      have q1 := two_new (exo a1 (C 10) (some d1)) (exd d1 [("thing", v)]) na1 nd1 ne1
      revert q1
      generalize upd (upd H d1 (exd d1 [("thing", v)])) a1 (exo a1 (C 10) (some d1)) = H1
      rintro ⟨S1, A1, D1⟩
      refine ⟨_, rfl, v, rfl, fun a2 d2 na2 nd2 ne2 => ?_⟩
      have q2 := two_new (exo a2 (C 10) (some d2)) (exd d2 [("thing", v)]) na2 nd2 ne2
      revert q2
      generalize upd (upd H1 d2 (exd d2 [("thing", v)])) a2 (exo a2 (C 10) (some d2)) = H2
      rintro ⟨S2, A2, D2⟩
      refine ⟨_, _, rfl, _, rfl, _, rfl, _, rfl, a1, C 10, d1, _, v, rfl, T.e10.c, T.e10.nf, S2 _ _ A1, S2 _ _ D1, rfl, _, rfl, a2, C 10, d2, _, v, rfl, T.e10.c, T.e10.nf, A2, D2, rfl, (by show 4 ≤ sizeLine; decide), fun t ht => ?_⟩
      have S3 := same_new (o := .tup [.ref a1, .ref a2, v, v]) ht
      exact k _ t a1 a2 (S1.trans (S2.trans S3)) upd_same (.inr ⟨d1, _, S3 _ _ (S2 _ _ A1), S3 _ _ (S2 _ _ D1)⟩) (.inr ⟨d2, _, S3 _ _ A2, S3 _ _ D2⟩)
    · skip
      refine ⟨_, rfl, rfl, _, rfl, iteNo (by decide +kernel) ?_⟩
      refine ⟨_, rfl, rfl, _, rfl, iteNo (by decide +kernel) ?_⟩
      refine ⟨_, rfl, rfl, _, rfl, iteNo (by decide +kernel) ?_⟩
      refine ⟨_, rfl, rfl, _, rfl, iteNo (by decide +kernel) ?_⟩
      refine ⟨_, rfl, rfl, _, rfl, iteYes (by decide +kernel) ?_⟩
      refine ⟨_, rfl, v, rfl, fun a1 d1 na1 nd1 ne1 => ?_⟩
      have q1 := two_new (exo a1 (C 11) (some d1)) (exd d1 [("part", v)]) na1 nd1 ne1
      revert q1
      generalize upd (upd H d1 (exd d1 [("part", v)])) a1 (exo a1 (C 11) (some d1)) = H1
      rintro ⟨S1, A1, D1⟩
      refine ⟨_, rfl, v, rfl, fun a2 d2 na2 nd2 ne2 => ?_⟩
      have q2 := two_new (exo a2 (C 11) (some d2)) (exd d2 [("part", v)]) na2 nd2 ne2
      revert q2
      generalize upd (upd H1 d2 (exd d2 [("part", v)])) a2 (exo a2 (C 11) (some d2)) = H2
      rintro ⟨S2, A2, D2⟩
      refine ⟨_, _, rfl, _, rfl, _, rfl, _, rfl, a1, C 11, d1, _, v, rfl, T.e11.c, T.e11.nf, S2 _ _ A1, S2 _ _ D1, rfl, _, rfl, a2, C 11, d2, _, v, rfl, T.e11.c, T.e11.nf, A2, D2, rfl, (by show 4 ≤ sizeLine; decide), fun t ht => ?_⟩
      have S3 := same_new (o := .tup [.ref a1, .ref a2, v, v]) ht
      exact k _ t a1 a2 (S1.trans (S2.trans S3)) upd_same (.inr ⟨d1, _, S3 _ _ (S2 _ _ A1), S3 _ _ (S2 _ _ D1)⟩) (.inr ⟨d2, _, S3 _ _ A2, S3 _ _ D2⟩)
    · skip
      refine ⟨_, rfl, rfl, _, rfl, iteNo (by decide +kernel) ?_⟩
      refine ⟨_, rfl, rfl, _, rfl, iteNo (by decide +kernel) ?_⟩
      refine ⟨_, rfl, rfl, _, rfl, iteNo (by decide +kernel) ?_⟩
      refine ⟨_, rfl, rfl, _, rfl, iteNo (by decide +kernel) ?_⟩
      refine ⟨_, rfl, rfl, _, rfl, iteNo (by decide +kernel) ?_⟩
      refine ⟨_, rfl, v, rfl, fun a1 d1 na1 nd1 ne1 => ?_⟩
      have q1 := two_new (exo a1 (C 12) (some d1)) (exd d1 [("tries", v)]) na1 nd1 ne1
      revert q1
      generalize upd (upd H d1 (exd d1 [("tries", v)])) a1 (exo a1 (C 12) (some d1)) = H1
      rintro ⟨S1, A1, D1⟩
      refine ⟨_, rfl, v, rfl, fun a2 d2 na2 nd2 ne2 => ?_⟩
      have q2 := two_new (exo a2 (C 12) (some d2)) (exd d2 [("tries", v)]) na2 nd2 ne2
      revert q2
      generalize upd (upd H1 d2 (exd d2 [("tries", v)])) a2 (exo a2 (C 12) (some d2)) = H2
      rintro ⟨S2, A2, D2⟩
      refine ⟨_, _, rfl, _, rfl, _, rfl, _, rfl, a1, C 12, d1, _, v, rfl, T.e12.c, T.e12.nf, S2 _ _ A1, S2 _ _ D1, rfl, _, rfl, a2, C 12, d2, _, v, rfl, T.e12.c, T.e12.nf, A2, D2, rfl, (by show 4 ≤ sizeLine; decide), fun t ht => ?_⟩
      have S3 := same_new (o := .tup [.ref a1, .ref a2, v, v]) ht
      exact k _ t a1 a2 (S1.trans (S2.trans S3)) upd_same (.inr ⟨d1, _, S3 _ _ (S2 _ _ A1), S3 _ _ (S2 _ _ D1)⟩) (.inr ⟨d2, _, S3 _ _ A2, S3 _ _ D2⟩)
/-- a bare error -/
def spBare (C : Nat → Addr) : Sp := fun vs H Q _ => ∃ n : Nat, vs = [.int n] ∧ 13 ≤ n ∧ n < 19 ∧ ∀ H' a, Same H H' → ErrAt H' a (C n) → Q (.ref a) H'
theorem scBare : FnScope ["_law_number"] ["_law_number"] (defScope sBare) := ⟨rfl, rfl, rfl, by decide +kernel, rfl, by decide +kernel, by decide +kernel⟩
theorem ok_law_bare {f : Addr} {fd : FuncData} (F : Fun K "_law_bare" "_law_bare" sBare f fd) (T : Txt K mg C I B) : FnOk P w K mg base CX0 2 f fd ["_law_number"] (spBare C) := by
  refine F.ok scBare (fun vs H Q E h => ?_) (fun cdv A outer s H vs Q E hr h => ?_)
  · obtain ⟨n, rfl, _⟩ := h
    rfl
  · obtain ⟨n, rfl, n0, n1, k⟩ := h
    have fin : ∀ a, H a = none → Q (.ref a) (upd H a (exo a (C n) none)) := fun a ha => k _ a (same_new ha) (.inl upd_same)
    refine ⟨_, (pss_cons (ps_if (pt_cmpR op_eq (pv 0) pe_int (nomark _)) (pss_one (ps_ret (pe_ex0 T.b13 T.m13 (by rfl)))) pss_nil) (pss_cons (ps_if (pt_cmpR op_eq (pv 0) pe_int (nomark _)) (pss_one (ps_ret (pe_ex0 T.b14 T.m14 (by rfl)))) pss_nil) (pss_cons (ps_if (pt_cmpR op_eq (pv 0) pe_int (nomark _)) (pss_one (ps_ret (pe_ex0 T.b15 T.m15 (by rfl)))) pss_nil) (pss_cons (ps_if (pt_cmpR op_eq (pv 0) pe_int (nomark _)) (pss_one (ps_ret (pe_ex0 T.b16 T.m16 (by rfl)))) pss_nil) (pss_one (ps_ret (pe_ifExp (pt_cmpR op_eq (pv 0) pe_int (nomark _)) (pe_ex0 T.b17 T.m17 (by rfl)) (pe_ex0 T.b18 T.m18 (by rfl))))))))), ?_⟩
    have hn : n = 13 ∨ n = 14 ∨ n = 15 ∨ n = 16 ∨ n = 17 ∨ n = 18 := by omega
    rcases hn with rfl | rfl | rfl | rfl | rfl | rfl
    · skip
      refine ⟨_, rfl, rfl, _, rfl, iteYes (by decide +kernel) ?_⟩
      exact fin
    · skip
      refine ⟨_, rfl, rfl, _, rfl, iteNo (by decide +kernel) ?_⟩
      refine ⟨_, rfl, rfl, _, rfl, iteYes (by decide +kernel) ?_⟩
      exact fin
    · skip
      refine ⟨_, rfl, rfl, _, rfl, iteNo (by decide +kernel) ?_⟩
      refine ⟨_, rfl, rfl, _, rfl, iteNo (by decide +kernel) ?_⟩
      refine ⟨_, rfl, rfl, _, rfl, iteYes (by decide +kernel) ?_⟩
      exact fin
    · skip
      refine ⟨_, rfl, rfl, _, rfl, iteNo (by decide +kernel) ?_⟩
      refine ⟨_, rfl, rfl, _, rfl, iteNo (by decide +kernel) ?_⟩
      refine ⟨_, rfl, rfl, _, rfl, iteNo (by decide +kernel) ?_⟩
      refine ⟨_, rfl, rfl, _, rfl, iteYes (by decide +kernel) ?_⟩
      exact fin
    · skip
      refine ⟨_, rfl, rfl, _, rfl, iteNo (by decide +kernel) ?_⟩
      refine ⟨_, rfl, rfl, _, rfl, iteNo (by decide +kernel) ?_⟩
      refine ⟨_, rfl, rfl, _, rfl, iteNo (by decide +kernel) ?_⟩
      refine ⟨_, rfl, rfl, _, rfl, iteNo (by decide +kernel) ?_⟩
      refine ⟨_, rfl, rfl, _, rfl, iteYes (by decide +kernel) ?_⟩
      exact fin
    · skip
      refine ⟨_, rfl, rfl, _, rfl, iteNo (by decide +kernel) ?_⟩
      refine ⟨_, rfl, rfl, _, rfl, iteNo (by decide +kernel) ?_⟩
      refine ⟨_, rfl, rfl, _, rfl, iteNo (by decide +kernel) ?_⟩
      refine ⟨_, rfl, rfl, _, rfl, iteNo (by decide +kernel) ?_⟩
      refine ⟨_, rfl, rfl, _, rfl, iteNo (by decide +kernel) ?_⟩
      exact fin
end
end KL
set_option Elab.async false
set_option linter.all false
set_option maxRecDepth 100000
set_option maxHeartbeats 4000000
namespace KL
open PySem L2 PySem.KX PySem.Spec PyProof.Rows
theorem ErrAt.same {H H' : Hp} {a C : Addr} (e : Same H H') (h : ErrAt H a C) : ErrAt H' a C := by
  rcases h with h | ⟨d, fs, h1, h2⟩
  · exact .inl (e _ _ h)
  · exact .inr ⟨d, fs, e _ _ h1, e _ _ h2⟩
def kindB (i : Nat) : List Bool := (List.range 19).map fun j => decide (i = j)
def spKinds (C : Nat → Addr) : Sp := fun vs H Q _ => ∃ (i : Nat) (a : Addr), vs = [.ref a] ∧ i < 19 ∧ ErrAt H a (C i) ∧ ∀ H' q, Same H H' → H' q = some (.lst ((kindB i).map V.bl)) → Q (.ref q) H'
section
variable {P : Program} {w : World} {K : PySem.W.Frag} {mg : Str → Option Value} {base : Heap} {C I : Nat → Addr} {B : Addr}
theorem scKinds : FnScope ["_law_e", "_law_found"] ["_law_e"] (defScope sKinds) := ⟨rfl, rfl, rfl, by decide +kernel, rfl, by decide +kernel, by decide +kernel⟩
theorem ok_kinds {f : Addr} {fd : FuncData} (F : Fun K "_law_kinds" "_law_kinds" sKinds f fd) (T : Txt K mg C I B) : FnOk P w K mg base CX0 1 f fd ["_law_e"] (spKinds C) := by
  refine F.ok scKinds (fun vs H Q E h => ?_) (fun cdv A outer s H vs Q E hr h => ?_)
  · obtain ⟨i, a, rfl, _⟩ := h
    rfl
  · obtain ⟨i, a, rfl, hi, he, k⟩ := h
    refine ⟨_, (pss_cons (ps_set (i := 1) scKinds.nd rfl (.inl rfl) (pe_lst (pa_cons (pe_callB call_exIs (by rfl) T.isi (by decide +kernel) (pa_cons (pv 0) (pa_cons (pe_glob (v := .ref (C 0)) (by rfl) T.m0 rfl) pa_nil))) (pa_cons (pe_callB call_exIs (by rfl) T.isi (by decide +kernel) (pa_cons (pv 0) (pa_cons (pe_glob (v := .ref (C 1)) (by rfl) T.m1 rfl) pa_nil))) (pa_cons (pe_callB call_exIs (by rfl) T.isi (by decide +kernel) (pa_cons (pv 0) (pa_cons (pe_glob (v := .ref (C 2)) (by rfl) T.m2 rfl) pa_nil))) (pa_cons (pe_callB call_exIs (by rfl) T.isi (by decide +kernel) (pa_cons (pv 0) (pa_cons (pe_glob (v := .ref (C 3)) (by rfl) T.m3 rfl) pa_nil))) pa_nil))))))
      (pss_cons (ps_set (i := 1) scKinds.nd rfl (.inl rfl) (pe_op op_cat (pv 1) (pe_lst (pa_cons (pe_callB call_exIs (by rfl) T.isi (by decide +kernel) (pa_cons (pv 0) (pa_cons (pe_glob (v := .ref (C 4)) (by rfl) T.m4 rfl) pa_nil))) (pa_cons (pe_callB call_exIs (by rfl) T.isi (by decide +kernel) (pa_cons (pv 0) (pa_cons (pe_glob (v := .ref (C 5)) (by rfl) T.m5 rfl) pa_nil))) (pa_cons (pe_callB call_exIs (by rfl) T.isi (by decide +kernel) (pa_cons (pv 0) (pa_cons (pe_glob (v := .ref (C 6)) (by rfl) T.m6 rfl) pa_nil))) (pa_cons (pe_callB call_exIs (by rfl) T.isi (by decide +kernel) (pa_cons (pv 0) (pa_cons (pe_glob (v := .ref (C 7)) (by rfl) T.m7 rfl) pa_nil))) pa_nil)))))))
      (pss_cons (ps_set (i := 1) scKinds.nd rfl (.inl rfl) (pe_op op_cat (pv 1) (pe_lst (pa_cons (pe_callB call_exIs (by rfl) T.isi (by decide +kernel) (pa_cons (pv 0) (pa_cons (pe_glob (v := .ref (C 8)) (by rfl) T.m8 rfl) pa_nil))) (pa_cons (pe_callB call_exIs (by rfl) T.isi (by decide +kernel) (pa_cons (pv 0) (pa_cons (pe_glob (v := .ref (C 9)) (by rfl) T.m9 rfl) pa_nil))) (pa_cons (pe_callB call_exIs (by rfl) T.isi (by decide +kernel) (pa_cons (pv 0) (pa_cons (pe_glob (v := .ref (C 10)) (by rfl) T.m10 rfl) pa_nil))) pa_nil))))))
      (pss_cons (ps_set (i := 1) scKinds.nd rfl (.inl rfl) (pe_op op_cat (pv 1) (pe_lst (pa_cons (pe_callB call_exIs (by rfl) T.isi (by decide +kernel) (pa_cons (pv 0) (pa_cons (pe_glob (v := .ref (C 11)) (by rfl) T.m11 rfl) pa_nil))) (pa_cons (pe_callB call_exIs (by rfl) T.isi (by decide +kernel) (pa_cons (pv 0) (pa_cons (pe_glob (v := .ref (C 12)) (by rfl) T.m12 rfl) pa_nil))) (pa_cons (pe_callB call_exIs (by rfl) T.isi (by decide +kernel) (pa_cons (pv 0) (pa_cons (pe_glob (v := .ref (C 13)) (by rfl) T.m13 rfl) pa_nil))) pa_nil))))))
      (pss_cons (ps_set (i := 1) scKinds.nd rfl (.inl rfl) (pe_op op_cat (pv 1) (pe_lst (pa_cons (pe_callB call_exIs (by rfl) T.isi (by decide +kernel) (pa_cons (pv 0) (pa_cons (pe_glob (v := .ref (C 14)) (by rfl) T.m14 rfl) pa_nil))) (pa_cons (pe_callB call_exIs (by rfl) T.isi (by decide +kernel) (pa_cons (pv 0) (pa_cons (pe_glob (v := .ref (C 15)) (by rfl) T.m15 rfl) pa_nil))) (pa_cons (pe_callB call_exIs (by rfl) T.isi (by decide +kernel) (pa_cons (pv 0) (pa_cons (pe_glob (v := .ref (C 16)) (by rfl) T.m16 rfl) pa_nil))) pa_nil))))))
      (pss_cons (ps_set (i := 1) scKinds.nd rfl (.inl rfl) (pe_op op_cat (pv 1) (pe_lst (pa_cons (pe_callB call_exIs (by rfl) T.isi (by decide +kernel) (pa_cons (pv 0) (pa_cons (pe_glob (v := .ref (C 17)) (by rfl) T.m17 rfl) pa_nil))) pa_nil))))
      (pss_one (ps_ret (pe_op op_cat (pv 1) (pe_lst (pa_cons (pe_callB call_exIs (by rfl) T.isi (by decide +kernel) (pa_cons (pv 0) (pa_cons (pe_glob (v := .ref (C 18)) (by rfl) T.m18 rfl) pa_nil))) pa_nil))))))))))), ?_⟩
    have he0 := he
    refine ⟨_, rfl, a, C i, _, _, _, rfl, T.ec i hi, he, .own (C 0), T.kC i 0 hi (by decide), _, rfl, a, C i, _, _, _, rfl, T.ec i hi, he, .own (C 1), T.kC i 1 hi (by decide), _, rfl, a, C i, _, _, _, rfl, T.ec i hi, he, .own (C 2), T.kC i 2 hi (by decide), _, rfl, a, C i, _, _, _, rfl, T.ec i hi, he, .own (C 3), T.kC i 3 hi (by decide), (by show 4 ≤ sizeLine; decide), fun q1 n1 => ?_⟩
    have f1 : (upd H q1 (HO.lst [V.bl (decide (i = 0)), V.bl (decide (i = 1)), V.bl (decide (i = 2)), V.bl (decide (i = 3))])) q1 = some (HO.lst [V.bl (decide (i = 0)), V.bl (decide (i = 1)), V.bl (decide (i = 2)), V.bl (decide (i = 3))]) := upd_same
    have s1 : Same H (upd H q1 (HO.lst [V.bl (decide (i = 0)), V.bl (decide (i = 1)), V.bl (decide (i = 2)), V.bl (decide (i = 3))])) := same_new n1
    revert f1 s1
    generalize upd H q1 (HO.lst [V.bl (decide (i = 0)), V.bl (decide (i = 1)), V.bl (decide (i = 2)), V.bl (decide (i = 3))]) = H1
    intro f1 s1
    have he := ErrAt.same s1 he
    refine ⟨_, rfl, _, rfl, a, C i, _, _, _, rfl, T.ec i hi, he, .own (C 4), T.kC i 4 hi (by decide), _, rfl, a, C i, _, _, _, rfl, T.ec i hi, he, .own (C 5), T.kC i 5 hi (by decide), _, rfl, a, C i, _, _, _, rfl, T.ec i hi, he, .own (C 6), T.kC i 6 hi (by decide), _, rfl, a, C i, _, _, _, rfl, T.ec i hi, he, .own (C 7), T.kC i 7 hi (by decide), (by show 4 ≤ sizeLine; decide), fun q2 n2 => ?_⟩
    have f2 : (upd H1 q2 (HO.lst [V.bl (decide (i = 4)), V.bl (decide (i = 5)), V.bl (decide (i = 6)), V.bl (decide (i = 7))])) q2 = some (HO.lst [V.bl (decide (i = 4)), V.bl (decide (i = 5)), V.bl (decide (i = 6)), V.bl (decide (i = 7))]) := upd_same
    have s2 : Same H1 (upd H1 q2 (HO.lst [V.bl (decide (i = 4)), V.bl (decide (i = 5)), V.bl (decide (i = 6)), V.bl (decide (i = 7))])) := same_new n2
    revert f2 s2
    generalize upd H1 q2 (HO.lst [V.bl (decide (i = 4)), V.bl (decide (i = 5)), V.bl (decide (i = 6)), V.bl (decide (i = 7))]) = H2
    intro f2 s2
    have he := ErrAt.same s2 he
    refine ⟨q1, q2, _, _, rfl, rfl, s2 _ _ f1, f2, (by show 8 ≤ sizeLine; decide), fun q3 n3 => ?_⟩
    have f3 : (upd H2 q3 (HO.lst ([V.bl (decide (i = 0)), V.bl (decide (i = 1)), V.bl (decide (i = 2)), V.bl (decide (i = 3))] ++ [V.bl (decide (i = 4)), V.bl (decide (i = 5)), V.bl (decide (i = 6)), V.bl (decide (i = 7))]))) q3 = some (HO.lst ([V.bl (decide (i = 0)), V.bl (decide (i = 1)), V.bl (decide (i = 2)), V.bl (decide (i = 3))] ++ [V.bl (decide (i = 4)), V.bl (decide (i = 5)), V.bl (decide (i = 6)), V.bl (decide (i = 7))])) := upd_same
    have s3 : Same H2 (upd H2 q3 (HO.lst ([V.bl (decide (i = 0)), V.bl (decide (i = 1)), V.bl (decide (i = 2)), V.bl (decide (i = 3))] ++ [V.bl (decide (i = 4)), V.bl (decide (i = 5)), V.bl (decide (i = 6)), V.bl (decide (i = 7))]))) := same_new n3
    revert f3 s3
    generalize upd H2 q3 (HO.lst ([V.bl (decide (i = 0)), V.bl (decide (i = 1)), V.bl (decide (i = 2)), V.bl (decide (i = 3))] ++ [V.bl (decide (i = 4)), V.bl (decide (i = 5)), V.bl (decide (i = 6)), V.bl (decide (i = 7))])) = H3
    intro f3 s3
    have he := ErrAt.same s3 he
    refine ⟨_, rfl, _, rfl, a, C i, _, _, _, rfl, T.ec i hi, he, .own (C 8), T.kC i 8 hi (by decide), _, rfl, a, C i, _, _, _, rfl, T.ec i hi, he, .own (C 9), T.kC i 9 hi (by decide), _, rfl, a, C i, _, _, _, rfl, T.ec i hi, he, .own (C 10), T.kC i 10 hi (by decide), (by show 3 ≤ sizeLine; decide), fun q4 n4 => ?_⟩
    have f4 : (upd H3 q4 (HO.lst [V.bl (decide (i = 8)), V.bl (decide (i = 9)), V.bl (decide (i = 10))])) q4 = some (HO.lst [V.bl (decide (i = 8)), V.bl (decide (i = 9)), V.bl (decide (i = 10))]) := upd_same
    have s4 : Same H3 (upd H3 q4 (HO.lst [V.bl (decide (i = 8)), V.bl (decide (i = 9)), V.bl (decide (i = 10))])) := same_new n4
    revert f4 s4
    generalize upd H3 q4 (HO.lst [V.bl (decide (i = 8)), V.bl (decide (i = 9)), V.bl (decide (i = 10))]) = H4
    intro f4 s4
    have he := ErrAt.same s4 he
    refine ⟨q3, q4, _, _, rfl, rfl, s4 _ _ f3, f4, (by show 11 ≤ sizeLine; decide), fun q5 n5 => ?_⟩
    have f5 : (upd H4 q5 (HO.lst ([V.bl (decide (i = 0)), V.bl (decide (i = 1)), V.bl (decide (i = 2)), V.bl (decide (i = 3))] ++ [V.bl (decide (i = 4)), V.bl (decide (i = 5)), V.bl (decide (i = 6)), V.bl (decide (i = 7))] ++ [V.bl (decide (i = 8)), V.bl (decide (i = 9)), V.bl (decide (i = 10))]))) q5 = some (HO.lst ([V.bl (decide (i = 0)), V.bl (decide (i = 1)), V.bl (decide (i = 2)), V.bl (decide (i = 3))] ++ [V.bl (decide (i = 4)), V.bl (decide (i = 5)), V.bl (decide (i = 6)), V.bl (decide (i = 7))] ++ [V.bl (decide (i = 8)), V.bl (decide (i = 9)), V.bl (decide (i = 10))])) := upd_same
    have s5 : Same H4 (upd H4 q5 (HO.lst ([V.bl (decide (i = 0)), V.bl (decide (i = 1)), V.bl (decide (i = 2)), V.bl (decide (i = 3))] ++ [V.bl (decide (i = 4)), V.bl (decide (i = 5)), V.bl (decide (i = 6)), V.bl (decide (i = 7))] ++ [V.bl (decide (i = 8)), V.bl (decide (i = 9)), V.bl (decide (i = 10))]))) := same_new n5
    revert f5 s5
    generalize upd H4 q5 (HO.lst ([V.bl (decide (i = 0)), V.bl (decide (i = 1)), V.bl (decide (i = 2)), V.bl (decide (i = 3))] ++ [V.bl (decide (i = 4)), V.bl (decide (i = 5)), V.bl (decide (i = 6)), V.bl (decide (i = 7))] ++ [V.bl (decide (i = 8)), V.bl (decide (i = 9)), V.bl (decide (i = 10))])) = H5
    intro f5 s5
    have he := ErrAt.same s5 he
    refine ⟨_, rfl, _, rfl, a, C i, _, _, _, rfl, T.ec i hi, he, .own (C 11), T.kC i 11 hi (by decide), _, rfl, a, C i, _, _, _, rfl, T.ec i hi, he, .own (C 12), T.kC i 12 hi (by decide), _, rfl, a, C i, _, _, _, rfl, T.ec i hi, he, .own (C 13), T.kC i 13 hi (by decide), (by show 3 ≤ sizeLine; decide), fun q6 n6 => ?_⟩
    have f6 : (upd H5 q6 (HO.lst [V.bl (decide (i = 11)), V.bl (decide (i = 12)), V.bl (decide (i = 13))])) q6 = some (HO.lst [V.bl (decide (i = 11)), V.bl (decide (i = 12)), V.bl (decide (i = 13))]) := upd_same
    have s6 : Same H5 (upd H5 q6 (HO.lst [V.bl (decide (i = 11)), V.bl (decide (i = 12)), V.bl (decide (i = 13))])) := same_new n6
    revert f6 s6
    generalize upd H5 q6 (HO.lst [V.bl (decide (i = 11)), V.bl (decide (i = 12)), V.bl (decide (i = 13))]) = H6
    intro f6 s6
    have he := ErrAt.same s6 he
    refine ⟨q5, q6, _, _, rfl, rfl, s6 _ _ f5, f6, (by show 14 ≤ sizeLine; decide), fun q7 n7 => ?_⟩
    have f7 : (upd H6 q7 (HO.lst ([V.bl (decide (i = 0)), V.bl (decide (i = 1)), V.bl (decide (i = 2)), V.bl (decide (i = 3))] ++ [V.bl (decide (i = 4)), V.bl (decide (i = 5)), V.bl (decide (i = 6)), V.bl (decide (i = 7))] ++ [V.bl (decide (i = 8)), V.bl (decide (i = 9)), V.bl (decide (i = 10))] ++ [V.bl (decide (i = 11)), V.bl (decide (i = 12)), V.bl (decide (i = 13))]))) q7 = some (HO.lst ([V.bl (decide (i = 0)), V.bl (decide (i = 1)), V.bl (decide (i = 2)), V.bl (decide (i = 3))] ++ [V.bl (decide (i = 4)), V.bl (decide (i = 5)), V.bl (decide (i = 6)), V.bl (decide (i = 7))] ++ [V.bl (decide (i = 8)), V.bl (decide (i = 9)), V.bl (decide (i = 10))] ++ [V.bl (decide (i = 11)), V.bl (decide (i = 12)), V.bl (decide (i = 13))])) := upd_same
    have s7 : Same H6 (upd H6 q7 (HO.lst ([V.bl (decide (i = 0)), V.bl (decide (i = 1)), V.bl (decide (i = 2)), V.bl (decide (i = 3))] ++ [V.bl (decide (i = 4)), V.bl (decide (i = 5)), V.bl (decide (i = 6)), V.bl (decide (i = 7))] ++ [V.bl (decide (i = 8)), V.bl (decide (i = 9)), V.bl (decide (i = 10))] ++ [V.bl (decide (i = 11)), V.bl (decide (i = 12)), V.bl (decide (i = 13))]))) := same_new n7
    revert f7 s7
    generalize upd H6 q7 (HO.lst ([V.bl (decide (i = 0)), V.bl (decide (i = 1)), V.bl (decide (i = 2)), V.bl (decide (i = 3))] ++ [V.bl (decide (i = 4)), V.bl (decide (i = 5)), V.bl (decide (i = 6)), V.bl (decide (i = 7))] ++ [V.bl (decide (i = 8)), V.bl (decide (i = 9)), V.bl (decide (i = 10))] ++ [V.bl (decide (i = 11)), V.bl (decide (i = 12)), V.bl (decide (i = 13))])) = H7
    intro f7 s7
    have he := ErrAt.same s7 he
    refine ⟨_, rfl, _, rfl, a, C i, _, _, _, rfl, T.ec i hi, he, .own (C 14), T.kC i 14 hi (by decide), _, rfl, a, C i, _, _, _, rfl, T.ec i hi, he, .own (C 15), T.kC i 15 hi (by decide), _, rfl, a, C i, _, _, _, rfl, T.ec i hi, he, .own (C 16), T.kC i 16 hi (by decide), (by show 3 ≤ sizeLine; decide), fun q8 n8 => ?_⟩
    have f8 : (upd H7 q8 (HO.lst [V.bl (decide (i = 14)), V.bl (decide (i = 15)), V.bl (decide (i = 16))])) q8 = some (HO.lst [V.bl (decide (i = 14)), V.bl (decide (i = 15)), V.bl (decide (i = 16))]) := upd_same
    have s8 : Same H7 (upd H7 q8 (HO.lst [V.bl (decide (i = 14)), V.bl (decide (i = 15)), V.bl (decide (i = 16))])) := same_new n8
    revert f8 s8
    generalize upd H7 q8 (HO.lst [V.bl (decide (i = 14)), V.bl (decide (i = 15)), V.bl (decide (i = 16))]) = H8
    intro f8 s8
    have he := ErrAt.same s8 he
    refine ⟨q7, q8, _, _, rfl, rfl, s8 _ _ f7, f8, (by show 17 ≤ sizeLine; decide), fun q9 n9 => ?_⟩
    have f9 : (upd H8 q9 (HO.lst ([V.bl (decide (i = 0)), V.bl (decide (i = 1)), V.bl (decide (i = 2)), V.bl (decide (i = 3))] ++ [V.bl (decide (i = 4)), V.bl (decide (i = 5)), V.bl (decide (i = 6)), V.bl (decide (i = 7))] ++ [V.bl (decide (i = 8)), V.bl (decide (i = 9)), V.bl (decide (i = 10))] ++ [V.bl (decide (i = 11)), V.bl (decide (i = 12)), V.bl (decide (i = 13))] ++ [V.bl (decide (i = 14)), V.bl (decide (i = 15)), V.bl (decide (i = 16))]))) q9 = some (HO.lst ([V.bl (decide (i = 0)), V.bl (decide (i = 1)), V.bl (decide (i = 2)), V.bl (decide (i = 3))] ++ [V.bl (decide (i = 4)), V.bl (decide (i = 5)), V.bl (decide (i = 6)), V.bl (decide (i = 7))] ++ [V.bl (decide (i = 8)), V.bl (decide (i = 9)), V.bl (decide (i = 10))] ++ [V.bl (decide (i = 11)), V.bl (decide (i = 12)), V.bl (decide (i = 13))] ++ [V.bl (decide (i = 14)), V.bl (decide (i = 15)), V.bl (decide (i = 16))])) := upd_same
    have s9 : Same H8 (upd H8 q9 (HO.lst ([V.bl (decide (i = 0)), V.bl (decide (i = 1)), V.bl (decide (i = 2)), V.bl (decide (i = 3))] ++ [V.bl (decide (i = 4)), V.bl (decide (i = 5)), V.bl (decide (i = 6)), V.bl (decide (i = 7))] ++ [V.bl (decide (i = 8)), V.bl (decide (i = 9)), V.bl (decide (i = 10))] ++ [V.bl (decide (i = 11)), V.bl (decide (i = 12)), V.bl (decide (i = 13))] ++ [V.bl (decide (i = 14)), V.bl (decide (i = 15)), V.bl (decide (i = 16))]))) := same_new n9
    revert f9 s9
    generalize upd H8 q9 (HO.lst ([V.bl (decide (i = 0)), V.bl (decide (i = 1)), V.bl (decide (i = 2)), V.bl (decide (i = 3))] ++ [V.bl (decide (i = 4)), V.bl (decide (i = 5)), V.bl (decide (i = 6)), V.bl (decide (i = 7))] ++ [V.bl (decide (i = 8)), V.bl (decide (i = 9)), V.bl (decide (i = 10))] ++ [V.bl (decide (i = 11)), V.bl (decide (i = 12)), V.bl (decide (i = 13))] ++ [V.bl (decide (i = 14)), V.bl (decide (i = 15)), V.bl (decide (i = 16))])) = H9
    intro f9 s9
    have he := ErrAt.same s9 he
    refine ⟨_, rfl, _, rfl, a, C i, _, _, _, rfl, T.ec i hi, he, .own (C 17), T.kC i 17 hi (by decide), (by show 1 ≤ sizeLine; decide), fun q10 n10 => ?_⟩
    have f10 : (upd H9 q10 (HO.lst [V.bl (decide (i = 17))])) q10 = some (HO.lst [V.bl (decide (i = 17))]) := upd_same
    have s10 : Same H9 (upd H9 q10 (HO.lst [V.bl (decide (i = 17))])) := same_new n10
    revert f10 s10
    generalize upd H9 q10 (HO.lst [V.bl (decide (i = 17))]) = H10
    intro f10 s10
    have he := ErrAt.same s10 he
    refine ⟨q9, q10, _, _, rfl, rfl, s10 _ _ f9, f10, (by show 18 ≤ sizeLine; decide), fun q11 n11 => ?_⟩
    have f11 : (upd H10 q11 (HO.lst ([V.bl (decide (i = 0)), V.bl (decide (i = 1)), V.bl (decide (i = 2)), V.bl (decide (i = 3))] ++ [V.bl (decide (i = 4)), V.bl (decide (i = 5)), V.bl (decide (i = 6)), V.bl (decide (i = 7))] ++ [V.bl (decide (i = 8)), V.bl (decide (i = 9)), V.bl (decide (i = 10))] ++ [V.bl (decide (i = 11)), V.bl (decide (i = 12)), V.bl (decide (i = 13))] ++ [V.bl (decide (i = 14)), V.bl (decide (i = 15)), V.bl (decide (i = 16))] ++ [V.bl (decide (i = 17))]))) q11 = some (HO.lst ([V.bl (decide (i = 0)), V.bl (decide (i = 1)), V.bl (decide (i = 2)), V.bl (decide (i = 3))] ++ [V.bl (decide (i = 4)), V.bl (decide (i = 5)), V.bl (decide (i = 6)), V.bl (decide (i = 7))] ++ [V.bl (decide (i = 8)), V.bl (decide (i = 9)), V.bl (decide (i = 10))] ++ [V.bl (decide (i = 11)), V.bl (decide (i = 12)), V.bl (decide (i = 13))] ++ [V.bl (decide (i = 14)), V.bl (decide (i = 15)), V.bl (decide (i = 16))] ++ [V.bl (decide (i = 17))])) := upd_same
    have s11 : Same H10 (upd H10 q11 (HO.lst ([V.bl (decide (i = 0)), V.bl (decide (i = 1)), V.bl (decide (i = 2)), V.bl (decide (i = 3))] ++ [V.bl (decide (i = 4)), V.bl (decide (i = 5)), V.bl (decide (i = 6)), V.bl (decide (i = 7))] ++ [V.bl (decide (i = 8)), V.bl (decide (i = 9)), V.bl (decide (i = 10))] ++ [V.bl (decide (i = 11)), V.bl (decide (i = 12)), V.bl (decide (i = 13))] ++ [V.bl (decide (i = 14)), V.bl (decide (i = 15)), V.bl (decide (i = 16))] ++ [V.bl (decide (i = 17))]))) := same_new n11
    revert f11 s11
    generalize upd H10 q11 (HO.lst ([V.bl (decide (i = 0)), V.bl (decide (i = 1)), V.bl (decide (i = 2)), V.bl (decide (i = 3))] ++ [V.bl (decide (i = 4)), V.bl (decide (i = 5)), V.bl (decide (i = 6)), V.bl (decide (i = 7))] ++ [V.bl (decide (i = 8)), V.bl (decide (i = 9)), V.bl (decide (i = 10))] ++ [V.bl (decide (i = 11)), V.bl (decide (i = 12)), V.bl (decide (i = 13))] ++ [V.bl (decide (i = 14)), V.bl (decide (i = 15)), V.bl (decide (i = 16))] ++ [V.bl (decide (i = 17))])) = H11
    intro f11 s11
    have he := ErrAt.same s11 he
    refine ⟨_, rfl, _, rfl, a, C i, _, _, _, rfl, T.ec i hi, he, .own (C 18), T.kC i 18 hi (by decide), (by show 1 ≤ sizeLine; decide), fun q12 n12 => ?_⟩
    have f12 : (upd H11 q12 (HO.lst [V.bl (decide (i = 18))])) q12 = some (HO.lst [V.bl (decide (i = 18))]) := upd_same
    have s12 : Same H11 (upd H11 q12 (HO.lst [V.bl (decide (i = 18))])) := same_new n12
    revert f12 s12
    generalize upd H11 q12 (HO.lst [V.bl (decide (i = 18))]) = H12
    intro f12 s12
    have he := ErrAt.same s12 he
    refine ⟨q11, q12, _, _, rfl, rfl, s12 _ _ f11, f12, (by show 19 ≤ sizeLine; decide), fun q13 n13 => ?_⟩
    have f13 : (upd H12 q13 (HO.lst ([V.bl (decide (i = 0)), V.bl (decide (i = 1)), V.bl (decide (i = 2)), V.bl (decide (i = 3))] ++ [V.bl (decide (i = 4)), V.bl (decide (i = 5)), V.bl (decide (i = 6)), V.bl (decide (i = 7))] ++ [V.bl (decide (i = 8)), V.bl (decide (i = 9)), V.bl (decide (i = 10))] ++ [V.bl (decide (i = 11)), V.bl (decide (i = 12)), V.bl (decide (i = 13))] ++ [V.bl (decide (i = 14)), V.bl (decide (i = 15)), V.bl (decide (i = 16))] ++ [V.bl (decide (i = 17))] ++ [V.bl (decide (i = 18))]))) q13 = some (HO.lst ([V.bl (decide (i = 0)), V.bl (decide (i = 1)), V.bl (decide (i = 2)), V.bl (decide (i = 3))] ++ [V.bl (decide (i = 4)), V.bl (decide (i = 5)), V.bl (decide (i = 6)), V.bl (decide (i = 7))] ++ [V.bl (decide (i = 8)), V.bl (decide (i = 9)), V.bl (decide (i = 10))] ++ [V.bl (decide (i = 11)), V.bl (decide (i = 12)), V.bl (decide (i = 13))] ++ [V.bl (decide (i = 14)), V.bl (decide (i = 15)), V.bl (decide (i = 16))] ++ [V.bl (decide (i = 17))] ++ [V.bl (decide (i = 18))])) := upd_same
    have s13 : Same H12 (upd H12 q13 (HO.lst ([V.bl (decide (i = 0)), V.bl (decide (i = 1)), V.bl (decide (i = 2)), V.bl (decide (i = 3))] ++ [V.bl (decide (i = 4)), V.bl (decide (i = 5)), V.bl (decide (i = 6)), V.bl (decide (i = 7))] ++ [V.bl (decide (i = 8)), V.bl (decide (i = 9)), V.bl (decide (i = 10))] ++ [V.bl (decide (i = 11)), V.bl (decide (i = 12)), V.bl (decide (i = 13))] ++ [V.bl (decide (i = 14)), V.bl (decide (i = 15)), V.bl (decide (i = 16))] ++ [V.bl (decide (i = 17))] ++ [V.bl (decide (i = 18))]))) := same_new n13
    revert f13 s13
    generalize upd H12 q13 (HO.lst ([V.bl (decide (i = 0)), V.bl (decide (i = 1)), V.bl (decide (i = 2)), V.bl (decide (i = 3))] ++ [V.bl (decide (i = 4)), V.bl (decide (i = 5)), V.bl (decide (i = 6)), V.bl (decide (i = 7))] ++ [V.bl (decide (i = 8)), V.bl (decide (i = 9)), V.bl (decide (i = 10))] ++ [V.bl (decide (i = 11)), V.bl (decide (i = 12)), V.bl (decide (i = 13))] ++ [V.bl (decide (i = 14)), V.bl (decide (i = 15)), V.bl (decide (i = 16))] ++ [V.bl (decide (i = 17))] ++ [V.bl (decide (i = 18))])) = H13
    intro f13 s13
    have he := ErrAt.same s13 he
    exact k _ _ ((((((((((((s1.trans s2).trans s3).trans s4).trans s5).trans s6).trans s7).trans s8).trans s9).trans s10).trans s11).trans s12).trans s13) f13
end
end KL
set_option Elab.async false
set_option linter.all false
set_option maxRecDepth 100000
set_option maxHeartbeats 4000000
namespace KL
open PySem L2 PySem.KX PySem.Spec PyProof.Rows
def spPure (C : Nat → Addr) : Sp := fun vs H Q _ => ∃ (i : Nat) (a : Addr), vs = [.ref a, .int i] ∧ i < 19 ∧ ErrAt H a (C i) ∧ ∀ H', Same H H' → Q (.bl true) H'
theorem dp_bools {K : PySem.W.Frag} {H : Hp} : ∀ bs : List Bool, DpAll K H (bs.map V.bl) (bs.map PyData.bool)
  | [] => .nil
  | b :: r => .cons (.bl b) (dp_bools r)
theorem lay_bools : ∀ bs : List Bool, PyData.canLayAll0 (bs.map PyData.bool) = true
  | [] => rfl
  | b :: r => by
    show (true && PyData.canLayAll0 (r.map PyData.bool)) = true
    rw [lay_bools r]
    rfl
theorem depth_bools : ∀ bs : List Bool, PyData.depthAll (bs.map PyData.bool) = 0
  | [] => rfl
  | b :: r => by
    show max 0 (PyData.depthAll (r.map PyData.bool)) = 0
    rw [depth_bools r]
    rfl
theorem shaped_bools (bs : List Bool) : SeqAt.shaped (PyData.list (bs.map PyData.bool)) = true := by
  show (PyData.canLayAll0 (bs.map PyData.bool) && decide (PyData.depthAll (bs.map PyData.bool) + 1 ≤ 64)) = true
  rw [lay_bools, depth_bools]
  rfl
theorem eqv_bools : ∀ bs : List Bool, PyData.eqv (.list (bs.map .bool)) (.list (bs.map .bool)) = true
  | [] => rfl
  | b :: r => by
    show ((b == b) && PyData.eqvAll (r.map .bool) (r.map .bool)) = true
    have z : PyData.eqvAll (r.map .bool) (r.map .bool) = true := eqv_bools r
    rw [z]
    simp
section
variable {P : Program} {w : World} {K : PySem.W.Frag} {mg : Str → Option Value} {base : Heap} {C I : Nat → Addr} {B : Addr}
theorem scPure : FnScope ["_law_e", "_law_number", "_law_some", "_law_k"] ["_law_e", "_law_number"] (defScope sPure) := ⟨rfl, rfl, rfl, by decide +kernel, rfl, by decide +kernel, by decide +kernel⟩
theorem ok_pure {f g : Addr} {fd gd : FuncData} (F : Fun K "_law_is_pure" "_law_is_pure" sPure f fd) (T : Txt K mg C I B) (G : FnOk P w K mg base CX0 1 g gd ["_law_e"] (spKinds C)) (gm : mg "_law_kinds" = some (.ref g)) (gk : PySem.W.keepIn K (.ref g) = true) (gb : Binds K gd ["_law_e"] []) :
    FnOk P w K mg base CX0 2 f fd ["_law_e", "_law_number"] (spPure C) := by
  refine F.ok scPure (fun vs H Q E h => ?_) (fun cdv A outer s H vs Q E hr h => ?_)
  · obtain ⟨i, a, rfl, _⟩ := h
    rfl
  · obtain ⟨i, a, rfl, hi, he, k⟩ := h
    refine ⟨_, (pss_cons (ps_if (PW.pt (pw_or (pt_not (pt_val (pe_callB call_exIs (by rfl) T.isi (by decide +kernel) (pa_cons (pv 0) (pa_cons (pe_glob (v := .ref B) (by rfl) T.mB rfl) pa_nil))))) (pw_or1 (pt_not (pt_val (pe_callB call_exIs (by rfl) T.isi (by decide +kernel) (pa_cons (pv 0) (pa_cons (pe_bltn (v := .ty "Exception") (by rfl) T.exc (by decide +kernel) rfl) pa_nil)))))))) (pss_one (ps_ret pe_bl)) pss_nil)
      (pss_cons (ps_if (pt_cmpR (op_neD hr.units) (pe_call G hr rfl gm gk gb .nil pass0 (pa_cons (pv 0) pa_nil)) (pe_lc (own := [("_law_k", 3)]) (g := gName 3) (tt := tYes) rfl scPure.nd (pi_range1 (by rfl) T.range (pa_cons pe_int pa_nil)) (blkOk_by (N := ["_law_e", "_law_number", "_law_some", "_law_k"]) (sc := defScope sPure) (by decide +kernel)) (fun _ _ _ _ _ => pg_name (i := 3) scPure.nd rfl (.inl rfl)) (fun _ _ _ _ _ => pts_nil) (fun _ _ _ _ _ => pe_cmpR op_eq (pv 3) (pv 1) (nomark _))) (nomark _)) (pss_one (ps_ret pe_bl)) pss_nil)
      (pss_cons (ps_set (i := 2) scPure.nd rfl (.inl rfl) (pe_lst (pa_cons (pe_callB call_exIs (by rfl) T.isi (by decide +kernel) (pa_cons (pv 0) (pa_cons (pe_bltn (v := .ty "ValueError") (by rfl) T.o0 (by decide +kernel) rfl) pa_nil))) (pa_cons (pe_callB call_exIs (by rfl) T.isi (by decide +kernel) (pa_cons (pv 0) (pa_cons (pe_bltn (v := .ty "TypeError") (by rfl) T.o1 (by decide +kernel) rfl) pa_nil))) (pa_cons (pe_callB call_exIs (by rfl) T.isi (by decide +kernel) (pa_cons (pv 0) (pa_cons (pe_bltn (v := .ty "LookupError") (by rfl) T.o2 (by decide +kernel) rfl) pa_nil))) pa_nil)))))
      (pss_cons (ps_set (i := 2) scPure.nd rfl (.inl rfl) (pe_op op_cat (pv 2) (pe_lst (pa_cons (pe_callB call_exIs (by rfl) T.isi (by decide +kernel) (pa_cons (pv 0) (pa_cons (pe_bltn (v := .ty "StopIteration") (by rfl) T.o3 (by decide +kernel) rfl) pa_nil))) (pa_cons (pe_callB call_exIs (by rfl) T.isi (by decide +kernel) (pa_cons (pv 0) (pa_cons (pe_bltn (v := .ty "ArithmeticError") (by rfl) T.o4 (by decide +kernel) rfl) pa_nil))) (pa_cons (pe_callB call_exIs (by rfl) T.isi (by decide +kernel) (pa_cons (pv 0) (pa_cons (pe_bltn (v := .ty "RuntimeError") (by rfl) T.o5 (by decide +kernel) rfl) pa_nil))) pa_nil))))))
      (pss_cons (ps_expr (pe_bm PySem.F.plainAttrs_list PySem.F.slot_list_append PySem.F.type_list_append mt_append (pv 2) (pa_cons (pe_callB call_exIs (by rfl) T.isi (by decide +kernel) (pa_cons (pv 0) (pa_cons (pe_bltn (v := .ty "AttributeError") (by rfl) T.o6 (by decide +kernel) rfl) pa_nil))) pa_nil)))
      (pss_one (ps_ret (pe_cmpR (op_eqD hr.units) (pv 2) (pe_op op_rep (pe_lst (pa_cons pe_bl pa_nil)) pe_int) (nomark _))))))))), ?_⟩
    refine ⟨_, rfl, a, C i, _, _, _, rfl, T.ec i hi, he, .own B, T.kB i hi, _, rfl, ?_⟩
    refine iteNo rfl ?_
    refine ⟨_, rfl, a, C i, _, _, _, rfl, T.ec i hi, he, .ty "Exception", T.kX i hi, _, rfl, ?_⟩
    refine iteNo rfl ?_
    refine ⟨_, rfl, i, a, rfl, hi, he, fun H1 q1 S1 f1 => ?_⟩
    refine ⟨_, rfl, (by decide), (by decide), fun D hD => ?_⟩
    refine lc_range (lo := 0) (n := 19) (fun j H' => Same H1 H' ∧ H' D = some (.lst (((List.range j).map fun m => decide (i = m)).map V.bl))) ⟨same_new hD, upd_same⟩ ?_ ?_
    · rintro j H' hj ⟨Sj, fj⟩
      have ed : decide (V.int (0 + (j : Int)) = V.int (i : Int)) = decide (i = j) := by
        by_cases e : i = j
        · subst e
          simp
        · have z : ¬ V.int (0 + (j : Int)) = V.int (i : Int) := fun q => by
            injection q with q
            omega
          rw [decide_eq_false z, decide_eq_false e]
      refine ⟨rfl, ?_⟩
      refine ⟨_, rfl, _, rfl, rfl, _, fj, ?_, ?_, ?_⟩
      · rw [List.length_map, List.length_map, List.length_range]
        exact Nat.lt_of_lt_of_le hj (by rw [sizeLine_eq]; omega)
      · intro b o e
        have nb : b ≠ D := fun z => by
          rw [z, hD] at e
          cases e
        rw [upd_ne nb]
        exact Sj b o e
      · rw [upd_same, ed, List.range_succ, List.map_append, List.map_append]
        rfl
    · rintro H2 ⟨S2, f2⟩
      have f2 : H2 D = some (.lst ((kindB i).map V.bl)) := f2
      refine ⟨.list ((kindB i).map .bool), .list ((kindB i).map .bool), .lst (SqL.of (S2 _ _ f1)) (dp_bools _), .lst (SqL.of f2) (dp_bools _), shaped_bools _, shaped_bools _, _, rfl, iteNo (by rw [eqv_bools]; rfl) ?_⟩
      have he := ErrAt.same (S1.trans S2) he
      have S := S1.trans S2
      refine ⟨_, rfl, a, C i, _, _, _, rfl, T.ec i hi, he, .ty "ValueError", T.kO i hi _ (by simp [others]), _, rfl, a, C i, _, _, _, rfl, T.ec i hi, he, .ty "TypeError", T.kO i hi _ (by simp [others]), _, rfl, a, C i, _, _, _, rfl, T.ec i hi, he, .ty "LookupError", T.kO i hi _ (by simp [others]), (by show 3 ≤ sizeLine; decide), fun r1 n1 => ?_⟩
      have g1 : (upd H2 r1 (HO.lst [V.bl false, V.bl false, V.bl false])) r1 = some (HO.lst [V.bl false, V.bl false, V.bl false]) := upd_same
      have t1 : Same H2 (upd H2 r1 (HO.lst [V.bl false, V.bl false, V.bl false])) := same_new n1
      revert g1 t1
      generalize upd H2 r1 (HO.lst [V.bl false, V.bl false, V.bl false]) = J1
      intro g1 t1
      have he := ErrAt.same t1 he
      have S := S.trans t1
      refine ⟨_, rfl, _, rfl, a, C i, _, _, _, rfl, T.ec i hi, he, .ty "StopIteration", T.kO i hi _ (by simp [others]), _, rfl, a, C i, _, _, _, rfl, T.ec i hi, he, .ty "ArithmeticError", T.kO i hi _ (by simp [others]), _, rfl, a, C i, _, _, _, rfl, T.ec i hi, he, .ty "RuntimeError", T.kO i hi _ (by simp [others]), (by show 3 ≤ sizeLine; decide), fun r2 n2 => ?_⟩
      have g2 : (upd J1 r2 (HO.lst [V.bl false, V.bl false, V.bl false])) r2 = some (HO.lst [V.bl false, V.bl false, V.bl false]) := upd_same
      have t2 : Same J1 (upd J1 r2 (HO.lst [V.bl false, V.bl false, V.bl false])) := same_new n2
      revert g2 t2
      generalize upd J1 r2 (HO.lst [V.bl false, V.bl false, V.bl false]) = J2
      intro g2 t2
      have he := ErrAt.same t2 he
      have S := S.trans t2
      refine ⟨r1, r2, _, _, rfl, rfl, t2 _ _ g1, g2, (by show 6 ≤ sizeLine; decide), fun r3 n3 => ?_⟩
      have g3 : (upd J2 r3 (HO.lst ([V.bl false, V.bl false, V.bl false] ++ [V.bl false, V.bl false, V.bl false]))) r3 = some (HO.lst ([V.bl false, V.bl false, V.bl false] ++ [V.bl false, V.bl false, V.bl false])) := upd_same
      have t3 : Same J2 (upd J2 r3 (HO.lst ([V.bl false, V.bl false, V.bl false] ++ [V.bl false, V.bl false, V.bl false]))) := same_new n3
      revert g3 t3
      generalize upd J2 r3 (HO.lst ([V.bl false, V.bl false, V.bl false] ++ [V.bl false, V.bl false, V.bl false])) = J3
      intro g3 t3
      have he := ErrAt.same t3 he
      have S := S.trans t3
      refine ⟨_, rfl, .inl ⟨rfl, _, SqL.of g3⟩, _, rfl, a, C i, _, _, _, rfl, T.ec i hi, he, .ty "AttributeError", T.kO i hi _ (by simp [others]), r3, _, _, rfl, rfl, g3, (by show 6 < sizeLine; decide), ?_⟩
      have g4 : (upd J3 r3 (HO.lst [V.bl false, V.bl false, V.bl false, V.bl false, V.bl false, V.bl false, V.bl false])) r3 = some (HO.lst [V.bl false, V.bl false, V.bl false, V.bl false, V.bl false, V.bl false, V.bl false]) := upd_same
      have t4 : Same H (upd J3 r3 (HO.lst [V.bl false, V.bl false, V.bl false, V.bl false, V.bl false, V.bl false, V.bl false])) := fun b o e => by
        have nb : b ≠ r3 := fun z => by
          have q := (S1.trans (S2.trans (t1.trans t2))) _ _ e
          rw [z, n3] at q
          cases q
        rw [upd_ne nb]
        exact S _ _ e
      refine ⟨_, rfl, (by show 1 ≤ sizeLine; decide), fun r5 n5 => ?_⟩
      have n5' : (upd J3 r3 (HO.lst [V.bl false, V.bl false, V.bl false, V.bl false, V.bl false, V.bl false, V.bl false])) r5 = none := n5
      refine ⟨r5, 7, _, rfl, rfl, upd_same, (by decide), (by decide), (by decide), fun r6 n6 => ?_⟩
      have S5 := same_new (o := .lst [V.bl false]) n5'
      have S6 := same_new (o := .lst (List.replicate (Int.toNat 7) [V.bl false]).flatten) n6
      refine ⟨.list (List.map .bool [false, false, false, false, false, false, false]), .list (List.map .bool [false, false, false, false, false, false, false]), .lst (SqL.of (S6 _ _ (S5 _ _ g4))) (dp_bools [false, false, false, false, false, false, false]), .lst (SqL.of upd_same) (dp_bools [false, false, false, false, false, false, false]), shaped_bools _, shaped_bools _, ?_⟩
      exact k _ (t4.trans (S5.trans S6))
end
end KL
set_option Elab.async false
set_option linter.all false
set_option maxRecDepth 100000
set_option maxHeartbeats 4000000
namespace KL
open PySem L2 PySem.KX PySem.Spec PyProof.Rows
/-- a def's promise where no guard stands around its call -/
structure FnG (P : Program) (w : World) (K : PySem.W.Frag) (mg : Str → Option Value) (base : Heap) (CX : CXT) (k : Nat) (f : Addr) (fd : FuncData) (ps : List Str) (sp : Sp) : Prop where
  len : ∀ vs H Q E, sp vs H Q E → vs.length = ps.length
  run : ∀ (A : Around) (outer : List Env) (s : Shared) (H : Hp) (args : Args) (us : List Value) (vs : List V) (Q : VK) (E : XK), A.guards = some [] → Room k A → Env0 P w K mg base A outer s H → BindsTo s fd args (ps.zip us) → Vals vs us → sp vs H Q E →
    codeAny (model P w) A (.call (.ref f) args) (CR CX outer P w H s Q E) s
section
variable {P : Program} {w : World} {K : PySem.W.Frag} {mg : Str → Option Value} {base : Heap}
theorem fnG {CX : CXT} {k : Nat} {f : Addr} {qual x : Str} {st : Stmt} {N ps : List Str} {sp : Sp} {fd : FuncData} (F : Fun K x qual st f fd) (S : FnScope N ps (defScope st)) (len : ∀ vs H Q E, sp vs H Q E → vs.length = ps.length)
    (hbody : ∀ (cdv : Value) (A : Around) (outer : List Env) (s : Shared) (H : Hp) (vs : List V) (Q : VK) (E : XK), A.guards = some [] → Room k (A.deeper (envOfC qual (defScope st) s.heap.objs.size f cdv)) → sp vs H Q E →
      ∃ t, PSs (cxOf CX P w K mg base N qual (defScope st) f cdv A outer s H E) (defBody st) t ∧ t { nx := fun _ H' => Q .non H', rt := Q } (start N vs) H) : FnG P w K mg base CX (k + 1) f fd ps sp := by
  obtain ⟨oc, od, kV, doc, pm, an, cdv, ct, osl, rfl, lk, hcd⟩ := F.ex
  refine ⟨len, fun A outer s H args us vs Q E hg hr e0 hb r hs => ?_⟩
  have hl := len _ _ _ _ hs
  have KX := e0.mod.kin.keeps fun b o e => (e0.bs b o e).1
  have lim := e0.mod.nolimit.keeps fun b o e => (e0.bs b o e).1
  have hk : ∀ y ∈ ps.zip us, (defScope st).names.lookup y.1 = some .local ∨ ((defScope st).names.lookup y.1 = some .cell ∧ ((cellsFrom (s.heap.objs.size + 1) (defScope st).names []).lookup y.1).isSome = true) := by
    rintro ⟨n, v⟩ hy
    rcases S.par n (List.of_mem_zip hy).1 with q | q
    · exact Or.inl q
    · exact Or.inr ⟨q, PySem.W.cellsFrom_some _ _ _ (Or.inl q)⟩
  refine codeAny_call_function hr.depth (KX _ _ lk) rfl S.co S.gen rfl (PySem.W.codeRec_of KX hcd) (hb _ _ _ _ ?_)
  refine wpAny_newFunctionEnv_cells S.kind hk fun env he s1 z => ?_
  subst he
  refine ⟨lim.keeps z.toInCall.keep, codeAny_func ?_⟩
  obtain ⟨t, ht, hq⟩ := hbody cdv A outer s H vs Q E hg (hr.deeper _) hs
  have J0 := inv_start (CX := CX) (E := E) S hr.hd e0 hl r z
  refine wpAny_mono (ht.run [] s1 (start N vs) H _ J0 hq) (fun fl s' y => ?_) fun e s' y => y
  match fl, y with
  | .ret u, ⟨v, σ', H', J, rv, q⟩ => exact ⟨v, H', J.os, J.bare, J.base, J.hok, rv, q⟩
  | .next, ⟨σ', H', J, q⟩ => exact ⟨V.non, H', J.os, J.bare, J.base, J.hok, rfl, q⟩
  | .brk, ⟨_, _, _, q⟩ => exact q.elim
  | .cont, ⟨_, _, _, q⟩ => exact q.elim
end
section
variable {X : Cx} {CX : CXT} {k : Nat} {f : Addr} {fd : FuncData} {ps : List Str} {sp : Sp} {E : XK} {x : Str} {p pos : Pos} {e : Expr} {es : List Expr} {t : TA}
theorem pe_callG (F : FnG X.prog X.w X.K X.mg X.base CX k f fd ps sp) (hG : X.A.guards = some []) (hr : Room k X.A) (hg : Gl X x) (hm : X.mg x = some (.ref f)) (hk : PySem.W.keepIn X.K (.ref f) = true) (hb : L2.Binds X.K fd ps []) (hx : Passes CX X E)
    (ha : PA X (e :: es) t) (hdb : (x == ("__debug__" : Str)) = false := by decide) (he : starEach (e :: es) X.env = (false, eval e X.env) :: starEach es X.env := by rfl) (hpl : (backTo pos (starEach es X.env)).any (·.1) = false := by rfl) :
    PE X (.Call (.Name x p) (e :: es) [] pos) (tCall sp [] E t) := by
  refine ⟨fun pins s σ H Q I h => ?_⟩
  refine wpAny_Call_Name_kw (ld_glob I hg hm ?_ hdb)
  refine PySem.W.callWith_K (h₀ := X.base) I.ok.mod.kin hk (thn (ha.run pos pins s σ H _ I h) fun us s1 ⟨vs, H1, I1, r, q⟩ => ⟨I1.kIn, ?_⟩) he hpl
  have q' : sp vs H1 Q E := by
    have z : sp (vs ++ []) H1 Q E := q
    rwa [List.append_nil] at z
  have hl : (us ++ []).length = ps.length := by
    rw [List.append_nil, ← r.length]
    exact F.len _ _ _ _ q'
  have bd := hb s1 us I1.kIn hl
  rw [List.append_nil] at bd
  refine wpAny_call (codeAny_mono (F.run X.A X.stack s1 H1 ⟨us, []⟩ us vs Q E hG hr I1.env0 bd r q') fun res s' y => ?_)
  match res, y with
  | .error er, y => exact hx pins σ H1 s1 er s' I1 y
  | .ok (.ret u), y => exact I1.after y
  | .ok .next, y => exact False.elim y
  | .ok .brk, y => exact False.elim y
  | .ok .cont, y => exact False.elim y
end
section
variable {P : Program} {w : World} {K : PySem.W.Frag} {mg mb : Str → Option Value} {CX : CXT} {k : Nat} {fa a : Addr} {fd : FuncData} {x : Str} {sp : Sp} {s1 : Shared} {vs : List Value} {ns : List Int}
/-- the law's call, from a heap in which the script alone may be tracked -/
theorem law_core (KX : K.In s1.heap) (hns : s1.heap.Ns mainGlobals mg) (hb : s1.heap.Ns builtinsNs mb) (hbb : ∀ x : Str, x ≠ "__name__" → mb x = bootBuiltins x) (hlim : s1.heap.NoLimit) (hg : s1.gens = #[])
    (ha : s1.heap.get? a = some { cls := .type "list", data := .seq vs.toArray }) (hr : Room k PySem.callerA)
    (F : ∀ base : Heap, K.In base → base.Ns mainGlobals mg → FnG P w K mg base CX k fa fd [x] sp) (hbind : ∀ (s : Shared) (u : Value), BindsTo s fd ⟨[u], []⟩ [(x, u)])
    (hCX : ∀ H e s', CX [] H s1 (fun _ _ _ => False) e s' → False) (H : Hp) (hO : Only H) (q0 : sp [.ref a] H (fun v _ => v = .bl true) fun _ _ _ => False) (hok : HOk P w H s1.heap) (hA : ∀ b, H b ≠ none → b = a) (hK : H a ≠ none → K.lookup a = none) :
    codeAny (model P w) PySem.callerA (.call (.ref fa) ⟨[.ref a], []⟩) (fun r s' => r = .ok (.ret (.bool true)) ∧ OldK s1.heap s'.heap ∧ s'.os = s1.os ∧ AllBare s'.gens) s1 := by
  have only_a : ∀ {b : Addr} {u : HO}, H b = some u → b = a := fun {b u} q => hA b (by rw [q]; simp)
  have dict_free : ∀ {b : Addr} {o : Obj} {es : Array DictEntry} {ep : Nat}, s1.heap.get? b = some o → o.data = .dict es ep → H b = none := fun {b o es ep} e d => by
    cases q : H b with
    | none => rfl
    | some u =>
      have z := only_a q
      subst z
      rw [ha] at e
      cases e
      have d' : Data.seq vs.toArray _ = Data.dict es ep := d
      cases d'
  have up : ∀ {b : Addr} {m : Str → Option Value}, s1.heap.Ns b m → (hidT s1.heap H).Ns b m := fun {b m} ⟨o, es, ep, e, d, r⟩ => ⟨o, es, ep, hidT_get e (dict_free e d), d, r⟩
  have kIn : K.In (hidT s1.heap H) := fun b o e => by
    refine hidT_get (KX b o e) ?_
    cases q : H b with
    | none => rfl
    | some u =>
      have z := only_a q
      subst z
      rw [hK (by rw [q]; simp)] at e
      cases e
  have M : Mod K mg (hidT s1.heap H) := ⟨kIn, up hns, ⟨mb, up hb, hbb⟩, let ⟨mc, y1, y2⟩ := hlim; ⟨mc, up y1, y2⟩⟩
  have nil : ∀ b : Addr, b ∉ ([] : List Addr) := fun b z => by simp at z
  have e0 : Env0 P w K mg (hidT s1.heap H) PySem.callerA [] s1 H := ⟨rfl, M, fun b o e => of_hidT e, Nat.le_of_eq (hidT_size _ _), trivial, fun b z => absurd z (nil b), hok, .of_eq hg⟩
  refine codeAny_mono ((F _ kIn (up hns)).run PySem.callerA [] s1 H ⟨[.ref a], []⟩ [.ref a] [.ref a] _ _ rfl hr e0 (hbind s1 (.ref a)) (.cons rfl .nil) q0) fun r s' y => ?_
  match r, y with
  | .error e, y => exact (hCX H e s' y).elim
  | .ok .next, y => exact y.elim
  | .ok .brk, y => exact y.elim
  | .ok .cont, y => exact y.elim
  | .ok (.ret u), ⟨v, H', os, bare, un, hok', rv, q⟩ =>
    have q' : v = .bl true := q
    subst q'
    have eu : u = Value.bool true := rv
    subst eu
    refine ⟨rfl, OldK.of_keep fun b o e => ?_, os, bare⟩
    cases q : H b with
    | none => exact un.keep b o e q (nil b) (nil b)
    | some u =>
      rcases hO b with z | ⟨ob, xs, z⟩
      · rw [q] at z
        cases z
      · have e1 := (hok b _ z).1
        have e2 := (hok' b _ (un.frzs b ob _ z)).1
        rw [e] at e1
        cases e1
        exact e2
theorem law_callG (KX : K.In s1.heap) (hns : s1.heap.Ns mainGlobals mg) (hb : s1.heap.Ns builtinsNs mb) (hbb : ∀ x : Str, x ≠ "__name__" → mb x = bootBuiltins x) (hlim : s1.heap.NoLimit) (hg : s1.gens = #[])
    (ha : s1.heap.get? a = some { cls := .type "list", data := .seq vs.toArray }) (hi : IntsAre vs ns) (hl : ns.length ≤ sizeLine) (hr : Room k PySem.callerA)
    (F : ∀ base : Heap, K.In base → base.Ns mainGlobals mg → FnG P w K mg base CX k fa fd [x] sp) (hbind : ∀ (s : Shared) (u : Value), BindsTo s fd ⟨[u], []⟩ [(x, u)])
    (hsp : ∀ H : Hp, Only H → SqL K H a (ns.map V.int) → sp [.ref a] H (fun v _ => v = .bl true) fun _ _ _ => False) (hCX : ∀ H e s', CX [] H s1 (fun _ _ _ => False) e s' → False) :
    codeAny (model P w) PySem.callerA (.call (.ref fa) ⟨[.ref a], []⟩) (fun r s' => r = .ok (.ret (.bool true)) ∧ OldK s1.heap s'.heap ∧ s'.os = s1.os ∧ AllBare s'.gens) s1 := by
  have rv := vals_ints hi
  have lenV := hi.length
  cases hk : K.lookup a with
  | some o =>
    have e := KX a o hk
    rw [ha] at e
    cases e
    have hO : Only (fun _ => none) := fun _ => .inl rfl
    refine law_core KX hns hb hbb hlim hg ha hr F hbind hCX (fun _ => none) hO (hsp _ hO (.inr ⟨_, vs.toArray, _, hk, rfl, rfl, rfl, by rw [List.size_toArray, lenV]; exact hl, by simpa using rv⟩)) (fun b u z => ?_) (fun b z => absurd rfl z) fun z => absurd rfl z
    have z' : (none : Option HO) = some u := z
    cases z'
  | none =>
    let T : Hp := fun b => if b = a then some (.frz { cls := .type "list", data := .seq vs.toArray } (.lst (ns.map V.int))) else none
    have Ta : T a = some (.frz { cls := .type "list", data := .seq vs.toArray } (.lst (ns.map V.int))) := if_pos rfl
    have Tb : ∀ b, b ≠ a → T b = none := fun b hb => if_neg hb
    have hO : Only T := fun b => by
      by_cases z : b = a
      · exact .inr ⟨_, _, by rw [z]; exact Ta⟩
      · exact .inl (Tb b z)
    refine law_core KX hns hb hbb hlim hg ha hr F hbind hCX T hO (hsp T hO (.inl (.inr ⟨_, Ta⟩))) (fun b u z => ?_) (fun b z => ?_) fun _ => hk
    · by_cases y : b = a
      · subst y
        have z' := Ta.symm.trans z
        cases z'
        exact ⟨ha, by rw [List.length_map]; exact hl, vs, _, rv, ha⟩
      · have z' := (Tb b y).symm.trans z
        cases z'
    · by_cases y : b = a
      · exact y
      · exact absurd (Tb b y) z
end
/-- the goal that the head leaves, from the law's promise -/
theorem walkG {l : PySem.W.OpenLaw} {n k : Nat} {q : Program} {loose : List Str} {XP : (Str → Option Value) → Heap → Prop} {YP : World → Heap → Prop} {d : DefRec} {K : Params → PySem.W.Frag} {CX : World → CXT} {sp : World → Sp} {x : Str}
    (hn : l.most = some n) (hn2 : n ≤ sizeLine) (hdf : d.params.defaults = []) (hr : Room k PySem.callerA) (hY : ∀ (w : World) (h : Heap), YP w h → (K w.params).In h)
    (F : ∀ (w : World) (mg : Str → Option Value) (fa : Addr) (h : Heap), (K w.params).In h → h.Ns mainGlobals mg → mg d.name = some (.ref fa) →
      ∃ fd : FuncData, (∀ (s : Shared) (u : Value), BindsTo s fd ⟨[u], []⟩ [(x, u)]) ∧ ∀ base : Heap, (K w.params).In base → base.Ns mainGlobals mg → FnG l.prog w (K w.params) mg base (CX w) k fa fd [x] (sp w))
    (hsp : ∀ (w : World) (H : Hp) (a : Addr) (ns : List Int), ns.length ≤ n → Only H → SqL (K w.params) H a (ns.map V.int) → sp w [.ref a] H (fun v _ => v = .bl true) fun _ _ _ => False)
    (hCX : ∀ (w : World) (H : Hp) (s : Shared) (e : Value) (s' : Shared), CX w [] H s (fun _ _ _ => False) e s' → False) : PySem.W.WalkO q loose XP YP l.row.toRowW d [] (fun f vs => PySem.call f vs) := by
  refine Att.attach_call hn hdf fun w s0 s1 mg mb fa o pm cd doc a vs ns G Y ho hd hcd hmg hobj hints hlen hg => ?_
  have KX := hY w _ Y
  obtain ⟨fd, hb, hF⟩ := F w mg fa _ KX G.T.g hmg
  exact law_callG KX G.T.g G.T.b G.T.builtins G.T.nolimit hg hobj hints (Nat.le_trans hlen hn2) hr hF hb (fun H hO hS => hsp w H a ns hlen hO hS) fun H e s' => hCX w H s1 e s'
end KL
set_option Elab.async false
set_option linter.all false
set_option maxRecDepth 100000
set_option maxHeartbeats 4000000
namespace KL
open PySem L2 PySem.KX PySem.Spec PyProof.Rows
theorem fnG0 {P : Program} {w : World} {K : PySem.W.Frag} {mg : Str → Option Value} {base : Heap} {k : Nat} {f : Addr} {qual x : Str} {st : Stmt} {N ps : List Str} {sp : Sp} {fd : FuncData} (F : Fun K x qual st f fd) (S : FnScope N ps (defScope st)) (len : ∀ vs H Q E, sp vs H Q E → vs.length = ps.length)
    (hbody : ∀ (cdv : Value) (A : Around) (outer : List Env) (s : Shared) (H : Hp) (vs : List V) (Q : VK) (E : XK), A.guards = some [] → Room k (A.deeper (envOfC qual (defScope st) s.heap.objs.size f cdv)) → sp vs H Q E →
      ∃ t, PSs (cxOf CX0 P w K mg base N qual (defScope st) f cdv A outer s H E).nox (defBody st) t ∧ t { nx := fun _ H' => Q .non H', rt := Q } (start N vs) H) : FnG P w K mg base CX0 (k + 1) f fd ps sp :=
  fnG F S len fun cdv A outer s H vs Q E hg hr hs => by
    obtain ⟨t, ht, hq⟩ := hbody cdv A outer s H vs Q E hg hr hs
    exact ⟨t, ht.nox, hq⟩
/-- what a raised error leaves to be wished for -/
def tMkX (C : Addr) (fl : Str) (ta : TA) : L2.St → Hp → XK → Prop := fun σ H Q => ta σ H fun vs H1 => ∃ v, vs = [v] ∧ ∀ d, H1 d = none → Q (.ref C) (some d) (upd H1 d (.xd [(fl, v)]))
section
variable {X : Cx} {C fI : Addr} {fl qual x : Str} {p pos kpos : Pos} {e : Expr} {te : TE} {ta : TA}
theorem mkpOf {pins : List (Addr × Obj)} {σ : L2.St} {H : Hp} {s : Shared} {h' : Heap} {tk : Nat} {a d : Addr} {v : V} {u : Value} {Q : XK} (I : Inv X pins σ H s) (M : Made s.heap h' a C d fl u) (rv : RelV v u) (hR : Raises X (.ref C)) (q : ∀ d, H d = none → Q (.ref C) (some d) (upd H d (.xd [(fl, v)]))) :
    MkP X pins σ Q (.ref a) { s with heap := h', toks := tk } := by
  have nd : H d = none := I.hok.fresh M.dbig
  have na : H a = none := I.hok.fresh M.new
  obtain ⟨G, g1, g2⟩ := restrict h' fun b => decide (b ≠ a)
  have gk : ∀ b, b ≠ a → G.get? b = h'.get? b := fun b hb => g1 b (decide_eq_true hb)
  have ga : G.get? a = none := g2 a (by simp)
  have gs : ∀ b o, G.get? b = some o → h'.get? b = some o := fun b o e => by
    by_cases hb : b = a
    · rw [hb, ga] at e
      cases e
    · rw [← gk b hb]
      exact e
  obtain ⟨o, es, ep, y1, y2⟩ := M.ns
  have new : ObjOk X.prog X.w (upd H d (.xd [(fl, v)])) G d (.xd [(fl, v)]) := by
    refine ⟨_, ⟨o, es, ep, (gk d M.dne).trans y1, y2⟩, fun f => ?_⟩
    rw [lookup_put]
    by_cases hf : f = fl
    · rw [if_pos hf, if_pos hf]
      exact rv
    · rw [if_neg hf, if_neg hf]
      exact True.intro
  have J := I.laid (t' := tk) (a := d) (o := .xd [(fl, v)]) (h' := G) (fun b o e => (gk b (Nat.ne_of_lt (Nat.lt_of_lt_of_le (Heap.lt_size e) M.new))).trans (M.keep b o e)) M.dbig new
  obtain ⟨t1, ho⟩ := M.obj
  exact ⟨a, _, _, { s with heap := G, toks := tk }, _, .ref C, some d, rfl, J, gs, ga, ho, ⟨rfl, rfl⟩, rfl, rfl, by rw [upd_ne M.dne.symm]; exact na, rfl, I.bare, hR, q d nd⟩
theorem pmk_ex (T : EI X.K C fI fl qual) (tC : PySem.W.typeIn X.K (.ref C) = some (.type "type")) (gC : X.mg x = some (.ref C)) (hr : Room 1 X.A) (hg : Gl X x) (ha : PA X [e] ta) (hdb : (x == ("__debug__" : Str)) = false := by decide) (he : starEach (e :: []) X.env = (false, eval e X.env) :: starEach [] X.env := by rfl)
    (hpl : (backTo pos (starEach [] X.env)).any (·.1) = false := by rfl) : PMk X (.Call (.Name x p) [e] [] pos) (tMkX C fl ta) := by
  intro pins s σ H Q I h
  refine wpAny_Call_Name_kw (ld_glob I hg gC ?_ hdb)
  refine PySem.W.callWith_K (h₀ := X.base) I.ok.mod.kin T.c.kp (thn (ha.run pos pins s σ H _ I h) fun us s1 ⟨vs, H1, I1, r, v, ev, q⟩ => ⟨I1.kIn, ?_⟩) he hpl
  subst ev
  cases r with
  | cons rv rn =>
    cases rn
    exact wpAny_call (exMade T (.inl rfl) I1.kIn I1.nolimit (by have := hr.dp; omega) fun h' tk a d M => mkpOf I1 M rv (raises_own T.c.is.hs tC) q)
theorem pmk_exK (T : EI X.K C fI fl qual) (tC : PySem.W.typeIn X.K (.ref C) = some (.type "type")) (gC : X.mg x = some (.ref C)) (hr : Room 1 X.A) (hg : Gl X x) (ha : PE X e te) (hdb : (x == ("__debug__" : Str)) = false := by decide)
    (hall : (backToKw pos (keywordEach [⟨some fl, e, kpos⟩] X.env)).all (·.1.isSome) = true := by rfl) (hks : (backToKw pos (keywordEach [⟨some fl, e, kpos⟩] X.env)).filterMap (·.1) = [fl] := by rfl)
    (hpl : ((backTo pos (starEach [] X.env)).any (·.1) || (backToKw pos (keywordEach [⟨some fl, e, kpos⟩] X.env)).any (·.1.isNone)) = false := by rfl) : PMk X (.Call (.Name x p) [] [⟨some fl, e, kpos⟩] pos) (tMkX C fl (tCons te tNil)) := by
  intro pins s σ H Q I h
  refine wpAny_Call_Name_kw (ld_glob I hg gC ?_ hdb)
  refine PySem.W.callWith_KW0 (h₀ := X.base) I.ok.mod.kin T.c.kp hall ?_ hpl
  refine thn ((pk_cons ha pk_nil).run pos pins s σ H _ I h) fun us s1 ⟨vs, H1, I1, r, v, ev, q⟩ => ⟨I1.kIn, ?_⟩
  rw [hks]
  subst ev
  cases r with
  | cons rv rn =>
    cases rn
    exact wpAny_call (exMade T (.inr rfl) I1.kIn I1.nolimit (by have := hr.dp; omega) fun h' tk a d M => mkpOf I1 M rv (raises_own T.c.is.hs tC) q)
/-- isinstance of the error that the suite holds -/
def rIsX (K : PySem.W.Frag) (a : Addr) (cls : Value) (d : Option Addr) : List V → Hp → VK → Prop := fun xs H Q => ∃ (D dd : Addr) (fs : List (Str × V)) (c : V) (cv : Value) (b : Bool), xs = [.ref a, c] ∧ cls = .ref D ∧ d = some dd ∧ H dd = some (.xd fs) ∧ EC K D ∧ ClsV c cv ∧ PySem.W.kitOne K (.ref D) cv = some b ∧ Q (.bl b) H
theorem call_isX {a : Addr} {oe : Obj} {cls : Value} {d : Option Addr} {pn : List (Addr × Obj)} (hz : Zc cls d oe) (hf : ∃ vs, oe.data = .fields vs) : CallR (X.suite a ((a, oe) :: pn)) (.builtin "isinstance") (rIsX X.K a cls d) := by
  intro pins s σ H xs us Q I r h
  obtain ⟨D, dd, fs, c, cv, b, rfl, rfl, rfl, hd, T, kc, e, q⟩ := h
  obtain ⟨u1, u2, rfl, r1, r2⟩ := vals2 r
  have e2 := kc.eq r2
  subst e2
  cases (show u1 = Value.ref a from r1)
  obtain ⟨ha, _⟩ := I.pin (a, oe) (List.mem_append_left _ List.mem_cons_self)
  obtain ⟨vs, hv⟩ := hf
  have hx : ObjOk X.prog X.w H s.heap dd (.xd fs) := I.hok dd _ hd
  obtain ⟨mA, hns, _⟩ := hx
  obtain ⟨od, hod, _⟩ := lookIn_ns hns
  have J : PySem.W.InstAt s.heap a oe D (some od) := ⟨ha, hz.1, by unfold PySem.W.notCls; rw [hv] <;> rfl, by rw [hz.2]; exact hod⟩
  have hcl : (PySem.W.clsIn X.K D).isSome = true := by
    obtain ⟨cd, hc, _⟩ := PySem.W.any_some T.hd
    rw [hc]
    rfl
  exact PySem.W.kia_one (PySem.W.kitx_exc hcl T.is.hg T.is.hk T.is.hs T.is.ha T.is.hn T.is.ht T.is.hm) I.kIn J e (fun z => nomatch z) fun tk => ⟨.bl b, H, I.kept (t' := tk) fun _ _ z => z, rfl, q⟩
end
end KL
set_option Elab.async false
set_option linter.all false
set_option maxRecDepth 100000
set_option maxHeartbeats 4000000
namespace KL
open PySem L2 PySem.KX PySem.Spec PyProof.Rows
def spCaught : Sp := fun vs H Q _ => ∃ (v : V) (d : PyData), vs = [v] ∧ Dq H v d ∧ d ∈ menu ∧ ∀ H', Q (.bl true) H'
def suiteOf (i : Nat) : List Stmt := match (defBody sCaught).getD i (.Pass ⟨0, 0, 0, 0⟩) with
  | .Try _ [.ExceptHandler _ _ b _] _ _ _ => b
  | _ => []
def tSu1 (K : PySem.W.Frag) (C5 : Addr) (a : Addr) (cls : Value) (d : Option Addr) : TS := tDrop (tBM K "list" rAppend (tVar 1) (tCons (tCB (rIsX K a cls d) (tCons (tVar 2) (tCons (tC (.ref C5)) tNil))) tNil))
def tSu2 (K : PySem.W.Frag) (C0 : Addr) (a : Addr) (cls : Value) (d : Option Addr) : TS := tDrop (tBM K "list" rAppend (tVar 1) (tCons (tOp rEq (tCB rRep1 (tCons (tXf a cls d C0 "part" (tVar 2)) tNil)) (tCB rRep1 (tCons (tVar 0) tNil))) tNil))
section
variable {P : Program} {w : World} {K : PySem.W.Frag} {mg : Str → Option Value} {base : Heap} {C I : Nat → Addr} {B : Addr}
theorem scCaught : FnScope ["_law_it_here", "_law_found", "caught_now"] ["_law_it_here"] (defScope sCaught) := ⟨rfl, rfl, rfl, by decide +kernel, rfl, by decide +kernel, by decide +kernel⟩
theorem ok_caught {f : Addr} {fd : FuncData} (F : Fun K "_law_is_caught" "_law_is_caught" sCaught f fd) (T : Txt K mg C I B) : FnG P w K mg base CX0 2 f fd ["_law_it_here"] spCaught := by
  refine fnG0 F scCaught (fun vs H Q E h => ?_) (fun cdv A outer s H vs Q E hg hr h => ?_)
  · obtain ⟨v, d, rfl, _⟩ := h
    rfl
  · obtain ⟨v, d, rfl, hv, hd, k⟩ := h
    let X0 : Cx := (cxOf CX0 P w K mg base ["_law_it_here", "_law_found", "caught_now"] "_law_is_caught" (defScope sCaught) f cdv A outer s H E).nox
    have su1 : ∀ (a : Addr) (oe : Obj) (cls : Value) (d : Option Addr) (pn : List (Addr × Obj)), Zc cls d oe → (∃ vs, oe.data = .fields vs) → PSs (X0.suite a ((a, oe) :: pn)) (suiteOf 1) (tSu1 K (C 5) a cls d) := fun a oe cls d pn hz hf =>
      pss_one (ps_expr (pe_bm PySem.F.plainAttrs_list PySem.F.slot_list_append PySem.F.type_list_append mt_append (pv 1) (pa_cons (pe_callB (call_isX (X := X0) hz hf) (by rfl) T.isi (by decide +kernel) (pa_cons (pv 2) (pa_cons (pe_glob (v := .ref (C 5)) (by rfl) T.m5 rfl) pa_nil))) pa_nil)))
    have su2 : ∀ (a : Addr) (oe : Obj) (cls : Value) (d : Option Addr) (pn : List (Addr × Obj)), Zc cls d oe → (∃ vs, oe.data = .fields vs) → PSs (X0.suite a ((a, oe) :: pn)) (suiteOf 2) (tSu2 K (C 0) a cls d) := fun a oe cls d pn hz hf =>
      pss_one (ps_expr (pe_bm PySem.F.plainAttrs_list PySem.F.slot_list_append PySem.F.type_list_append mt_append (pv 1) (pa_cons (pe_cmpR op_eq (pe_callB (call_rep1 (X := X0.suite a ((a, oe) :: pn)) hg hr.units) (by rfl) T.repr (by decide +kernel) (pa_cons (pe_xf (X := X0) (n := "part") (C := C 0) ⟨T.e0.c.is.hg, T.e0.c.is.hk, T.e0.c.is.hs, T.e0.c.hd⟩ T.e0.nf hz hf (pv 2)) pa_nil)) (pe_callB (call_rep1 (X := X0.suite a ((a, oe) :: pn)) hg hr.units) (by rfl) T.repr (by decide +kernel) (pa_cons (pv 0) pa_nil)) (nomark _)) pa_nil)))
    refine ⟨_, pss_cons (ps_set (i := 1) scCaught.nd rfl (.inl rfl) (pe_lst pa_nil))
      (pss_cons (ps_try_as (X := X0) (i := 2) (ts := tSu1 K (C 5)) (Wout := fun _ _ _ _ => False) rfl rfl scCaught.nd rfl rfl ⟨rfl, by decide, .inl T.mB⟩ takes0 (fun W pn xe tk _ => pss_one (ps_raise rfl tk (pmk_ex T.e5 (T.ty 5 (by decide)) T.m5 hr (by rfl) (pa_cons (pv 0) pa_nil)))) su1)
      (pss_cons (ps_try_as (X := X0) (i := 2) (ts := tSu2 K (C 0)) (Wout := fun _ _ _ _ => False) rfl rfl scCaught.nd rfl rfl ⟨rfl, by decide, .inl T.m0⟩ takes0 (fun W pn xe tk _ => pss_one (ps_raise rfl tk (pmk_exK T.e0 (T.ty 0 (by decide)) T.m0 hr (by rfl) (pv 0)))) su2)
      (pss_one (ps_ret (pe_cmpR (op_eqD hr.units) (pv 1) (pe_lst (pa_cons pe_bl (pa_cons pe_bl pa_nil))) (nomark _)))))), ?_⟩
    refine ⟨(by show 0 ≤ sizeLine; decide), fun q nq => ?_⟩
    have f1 : (upd H q (.lst [])) q = some (.lst []) := upd_same
    have s1 : Same H (upd H q (.lst [])) := same_new nq
    revert f1 s1
    generalize upd H q (.lst []) = H1
    intro f1 s1
    refine ⟨_, rfl, v, rfl, fun dd nd => ?_⟩
    have f2 : (upd H1 dd (.xd [("thing", v)])) dd = some (.xd [("thing", v)]) := upd_same
    have s2 : Same H1 (upd H1 dd (.xd [("thing", v)])) := same_new nd
    revert f2 s2
    generalize upd H1 dd (.xd [("thing", v)]) = H2
    intro f2 s2
    refine ⟨true, T.x5, (fun _ a ha => ?_), (fun z => nomatch z)⟩
    refine ⟨_, rfl, .inl ⟨rfl, _, SqL.of (s2 _ _ f1)⟩, _, rfl, C 5, dd, _, _, _, _, rfl, rfl, rfl, f2, T.ec 5 (by decide), .own (C 5), T.kC 5 5 (by decide) (by decide), q, _, _, rfl, rfl, s2 _ _ f1, (by show 0 < sizeLine; decide), ?_⟩
    have f3 : (upd H2 q (.lst ([] ++ [V.bl (decide (5 = 5))]))) q = some (.lst [V.bl true]) := upd_same
    have s3 : Same H (upd H2 q (.lst ([] ++ [V.bl (decide (5 = 5))]))) := fun b o e => by
      rw [upd_ne (ne_of_none e nq)]
      exact s2 _ _ (s1 _ _ e)
    revert f3 s3
    generalize upd H2 q (.lst ([] ++ [V.bl (decide (5 = 5))])) = H3
    intro f3 s3
    refine ⟨_, rfl, v, rfl, fun d2 nd2 => ?_⟩
    have f4 : (upd H3 d2 (.xd [("part", v)])) d2 = some (.xd [("part", v)]) := upd_same
    have s4 : Same H3 (upd H3 d2 (.xd [("part", v)])) := same_new nd2
    revert f4 s4
    generalize upd H3 d2 (.xd [("part", v)]) = H4
    intro f4 s4
    have hv4 := Dq.same (s3.trans s4) d v hv
    refine ⟨true, T.x0, (fun _ a ha => ?_), (fun z => nomatch z)⟩
    refine ⟨_, rfl, .inl ⟨rfl, _, SqL.of (s4 _ _ f3)⟩, _, rfl, rfl, rfl, d2, _, v, rfl, f4, rfl, v, d, rfl, hv4, hd, _, rfl, v, d, rfl, hv4, hd, rfl, q, _, _, rfl, rfl, s4 _ _ f3, (by show 1 < sizeLine; decide), ?_⟩
    refine ⟨_, rfl, (by show 2 ≤ sizeLine; decide), fun r nr => ?_⟩
    have e0 : decide (V.str d.shown = V.str d.shown) = true := decide_eq_true rfl
    have f5 : (upd H4 q (.lst ([V.bl true] ++ [V.bl (decide (V.str d.shown = V.str d.shown))]))) q = some (.lst ([true, true].map V.bl)) := by
      rw [upd_same, e0]
      rfl
    have s6 := same_new (o := .lst [V.bl true, V.bl true]) nr
    refine ⟨.list (List.map .bool [true, true]), .list (List.map .bool [true, true]), .lst (SqL.of (s6 _ _ f5)) (dp_bools [true, true]), .lst (SqL.of upd_same) (dp_bools [true, true]), shaped_bools _, shaped_bools _, ?_⟩
    exact k _
end
end KL
set_option Elab.async false
set_option linter.all false
set_option maxRecDepth 100000
set_option maxHeartbeats 4000000
namespace KL
open PySem L2 PySem.KX PySem.Spec PyProof.Rows
theorem DeckAt.same {H0 H Hn : Hp} {p : Addr} {t : Int} (D : DeckAt H0 H p t) (S : Same H Hn) : DeckAt H0 Hn p t := by
  obtain ⟨s0, p0, l, ns, m, l0, hp, hl, r⟩ := D
  exact ⟨s0.trans S, p0, l, ns, m, l0, S _ _ hp, S _ _ hl, r⟩
def spLaw (K : PySem.W.Frag) : Sp := fun vs H Q _ => ∃ (a : Addr) (ns : List Int), vs = [.ref a] ∧ SqL K H a (ns.map V.int) ∧ ns.length ≤ 63 ∧ ∀ H', Q (.bl true) H'
section
variable {P : Program} {w : World} {K : PySem.W.Frag} {mg : Str → Option Value} {base : Heap} {C I : Nat → Addr} {B : Addr}
theorem scLaw : FnScope ["_law_script", "_law_deck_here", "_law_number", "_law_here", "_law_there", "_law_near", "_law_far", "_law_e", "_law_again"] ["_law_script"] (defScope sLaw) := ⟨rfl, rfl, rfl, by decide +kernel, rfl, by decide +kernel, by decide +kernel⟩
/-- a def of the module, called by its name -/
structure Cal (K : PySem.W.Frag) (mg : Str → Option Value) (x : Str) (f : Addr) (fd : FuncData) (ps : List Str) : Prop where
  m : mg x = some (.ref f)
  k : PySem.W.keepIn K (.ref f) = true
  b : L2.Binds K fd ps []
theorem ok_law {f : Addr} {fd : FuncData} (F : Fun K "law" "law" sLaw f fd) (T : Txt K mg C I B) {fD : Addr} {fdD : FuncData} (GD : FnOk P w K mg base CX0 1 fD fdD ["_law_script"] (spDeck K)) (cD : Cal K mg "_law_deck" fD fdD ["_law_script"]) {fI : Addr} {fdI : FuncData} (GI : FnOk P w K mg base CX0 3 fI fdI ["_law_deck_here"] spIt) (cI : Cal K mg "_law_it" fI fdI ["_law_deck_here"]) {fF : Addr} {fdF : FuncData} (GF : FnOk P w K mg base CX0 2 fF fdF ["_law_number", "_law_it_here"] (spMk C 0 7)) (cF : Cal K mg "_law_first" fF fdF ["_law_number", "_law_it_here"]) {fL : Addr} {fdL : FuncData} (GL : FnOk P w K mg base CX0 2 fL fdL ["_law_number", "_law_it_here"] (spMk C 7 13)) (cL : Cal K mg "_law_last" fL fdL ["_law_number", "_law_it_here"]) {fP : Addr} {fdP : FuncData} (GP : FnOk P w K mg base CX0 2 fP fdP ["_law_e", "_law_number"] (spPure C)) (cP : Cal K mg "_law_is_pure" fP fdP ["_law_e", "_law_number"]) {fB : Addr} {fdB : FuncData} (GB : FnOk P w K mg base CX0 2 fB fdB ["_law_number"] (spBare C)) (cB : Cal K mg "_law_bare" fB fdB ["_law_number"]) {fC : Addr} {fdC : FuncData} (GC : FnG P w K mg base CX0 2 fC fdC ["_law_it_here"] spCaught) (cC : Cal K mg "_law_is_caught" fC fdC ["_law_it_here"]) : FnG P w K mg base CX0 4 f fd ["_law_script"] (spLaw K) := by
  refine fnG0 F scLaw (fun vs H Q E h => ?_) (fun cdv A outer s H vs Q E hg hr h => ?_)
  · obtain ⟨a, ns, rfl, _⟩ := h
    rfl
  · obtain ⟨a, ns, rfl, hS, hlen, k⟩ := h
    let X0 : Cx := (cxOf CX0 P w K mg base ["_law_script", "_law_deck_here", "_law_number", "_law_here", "_law_there", "_law_near", "_law_far", "_law_e", "_law_again"] "law" (defScope sLaw) f cdv A outer s H E).nox
    have r1 : Room 1 X0.A := hr.mono (by decide)
    have r2 : Room 2 X0.A := hr.mono (by decide)
    refine ⟨_, (pss_cons (ps_set (i := 1) scLaw.nd rfl (.inl rfl) (pe_call GD r1 (by rfl) cD.m cD.k cD.b .nil pass0 (pa_cons (pv 0) pa_nil)))
        (pss_cons (ps_for PassesOwn.never rfl (pi_range1 (by rfl) T.range (pa_cons pe_int pa_nil)) (pg_name (i := 2) scLaw.nd rfl (.inl rfl)) (pss_cons (ps_par (i := 3) (j := 4) (by rfl) scLaw.nd rfl rfl (by decide) rfl rfl (pa_cons (pe_call GI hr (by rfl) cI.m cI.k cI.b .nil pass0 (pa_cons (pv 1) pa_nil)) (pa_cons (pe_call GI hr (by rfl) cI.m cI.k cI.b .nil pass0 (pa_cons (pv 1) pa_nil)) pa_nil)) (by rfl))
        (pss_cons (ps_set (i := 5) scLaw.nd rfl (.inl rfl) (pe_ifExp (pt_cmpR op_lt (pv 2) pe_int (nomark _)) (pe_call GF r2 (by rfl) cF.m cF.k cF.b .nil pass0 (pa_cons (pv 2) (pa_cons (pv 3) pa_nil))) (pe_call GL r2 (by rfl) cL.m cL.k cL.b .nil pass0 (pa_cons (pv 2) (pa_cons (pv 3) pa_nil)))))
        (pss_cons (ps_set (i := 6) scLaw.nd rfl (.inl rfl) (pe_ifExp (pt_cmpR op_lt (pv 2) pe_int (nomark _)) (pe_call GF r2 (by rfl) cF.m cF.k cF.b .nil pass0 (pa_cons (pv 2) (pa_cons (pv 4) pa_nil))) (pe_call GL r2 (by rfl) cL.m cL.k cL.b .nil pass0 (pa_cons (pv 2) (pa_cons (pv 4) pa_nil)))))
        (pss_cons (ps_if (PW.pt (pw_or (pt_cmpR op_ne (pe_callB (call_rep2 (X := X0) hg hr.units) (by rfl) T.repr (by decide +kernel) (pa_cons (pe_lst (pa_cons (pe_ix ix_tup (pv 5) pe_int (fun _ _ => rfl)) (pa_cons (pe_ix ix_tup (pv 5) pe_int (fun _ _ => rfl)) pa_nil))) pa_nil)) (pe_callB (call_rep2 (X := X0) hg hr.units) (by rfl) T.repr (by decide +kernel) (pa_cons (pe_lst (pa_cons (pv 3) (pa_cons (pv 3) pa_nil))) pa_nil)) (nomark _)) (pw_or1 (pt_cmpR op_ne (pe_callB (call_rep2 (X := X0) hg hr.units) (by rfl) T.repr (by decide +kernel) (pa_cons (pe_lst (pa_cons (pe_ix ix_tup (pv 6) pe_int (fun _ _ => rfl)) (pa_cons (pe_ix ix_tup (pv 6) pe_int (fun _ _ => rfl)) pa_nil))) pa_nil)) (pe_callB (call_rep2 (X := X0) hg hr.units) (by rfl) T.repr (by decide +kernel) (pa_cons (pe_lst (pa_cons (pv 4) (pa_cons (pv 4) pa_nil))) pa_nil)) (nomark _))))) (pss_one (ps_ret pe_bl)) pss_nil)
        (pss_cons (ps_for PassesOwn.never rfl (pi_tup (pe_tup (pa_cons (pe_ix ix_tup (pv 5) pe_int (fun _ _ => rfl)) (pa_cons (pe_ix ix_tup (pv 5) pe_int (fun _ _ => rfl)) (pa_cons (pe_ix ix_tup (pv 6) pe_int (fun _ _ => rfl)) pa_nil))))) (pg_name (i := 7) scLaw.nd rfl (.inl rfl)) (pss_one (ps_if (pt_not (pt_val (pe_call GP r2 (by rfl) cP.m cP.k cP.b .nil pass0 (pa_cons (pv 7) (pa_cons (pv 2) pa_nil))))) (pss_one (ps_ret pe_bl)) pss_nil)))
        (pss_cons (ps_set (i := 8) scLaw.nd rfl (.inl rfl) (pe_ifExp (pt_cmpR op_lt (pv 2) pe_int (nomark _)) (pe_call GF r2 (by rfl) cF.m cF.k cF.b .nil pass0 (pa_cons (pv 2) (pa_cons (pv 4) pa_nil))) (pe_call GL r2 (by rfl) cL.m cL.k cL.b .nil pass0 (pa_cons (pv 2) (pa_cons (pv 4) pa_nil)))))
        (pss_one (ps_if (pt_cmpR op_ne (pe_callB (call_rep2 (X := X0) hg hr.units) (by rfl) T.repr (by decide +kernel) (pa_cons (pe_lst (pa_cons (pe_ix ix_tup (pv 5) pe_int (fun _ _ => rfl)) (pa_cons (pe_ix ix_tup (pv 8) pe_int (fun _ _ => rfl)) pa_nil))) pa_nil)) (pe_callB (call_rep2 (X := X0) hg hr.units) (by rfl) T.repr (by decide +kernel) (pa_cons (pe_lst (pa_cons (pv 3) (pa_cons (pv 4) pa_nil))) pa_nil)) (nomark _)) (pss_one (ps_ret pe_bl)) pss_nil)))))))))
        (pss_cons (ps_for PassesOwn.never rfl (pi_range2 (by rfl) T.range (pa_cons pe_int (pa_cons pe_int pa_nil))) (pg_name (i := 2) scLaw.nd rfl (.inl rfl)) (pss_one (ps_if (pt_not (pt_val (pe_call GP r2 (by rfl) cP.m cP.k cP.b .nil pass0 (pa_cons (pe_call GB r2 (by rfl) cB.m cB.k cB.b .nil pass0 (pa_cons (pv 2) pa_nil)) (pa_cons (pv 2) pa_nil))))) (pss_one (ps_ret pe_bl)) pss_nil)))
        (pss_one (ps_ret (pe_callG GC hg r2 (by rfl) cC.m cC.k cC.b pass0 (pa_cons (pe_call GI hr (by rfl) cI.m cI.k cI.b .nil pass0 (pa_cons (pv 1) pa_nil)) pa_nil))))))), ?_⟩
    refine ⟨_, rfl, a, ns, rfl, hS, hlen, fun H1 p D => ?_⟩
    refine ⟨13, rfl, (by decide), (by decide), for_range (lo := 0) (n := 13) (fun j σ H' => ∃ (H0 : Hp) (v2 v3 v4 v5 v6 v7 v8 : Option V), σ = [some (.ref a), some (.ref p), v2, v3, v4, v5, v6, v7, v8] ∧ DeckAt H0 H' p (2 * (j : Int))) ⟨H, none, none, none, none, none, none, none, rfl, (show DeckAt H H1 p (2 * ((0 : Nat) : Int)) from (show (2 : Int) * ((0 : Nat) : Int) = 0 from rfl) ▸ D)⟩ ?_ ?_⟩
    · rintro j σ H' hj ⟨H0, v2, v3, v4, v5, v6, v7, v8, rfl, D⟩
      have ej : V.int (0 + (j : Int)) = V.int (j : Int) := by rw [Int.zero_add]
      rw [ej]
      refine ⟨_, rfl, H0, p, _, rfl, D, by omega, by omega, fun J1 K1 x1 d1 S1 D1 m1 q1 => ?_⟩
      refine ⟨_, rfl, J1, p, _, rfl, D1, by omega, by omega, fun J2 K2 x2 d2 S2 D2 m2 q2 => ⟨_, _, rfl, ?_⟩⟩
      have q1 : Dq K2 x1 d1 := Dq.same (S2.trans D2.1) d1 x1 q1
      have q2 : Dq K2 x2 d2 := Dq.same D2.1 d2 x2 q2
      have eD : 2 * (j : Int) + 1 + 1 = 2 * ((j + 1 : Nat) : Int) := by
        rw [Int.natCast_add]
        omega
      rw [eD] at D2
      rcases Nat.lt_or_ge j 7 with h7 | h7
      · skip
        refine ⟨_, rfl, _, _, rfl, rfl, _, rfl, iteYes (decide_eq_true (by omega)) ⟨_, rfl, _, rfl, j, x1, rfl, (Nat.zero_le _), h7, fun G1 tN aN bN s1 fN eaN ebN => ?_⟩⟩
        refine ⟨_, rfl, _, _, rfl, rfl, _, rfl, iteYes (decide_eq_true (by omega)) ⟨_, rfl, _, rfl, j, x2, rfl, (Nat.zero_le _), h7, fun G2 tR aR bR s2 fR eaR ebR => ?_⟩⟩
        refine ⟨_, rfl, tN, _, _, x1, rfl, rfl, SqT.of (s2 _ _ fN), rfl, _, rfl, tN, _, _, x1, rfl, rfl, SqT.of (s2 _ _ fN), rfl, (by show 2 ≤ sizeLine; decide), fun q3 n3 => ?_⟩
        have ful : (upd G2 q3 (HO.lst [x1, x1])) q3 = some (HO.lst [x1, x1]) := upd_same
        have s3 : Same G2 (upd G2 q3 (HO.lst [x1, x1])) := same_new n3
        revert ful s3
        generalize upd G2 q3 (HO.lst [x1, x1]) = G3
        intro ful s3
        refine ⟨q3, x1, x1, d1, d1, rfl, ful, Dq.same (Same.trans (Same.trans s1 s2) s3) d1 x1 q1, Dq.same (Same.trans (Same.trans s1 s2) s3) d1 x1 q1, m1, m1, _, rfl, _, rfl, (by show 2 ≤ sizeLine; decide), fun q4 n4 => ?_⟩
        have fur : (upd G3 q4 (HO.lst [x1, x1])) q4 = some (HO.lst [x1, x1]) := upd_same
        have s4 : Same G3 (upd G3 q4 (HO.lst [x1, x1])) := same_new n4
        revert fur s4
        generalize upd G3 q4 (HO.lst [x1, x1]) = G4
        intro fur s4
        refine ⟨q4, x1, x1, d1, d1, rfl, fur, Dq.same (Same.trans (Same.trans (Same.trans s1 s2) s3) s4) d1 x1 q1, Dq.same (Same.trans (Same.trans (Same.trans s1 s2) s3) s4) d1 x1 q1, m1, m1, rfl, _, rfl, ?_⟩
        refine iteNo (by simp) ?_
        refine ⟨_, rfl, tR, _, _, x2, rfl, rfl, SqT.of ((Same.trans s3 s4) _ _ fR), rfl, _, rfl, tR, _, _, x2, rfl, rfl, SqT.of ((Same.trans s3 s4) _ _ fR), rfl, (by show 2 ≤ sizeLine; decide), fun q5 n5 => ?_⟩
        have fvl : (upd G4 q5 (HO.lst [x2, x2])) q5 = some (HO.lst [x2, x2]) := upd_same
        have s5 : Same G4 (upd G4 q5 (HO.lst [x2, x2])) := same_new n5
        revert fvl s5
        generalize upd G4 q5 (HO.lst [x2, x2]) = G5
        intro fvl s5
        refine ⟨q5, x2, x2, d2, d2, rfl, fvl, Dq.same (Same.trans (Same.trans (Same.trans (Same.trans s1 s2) s3) s4) s5) d2 x2 q2, Dq.same (Same.trans (Same.trans (Same.trans (Same.trans s1 s2) s3) s4) s5) d2 x2 q2, m2, m2, _, rfl, _, rfl, (by show 2 ≤ sizeLine; decide), fun q6 n6 => ?_⟩
        have fvr : (upd G5 q6 (HO.lst [x2, x2])) q6 = some (HO.lst [x2, x2]) := upd_same
        have s6 : Same G5 (upd G5 q6 (HO.lst [x2, x2])) := same_new n6
        revert fvr s6
        generalize upd G5 q6 (HO.lst [x2, x2]) = G6
        intro fvr s6
        refine ⟨q6, x2, x2, d2, d2, rfl, fvr, Dq.same (Same.trans (Same.trans (Same.trans (Same.trans (Same.trans s1 s2) s3) s4) s5) s6) d2 x2 q2, Dq.same (Same.trans (Same.trans (Same.trans (Same.trans (Same.trans s1 s2) s3) s4) s5) s6) d2 x2 q2, m2, m2, rfl, _, rfl, ?_⟩
        refine iteNo (by simp) ?_
        refine ⟨_, rfl, tN, _, _, .ref aN, rfl, rfl, SqT.of ((Same.trans (Same.trans (Same.trans (Same.trans s2 s3) s4) s5) s6) _ _ fN), rfl, _, rfl, tN, _, _, .ref bN, rfl, rfl, SqT.of ((Same.trans (Same.trans (Same.trans (Same.trans s2 s3) s4) s5) s6) _ _ fN), rfl, _, rfl, tR, _, _, .ref aR, rfl, rfl, SqT.of ((Same.trans (Same.trans (Same.trans s3 s4) s5) s6) _ _ fR), rfl, (by show 3 ≤ sizeLine; decide), fun q7 n7 => ?_⟩
        have fw : (upd G6 q7 (HO.tup [.ref aN, .ref bN, .ref aR])) q7 = some (HO.tup [.ref aN, .ref bN, .ref aR]) := upd_same
        have s7 : Same G6 (upd G6 q7 (HO.tup [.ref aN, .ref bN, .ref aR])) := same_new n7
        revert fw s7
        generalize upd G6 q7 (HO.tup [.ref aN, .ref bN, .ref aR]) = G7
        intro fw s7
        refine ⟨q7, rfl, ⟨_, SqT.of fw⟩, for_tup (K := K) (a := q7) (xs := [.ref aN, .ref bN, .ref aR]) (fun i σ H4 => (∃ v7 : Option V, σ = [some (.ref a), some (.ref p), some (.int j), some x1, some x2, some (.ref tN), some (.ref tR), v7, v8]) ∧ Same G7 H4) ⟨⟨v7, rfl⟩, Same.refl _⟩ (fun i σ H4 _ z => SqT.of (z.2 _ _ fw)) ?_ ?_⟩
        · rintro i x σ H4 hx ⟨⟨v7, rfl⟩, S4⟩
          have hb : ∃ b, x = .ref b ∧ ErrAt G7 b (C j) := by
            match i, hx with
            | 0, hx => exact ⟨aN, (Option.some.inj hx).symm, ErrAt.same (Same.trans (Same.trans (Same.trans (Same.trans (Same.trans s2 s3) s4) s5) s6) s7) eaN⟩
            | 1, hx => exact ⟨bN, (Option.some.inj hx).symm, ErrAt.same (Same.trans (Same.trans (Same.trans (Same.trans (Same.trans s2 s3) s4) s5) s6) s7) ebN⟩
            | 2, hx => exact ⟨aR, (Option.some.inj hx).symm, ErrAt.same (Same.trans (Same.trans (Same.trans (Same.trans s3 s4) s5) s6) s7) eaR⟩
            | i + 3, hx => simp at hx
          obtain ⟨b, rfl, hb⟩ := hb
          refine ⟨_, rfl, _, rfl, j, b, rfl, by omega, ErrAt.same S4 hb, fun H5 S5 => ⟨_, rfl, ?_⟩⟩
          refine iteNo rfl ?_
          exact ⟨⟨_, rfl⟩, S4.trans S5⟩
        · rintro σ G8 ⟨⟨v7, rfl⟩, s8⟩
          refine ⟨_, rfl, _, _, rfl, rfl, _, rfl, iteYes (decide_eq_true (by omega)) ⟨_, rfl, _, rfl, j, x2, rfl, (Nat.zero_le _), h7, fun G9 tZ aZ bZ s9 fZ eaZ ebZ => ?_⟩⟩
          refine ⟨_, rfl, tN, _, _, x1, rfl, rfl, SqT.of ((Same.trans (Same.trans (Same.trans (Same.trans (Same.trans (Same.trans (Same.trans s2 s3) s4) s5) s6) s7) s8) s9) _ _ fN), rfl, _, rfl, tZ, _, _, x2, rfl, rfl, SqT.of ((Same.refl _) _ _ fZ), rfl, (by show 2 ≤ sizeLine; decide), fun q10 n10 => ?_⟩
          have fyl : (upd G9 q10 (HO.lst [x1, x2])) q10 = some (HO.lst [x1, x2]) := upd_same
          have s10 : Same G9 (upd G9 q10 (HO.lst [x1, x2])) := same_new n10
          revert fyl s10
          generalize upd G9 q10 (HO.lst [x1, x2]) = G10
          intro fyl s10
          refine ⟨q10, x1, x2, d1, d2, rfl, fyl, Dq.same (Same.trans (Same.trans (Same.trans (Same.trans (Same.trans (Same.trans (Same.trans (Same.trans (Same.trans s1 s2) s3) s4) s5) s6) s7) s8) s9) s10) d1 x1 q1, Dq.same (Same.trans (Same.trans (Same.trans (Same.trans (Same.trans (Same.trans (Same.trans (Same.trans (Same.trans s1 s2) s3) s4) s5) s6) s7) s8) s9) s10) d2 x2 q2, m1, m2, _, rfl, _, rfl, (by show 2 ≤ sizeLine; decide), fun q11 n11 => ?_⟩
          have fyr : (upd G10 q11 (HO.lst [x1, x2])) q11 = some (HO.lst [x1, x2]) := upd_same
          have s11 : Same G10 (upd G10 q11 (HO.lst [x1, x2])) := same_new n11
          revert fyr s11
          generalize upd G10 q11 (HO.lst [x1, x2]) = G11
          intro fyr s11
          refine ⟨q11, x1, x2, d1, d2, rfl, fyr, Dq.same (Same.trans (Same.trans (Same.trans (Same.trans (Same.trans (Same.trans (Same.trans (Same.trans (Same.trans (Same.trans s1 s2) s3) s4) s5) s6) s7) s8) s9) s10) s11) d1 x1 q1, Dq.same (Same.trans (Same.trans (Same.trans (Same.trans (Same.trans (Same.trans (Same.trans (Same.trans (Same.trans (Same.trans s1 s2) s3) s4) s5) s6) s7) s8) s9) s10) s11) d2 x2 q2, m1, m2, rfl, _, rfl, ?_⟩
          refine iteNo (by simp) ?_
          exact ⟨J2, _, _, _, _, _, _, _, rfl, D2.same (Same.trans (Same.trans (Same.trans (Same.trans (Same.trans (Same.trans (Same.trans (Same.trans (Same.trans (Same.trans s1 s2) s3) s4) s5) s6) s7) s8) s9) s10) s11)⟩
      · skip
        refine ⟨_, rfl, _, _, rfl, rfl, _, rfl, iteNo (decide_eq_false (by omega)) ⟨_, rfl, _, rfl, j, x1, rfl, h7, hj, fun G1 tN aN bN s1 fN eaN ebN => ?_⟩⟩
        refine ⟨_, rfl, _, _, rfl, rfl, _, rfl, iteNo (decide_eq_false (by omega)) ⟨_, rfl, _, rfl, j, x2, rfl, h7, hj, fun G2 tR aR bR s2 fR eaR ebR => ?_⟩⟩
        refine ⟨_, rfl, tN, _, _, x1, rfl, rfl, SqT.of (s2 _ _ fN), rfl, _, rfl, tN, _, _, x1, rfl, rfl, SqT.of (s2 _ _ fN), rfl, (by show 2 ≤ sizeLine; decide), fun q3 n3 => ?_⟩
        have ful : (upd G2 q3 (HO.lst [x1, x1])) q3 = some (HO.lst [x1, x1]) := upd_same
        have s3 : Same G2 (upd G2 q3 (HO.lst [x1, x1])) := same_new n3
        revert ful s3
        generalize upd G2 q3 (HO.lst [x1, x1]) = G3
        intro ful s3
        refine ⟨q3, x1, x1, d1, d1, rfl, ful, Dq.same (Same.trans (Same.trans s1 s2) s3) d1 x1 q1, Dq.same (Same.trans (Same.trans s1 s2) s3) d1 x1 q1, m1, m1, _, rfl, _, rfl, (by show 2 ≤ sizeLine; decide), fun q4 n4 => ?_⟩
        have fur : (upd G3 q4 (HO.lst [x1, x1])) q4 = some (HO.lst [x1, x1]) := upd_same
        have s4 : Same G3 (upd G3 q4 (HO.lst [x1, x1])) := same_new n4
        revert fur s4
        generalize upd G3 q4 (HO.lst [x1, x1]) = G4
        intro fur s4
        refine ⟨q4, x1, x1, d1, d1, rfl, fur, Dq.same (Same.trans (Same.trans (Same.trans s1 s2) s3) s4) d1 x1 q1, Dq.same (Same.trans (Same.trans (Same.trans s1 s2) s3) s4) d1 x1 q1, m1, m1, rfl, _, rfl, ?_⟩
        refine iteNo (by simp) ?_
        refine ⟨_, rfl, tR, _, _, x2, rfl, rfl, SqT.of ((Same.trans s3 s4) _ _ fR), rfl, _, rfl, tR, _, _, x2, rfl, rfl, SqT.of ((Same.trans s3 s4) _ _ fR), rfl, (by show 2 ≤ sizeLine; decide), fun q5 n5 => ?_⟩
        have fvl : (upd G4 q5 (HO.lst [x2, x2])) q5 = some (HO.lst [x2, x2]) := upd_same
        have s5 : Same G4 (upd G4 q5 (HO.lst [x2, x2])) := same_new n5
        revert fvl s5
        generalize upd G4 q5 (HO.lst [x2, x2]) = G5
        intro fvl s5
        refine ⟨q5, x2, x2, d2, d2, rfl, fvl, Dq.same (Same.trans (Same.trans (Same.trans (Same.trans s1 s2) s3) s4) s5) d2 x2 q2, Dq.same (Same.trans (Same.trans (Same.trans (Same.trans s1 s2) s3) s4) s5) d2 x2 q2, m2, m2, _, rfl, _, rfl, (by show 2 ≤ sizeLine; decide), fun q6 n6 => ?_⟩
        have fvr : (upd G5 q6 (HO.lst [x2, x2])) q6 = some (HO.lst [x2, x2]) := upd_same
        have s6 : Same G5 (upd G5 q6 (HO.lst [x2, x2])) := same_new n6
        revert fvr s6
        generalize upd G5 q6 (HO.lst [x2, x2]) = G6
        intro fvr s6
        refine ⟨q6, x2, x2, d2, d2, rfl, fvr, Dq.same (Same.trans (Same.trans (Same.trans (Same.trans (Same.trans s1 s2) s3) s4) s5) s6) d2 x2 q2, Dq.same (Same.trans (Same.trans (Same.trans (Same.trans (Same.trans s1 s2) s3) s4) s5) s6) d2 x2 q2, m2, m2, rfl, _, rfl, ?_⟩
        refine iteNo (by simp) ?_
        refine ⟨_, rfl, tN, _, _, .ref aN, rfl, rfl, SqT.of ((Same.trans (Same.trans (Same.trans (Same.trans s2 s3) s4) s5) s6) _ _ fN), rfl, _, rfl, tN, _, _, .ref bN, rfl, rfl, SqT.of ((Same.trans (Same.trans (Same.trans (Same.trans s2 s3) s4) s5) s6) _ _ fN), rfl, _, rfl, tR, _, _, .ref aR, rfl, rfl, SqT.of ((Same.trans (Same.trans (Same.trans s3 s4) s5) s6) _ _ fR), rfl, (by show 3 ≤ sizeLine; decide), fun q7 n7 => ?_⟩
        have fw : (upd G6 q7 (HO.tup [.ref aN, .ref bN, .ref aR])) q7 = some (HO.tup [.ref aN, .ref bN, .ref aR]) := upd_same
        have s7 : Same G6 (upd G6 q7 (HO.tup [.ref aN, .ref bN, .ref aR])) := same_new n7
        revert fw s7
        generalize upd G6 q7 (HO.tup [.ref aN, .ref bN, .ref aR]) = G7
        intro fw s7
        refine ⟨q7, rfl, ⟨_, SqT.of fw⟩, for_tup (K := K) (a := q7) (xs := [.ref aN, .ref bN, .ref aR]) (fun i σ H4 => (∃ v7 : Option V, σ = [some (.ref a), some (.ref p), some (.int j), some x1, some x2, some (.ref tN), some (.ref tR), v7, v8]) ∧ Same G7 H4) ⟨⟨v7, rfl⟩, Same.refl _⟩ (fun i σ H4 _ z => SqT.of (z.2 _ _ fw)) ?_ ?_⟩
        · rintro i x σ H4 hx ⟨⟨v7, rfl⟩, S4⟩
          have hb : ∃ b, x = .ref b ∧ ErrAt G7 b (C j) := by
            match i, hx with
            | 0, hx => exact ⟨aN, (Option.some.inj hx).symm, ErrAt.same (Same.trans (Same.trans (Same.trans (Same.trans (Same.trans s2 s3) s4) s5) s6) s7) eaN⟩
            | 1, hx => exact ⟨bN, (Option.some.inj hx).symm, ErrAt.same (Same.trans (Same.trans (Same.trans (Same.trans (Same.trans s2 s3) s4) s5) s6) s7) ebN⟩
            | 2, hx => exact ⟨aR, (Option.some.inj hx).symm, ErrAt.same (Same.trans (Same.trans (Same.trans (Same.trans s3 s4) s5) s6) s7) eaR⟩
            | i + 3, hx => simp at hx
          obtain ⟨b, rfl, hb⟩ := hb
          refine ⟨_, rfl, _, rfl, j, b, rfl, by omega, ErrAt.same S4 hb, fun H5 S5 => ⟨_, rfl, ?_⟩⟩
          refine iteNo rfl ?_
          exact ⟨⟨_, rfl⟩, S4.trans S5⟩
        · rintro σ G8 ⟨⟨v7, rfl⟩, s8⟩
          refine ⟨_, rfl, _, _, rfl, rfl, _, rfl, iteNo (decide_eq_false (by omega)) ⟨_, rfl, _, rfl, j, x2, rfl, h7, hj, fun G9 tZ aZ bZ s9 fZ eaZ ebZ => ?_⟩⟩
          refine ⟨_, rfl, tN, _, _, x1, rfl, rfl, SqT.of ((Same.trans (Same.trans (Same.trans (Same.trans (Same.trans (Same.trans (Same.trans s2 s3) s4) s5) s6) s7) s8) s9) _ _ fN), rfl, _, rfl, tZ, _, _, x2, rfl, rfl, SqT.of ((Same.refl _) _ _ fZ), rfl, (by show 2 ≤ sizeLine; decide), fun q10 n10 => ?_⟩
          have fyl : (upd G9 q10 (HO.lst [x1, x2])) q10 = some (HO.lst [x1, x2]) := upd_same
          have s10 : Same G9 (upd G9 q10 (HO.lst [x1, x2])) := same_new n10
          revert fyl s10
          generalize upd G9 q10 (HO.lst [x1, x2]) = G10
          intro fyl s10
          refine ⟨q10, x1, x2, d1, d2, rfl, fyl, Dq.same (Same.trans (Same.trans (Same.trans (Same.trans (Same.trans (Same.trans (Same.trans (Same.trans (Same.trans s1 s2) s3) s4) s5) s6) s7) s8) s9) s10) d1 x1 q1, Dq.same (Same.trans (Same.trans (Same.trans (Same.trans (Same.trans (Same.trans (Same.trans (Same.trans (Same.trans s1 s2) s3) s4) s5) s6) s7) s8) s9) s10) d2 x2 q2, m1, m2, _, rfl, _, rfl, (by show 2 ≤ sizeLine; decide), fun q11 n11 => ?_⟩
          have fyr : (upd G10 q11 (HO.lst [x1, x2])) q11 = some (HO.lst [x1, x2]) := upd_same
          have s11 : Same G10 (upd G10 q11 (HO.lst [x1, x2])) := same_new n11
          revert fyr s11
          generalize upd G10 q11 (HO.lst [x1, x2]) = G11
          intro fyr s11
          refine ⟨q11, x1, x2, d1, d2, rfl, fyr, Dq.same (Same.trans (Same.trans (Same.trans (Same.trans (Same.trans (Same.trans (Same.trans (Same.trans (Same.trans (Same.trans s1 s2) s3) s4) s5) s6) s7) s8) s9) s10) s11) d1 x1 q1, Dq.same (Same.trans (Same.trans (Same.trans (Same.trans (Same.trans (Same.trans (Same.trans (Same.trans (Same.trans (Same.trans s1 s2) s3) s4) s5) s6) s7) s8) s9) s10) s11) d2 x2 q2, m1, m2, rfl, _, rfl, ?_⟩
          refine iteNo (by simp) ?_
          exact ⟨J2, _, _, _, _, _, _, _, rfl, D2.same (Same.trans (Same.trans (Same.trans (Same.trans (Same.trans (Same.trans (Same.trans (Same.trans (Same.trans (Same.trans s1 s2) s3) s4) s5) s6) s7) s8) s9) s10) s11)⟩
    · rintro σ H' ⟨H0, v2, v3, v4, v5, v6, v7, v8, rfl, D⟩
      refine ⟨13, 19, rfl, ⟨by decide, by decide, by decide, by decide⟩, for_range (lo := 13) (n := 6) (fun j σ H4 => (∃ v2 : Option V, σ = [some (.ref a), some (.ref p), v2, v3, v4, v5, v6, v7, v8]) ∧ Same H' H4) ⟨⟨v2, rfl⟩, Same.refl _⟩ ?_ ?_⟩
      · rintro j σ H4 hj ⟨⟨v2, rfl⟩, S4⟩
        have ej : V.int (13 + (j : Int)) = V.int ((13 + j : Nat) : Int) := by
          rw [Int.natCast_add]
          rfl
        rw [ej]
        refine ⟨_, rfl, 13 + j, rfl, by omega, by omega, fun H5 b S5 eb => ?_⟩
        refine ⟨_, rfl, 13 + j, b, rfl, by omega, eb, fun H6 S6 => ⟨_, rfl, ?_⟩⟩
        refine iteNo rfl ?_
        exact ⟨⟨_, rfl⟩, S4.trans (S5.trans S6)⟩
      · rintro σ H4 ⟨⟨v2, rfl⟩, S4⟩
        refine ⟨_, rfl, H0, p, _, rfl, D.same S4, by omega, by omega, fun J1 K1 x1 d1 S1 D1 m1 q1 => ?_⟩
        exact ⟨x1, d1, rfl, Dq.same D1.1 d1 x1 q1, m1, fun H5 => k H5⟩
end
end KL
set_option Elab.async false
set_option linter.all false
set_option maxRecDepth 100000
set_option maxHeartbeats 4000000
namespace KL
open PySem L2 PySem.KX PySem.W PyProof.Rows
def chkE (K : Frag) (B C : Addr) : Bool :=
  excInitIn K C excB "Exception.__new__" && (excOver K C excB && (hasDictIn K C && (keepIn K (.ref C) && ((findIn K (.ref C) "__setattr__" == some (some (.builtin "object.__setattr__"))) && ((findIn K (.ref C) "__getattribute__" == some (some (.builtin "BaseException.__getattribute__"))) &&
  ((findIn K (.ref C) "__getattr__" == some none) && ((findIn K (.ref C) "__class__" == some (some (.builtin "object.__class__"))) && ((clsIn K C).any (fun cd => cd.mro == [.ref C, .ref B, .type "Exception", .type "BaseException", .type "object"]) && (typeIn K (.ref C) == some (.type "type"))))))))))
structure ChkE (K : Frag) (B C : Addr) : Prop where
  c1 : excInitIn K C excB "Exception.__new__" = true
  c2 : excOver K C excB = true
  c3 : hasDictIn K C = true
  c4 : keepIn K (.ref C) = true
  c5 : findIn K (.ref C) "__setattr__" = some (some (.builtin "object.__setattr__"))
  c6 : findIn K (.ref C) "__getattribute__" = some (some (.builtin "BaseException.__getattribute__"))
  c7 : findIn K (.ref C) "__getattr__" = some none
  c8 : findIn K (.ref C) "__class__" = some (some (.builtin "object.__class__"))
  c9 : ∃ cd, clsIn K C = some cd ∧ cd.mro = [.ref C, .ref B, .type "Exception", .type "BaseException", .type "object"]
  c10 : typeIn K (.ref C) = some (.type "type")
theorem chk_of {K : Frag} {B C : Addr} (h : chkE K B C = true) : ChkE K B C := by
  unfold chkE at h
  simp only [Bool.and_eq_true, beq_iff_eq] at h
  obtain ⟨h1, h2, h3, h4, h5, h6, h7, h8, h9, h10⟩ := h
  obtain ⟨cd, e, m⟩ := any_some h9
  exact ⟨h1, h2, h3, h4, h5, h6, h7, h8, ⟨cd, e, beq_iff_eq.mp m⟩, h10⟩
section
variable {K : Frag} {B C D : Addr}
theorem ChkE.mro (T : ChkE K B C) (v : Value) : subIn K (.ref C) v = some ([Value.ref C, .ref B, .type "Exception", .type "BaseException", .type "object"].contains v) := by
  obtain ⟨cd, e, m⟩ := T.c9
  show mroIn K C v = _
  unfold mroIn
  rw [e, Option.bind_some, m]
  rfl
theorem ChkE.ec (T : ChkE K B C) (hn : specialIn K (.builtin "object.__class__") "__get__" = some (some (.builtin "getset_descriptor.__get__"))) (ht : takesIn K (.builtin "object.__class__") = some true) : EC K C :=
  ⟨T.c1, T.c5, T.c2, T.c3, T.c4, ⟨T.c6, T.c7, by rw [T.mro]; rfl, T.c3, T.c8, hn, ht, T.mro _⟩⟩
theorem ChkE.ref (T : ChkE K B C) (h1 : (clsIn K D).isSome = true) (h2 : typeIn K (.ref D) = some (.type "type")) (hd : D ≠ C) (hb : D ≠ B) : kitOne K (.ref C) (.ref D) = some false := by
  unfold kitOne
  rw [if_neg (by simp [hd.symm])]
  unfold kitCls
  dsimp only
  rw [h1, h2, if_pos (by simp), T.mro]
  simp [hd, hb]
theorem ChkE.base (T : ChkE K B C) (h1 : (clsIn K B).isSome = true) (h2 : typeIn K (.ref B) = some (.type "type")) : kitOne K (.ref C) (.ref B) = some true := by
  unfold kitOne
  split
  · rfl
  · unfold kitCls
    dsimp only
    rw [h1, h2, if_pos (by simp), T.mro]
    simp
theorem ChkE.self : kitOne K (.ref C) (.ref C) = some true := by
  unfold kitOne
  rw [if_pos (by simp)]
theorem ChkE.typ (T : ChkE K B C) {n : String} {b : Bool} (h : (kitMeta n && ([Value.type "Exception", .type "BaseException", .type "object"].contains (.type n) == b)) = true) : kitOne K (.ref C) (.type n) = some b := by
  simp only [Bool.and_eq_true, beq_iff_eq] at h
  unfold kitOne
  rw [if_neg (by simp)]
  unfold kitCls
  dsimp only
  have z1 : (Value.type n == Value.ref C) = false := beq_eq_false_iff_ne.mpr fun q => nomatch q
  have z2 : (Value.type n == Value.ref B) = false := beq_eq_false_iff_ne.mpr fun q => nomatch q
  rw [h.1, if_pos rfl, T.mro, List.contains_cons, List.contains_cons, h.2, z1, z2]
  rfl
theorem ChkE.exm (T : ChkE K B C) (hs : subIn K (.ref D) (.type "BaseException") = some true) (h : kitCls K (.ref C) (.ref D) = some true) : exmOne K (.ref C) (.ref D) = some true := by
  unfold exmOne
  rw [hs, if_pos (by simp)]
  exact h
theorem ChkE.isSome (T : ChkE K B C) : (clsIn K C).isSome = true := by
  obtain ⟨cd, e, _⟩ := T.c9
  rw [e]
  rfl
end
theorem nodup_at {l : List Addr} (h : l.Nodup) {i j : Nat} (hi : i < l.length) (hj : j < l.length) (e : l.getD i 0 = l.getD j 0) : i = j := by
  rw [List.getD_eq_getElem?_getD, List.getD_eq_getElem?_getD, List.getElem?_eq_getElem hi, List.getElem?_eq_getElem hj, Option.getD_some, Option.getD_some] at e
  have q := List.pairwise_iff_getElem.mp h
  rcases Nat.lt_trichotomy i j with z | z | z
  · exact absurd e (q i j hi hj z)
  · exact z
  · exact absurd e.symm (q j i hj hi z)
end KL
set_option Elab.async false
set_option linter.all false
set_option maxRecDepth 100000
set_option maxHeartbeats 4000000
namespace KL
open PySem L2 PySem.KX PySem.W PyProof.Rows
theorem all_mk {l : PySem.W.OpenLaw} {w : World} {K : Frag} {h : Heap} {mg : Str → Option Value} {fa B : Addr} {c0 c1 c2 c3 c4 c5 c6 c7 c8 c9 c10 c11 c12 c13 c14 c15 c16 c17 c18 : Addr} {i0 i1 i2 i3 i4 i5 i6 i7 i8 i9 i10 i11 i12 : Addr} {gDeck gDraw gPick gIt gFirst gLast gBare gKinds gPure gCaught gLaw : Addr} (X : K.In h) (G : h.Ns mainGlobals mg) (hfa : mg "law" = some (.ref fa))
    {od0 an0 : Option Addr} {doc0 pm0 cdv0 ct0 : Value} {osl0 : Array (Option Value)} {pa0 pb0 qa0 qb0 qc0 qd0 : Pos}
    {od1 an1 : Option Addr} {doc1 pm1 cdv1 ct1 : Value} {osl1 : Array (Option Value)} {pa1 pb1 qa1 qb1 qc1 qd1 : Pos}
    {od2 an2 : Option Addr} {doc2 pm2 cdv2 ct2 : Value} {osl2 : Array (Option Value)} {pa2 pb2 qa2 qb2 qc2 qd2 : Pos}
    {od3 an3 : Option Addr} {doc3 pm3 cdv3 ct3 : Value} {osl3 : Array (Option Value)} {pa3 pb3 qa3 qb3 qc3 qd3 : Pos}
    {od4 an4 : Option Addr} {doc4 pm4 cdv4 ct4 : Value} {osl4 : Array (Option Value)} {pa4 pb4 qa4 qb4 qc4 qd4 : Pos}
    {od5 an5 : Option Addr} {doc5 pm5 cdv5 ct5 : Value} {osl5 : Array (Option Value)} {pa5 pb5 qa5 qb5 qc5 qd5 : Pos}
    {od6 an6 : Option Addr} {doc6 pm6 cdv6 ct6 : Value} {osl6 : Array (Option Value)} {pa6 pb6 qa6 qb6 qc6 qd6 : Pos}
    {od7 an7 : Option Addr} {doc7 pm7 cdv7 ct7 : Value} {osl7 : Array (Option Value)} {pa7 pb7 qa7 qb7 qc7 qd7 : Pos}
    {od8 an8 : Option Addr} {doc8 pm8 cdv8 ct8 : Value} {osl8 : Array (Option Value)} {pa8 pb8 qa8 qb8 qc8 qd8 : Pos}
    {od9 an9 : Option Addr} {doc9 pm9 cdv9 ct9 : Value} {osl9 : Array (Option Value)} {pa9 pb9 qa9 qb9 qc9 qd9 : Pos}
    {od10 an10 : Option Addr} {doc10 pm10 cdv10 ct10 : Value} {osl10 : Array (Option Value)} {pa10 pb10 qa10 qb10 qc10 qd10 : Pos}
    {od11 an11 : Option Addr} {doc11 pm11 cdv11 ct11 : Value} {osl11 : Array (Option Value)} {pa11 pb11 qa11 qb11 qc11 qd11 : Pos}
    {od12 an12 : Option Addr} {doc12 pm12 cdv12 ct12 : Value} {osl12 : Array (Option Value)} {pa12 pb12 qa12 qb12 qc12 qd12 : Pos}
    {odDeck anDeck : Option Addr} {ocDeck kVDeck docDeck pmDeck cdvDeck ctDeck : Value} {oslDeck : Array (Option Value)}
    {odDraw anDraw : Option Addr} {ocDraw kVDraw docDraw pmDraw cdvDraw ctDraw : Value} {oslDraw : Array (Option Value)}
    {odPick anPick : Option Addr} {ocPick kVPick docPick pmPick cdvPick ctPick : Value} {oslPick : Array (Option Value)}
    {odIt anIt : Option Addr} {ocIt kVIt docIt pmIt cdvIt ctIt : Value} {oslIt : Array (Option Value)}
    {odFirst anFirst : Option Addr} {ocFirst kVFirst docFirst pmFirst cdvFirst ctFirst : Value} {oslFirst : Array (Option Value)}
    {odLast anLast : Option Addr} {ocLast kVLast docLast pmLast cdvLast ctLast : Value} {oslLast : Array (Option Value)}
    {odBare anBare : Option Addr} {ocBare kVBare docBare pmBare cdvBare ctBare : Value} {oslBare : Array (Option Value)}
    {odKinds anKinds : Option Addr} {ocKinds kVKinds docKinds pmKinds cdvKinds ctKinds : Value} {oslKinds : Array (Option Value)}
    {odPure anPure : Option Addr} {ocPure kVPure docPure pmPure cdvPure ctPure : Value} {oslPure : Array (Option Value)}
    {odCaught anCaught : Option Addr} {ocCaught kVCaught docCaught pmCaught cdvCaught ctCaught : Value} {oslCaught : Array (Option Value)}
    {odLaw anLaw : Option Addr} {ocLaw kVLaw docLaw pmLaw cdvLaw ctLaw : Value} {oslLaw : Array (Option Value)}
    (a0 : nsIn K mainGlobals "BadHouse" = some (some (.ref c0)))
    (a1 : nsIn K mainGlobals "BadText" = some (some (.ref c1)))
    (a2 : nsIn K mainGlobals "NoArrow" = some (some (.ref c2)))
    (a3 : nsIn K mainGlobals "Beyond" = some (some (.ref c3)))
    (a4 : nsIn K mainGlobals "CannotDo" = some (some (.ref c4)))
    (a5 : nsIn K mainGlobals "NoTape" = some (some (.ref c5)))
    (a6 : nsIn K mainGlobals "NoPace" = some (some (.ref c6)))
    (a7 : nsIn K mainGlobals "NotTold" = some (some (.ref c7)))
    (a8 : nsIn K mainGlobals "Drifts" = some (some (.ref c8)))
    (a9 : nsIn K mainGlobals "BadReader" = some (some (.ref c9)))
    (a10 : nsIn K mainGlobals "BadQuestion" = some (some (.ref c10)))
    (a11 : nsIn K mainGlobals "BadPolicy" = some (some (.ref c11)))
    (a12 : nsIn K mainGlobals "BadTries" = some (some (.ref c12)))
    (a13 : nsIn K mainGlobals "Unlike" = some (some (.ref c13)))
    (a14 : nsIn K mainGlobals "OtherPeople" = some (some (.ref c14)))
    (a15 : nsIn K mainGlobals "NothingToUndo" = some (some (.ref c15)))
    (a16 : nsIn K mainGlobals "NothingToRedo" = some (some (.ref c16)))
    (a17 : nsIn K mainGlobals "NoHouse" = some (some (.ref c17)))
    (a18 : nsIn K mainGlobals "InvalidCommand" = some (some (.ref c18)))
    (aB : nsIn K mainGlobals "HouseError" = some (some (.ref B)))
    (n0 : findIn K (.ref c0) "part" = some none) (j0 : findIn K (.ref c0) "__init__" = some (some (.ref i0)))
    (l0 : K.lookup i0 = some ⟨.type "function", od0, .func (fnOf "__init__" "BadHouse.__init__" (iA "part" pa0 pb0) (iB "part" qa0 qb0 qc0 qd0) (iS "part") .none .none doc0 pm0 an0 cdv0 ct0), osl0⟩) (d0 : codeIn K cdv0 "BadHouse.__init__" = true)
    (n1 : findIn K (.ref c1) "line" = some none) (j1 : findIn K (.ref c1) "__init__" = some (some (.ref i1)))
    (l1 : K.lookup i1 = some ⟨.type "function", od1, .func (fnOf "__init__" "BadText.__init__" (iA "line" pa1 pb1) (iB "line" qa1 qb1 qc1 qd1) (iS "line") .none .none doc1 pm1 an1 cdv1 ct1), osl1⟩) (d1 : codeIn K cdv1 "BadText.__init__" = true)
    (n2 : findIn K (.ref c2) "index" = some none) (j2 : findIn K (.ref c2) "__init__" = some (some (.ref i2)))
    (l2 : K.lookup i2 = some ⟨.type "function", od2, .func (fnOf "__init__" "NoArrow.__init__" (iA "index" pa2 pb2) (iB "index" qa2 qb2 qc2 qd2) (iS "index") .none .none doc2 pm2 an2 cdv2 ct2), osl2⟩) (d2 : codeIn K cdv2 "NoArrow.__init__" = true)
    (n3 : findIn K (.ref c3) "paper" = some none) (j3 : findIn K (.ref c3) "__init__" = some (some (.ref i3)))
    (l3 : K.lookup i3 = some ⟨.type "function", od3, .func (fnOf "__init__" "Beyond.__init__" (iA "paper" pa3 pb3) (iB "paper" qa3 qb3 qc3 qd3) (iS "paper") .none .none doc3 pm3 an3 cdv3 ct3), osl3⟩) (d3 : codeIn K cdv3 "Beyond.__init__" = true)
    (n4 : findIn K (.ref c4) "deed" = some none) (j4 : findIn K (.ref c4) "__init__" = some (some (.ref i4)))
    (l4 : K.lookup i4 = some ⟨.type "function", od4, .func (fnOf "__init__" "CannotDo.__init__" (iA "deed" pa4 pb4) (iB "deed" qa4 qb4 qc4 qd4) (iS "deed") .none .none doc4 pm4 an4 cdv4 ct4), osl4⟩) (d4 : codeIn K cdv4 "CannotDo.__init__" = true)
    (n5 : findIn K (.ref c5) "thing" = some none) (j5 : findIn K (.ref c5) "__init__" = some (some (.ref i5)))
    (l5 : K.lookup i5 = some ⟨.type "function", od5, .func (fnOf "__init__" "NoTape.__init__" (iA "thing" pa5 pb5) (iB "thing" qa5 qb5 qc5 qd5) (iS "thing") .none .none doc5 pm5 an5 cdv5 ct5), osl5⟩) (d5 : codeIn K cdv5 "NoTape.__init__" = true)
    (n6 : findIn K (.ref c6) "paper" = some none) (j6 : findIn K (.ref c6) "__init__" = some (some (.ref i6)))
    (l6 : K.lookup i6 = some ⟨.type "function", od6, .func (fnOf "__init__" "NoPace.__init__" (iA "paper" pa6 pb6) (iB "paper" qa6 qb6 qc6 qd6) (iS "paper") .none .none doc6 pm6 an6 cdv6 ct6), osl6⟩) (d6 : codeIn K cdv6 "NoPace.__init__" = true)
    (n7 : findIn K (.ref c7) "paper" = some none) (j7 : findIn K (.ref c7) "__init__" = some (some (.ref i7)))
    (l7 : K.lookup i7 = some ⟨.type "function", od7, .func (fnOf "__init__" "NotTold.__init__" (iA "paper" pa7 pb7) (iB "paper" qa7 qb7 qc7 qd7) (iS "paper") .none .none doc7 pm7 an7 cdv7 ct7), osl7⟩) (d7 : codeIn K cdv7 "NotTold.__init__" = true)
    (n8 : findIn K (.ref c8) "paper" = some none) (j8 : findIn K (.ref c8) "__init__" = some (some (.ref i8)))
    (l8 : K.lookup i8 = some ⟨.type "function", od8, .func (fnOf "__init__" "Drifts.__init__" (iA "paper" pa8 pb8) (iB "paper" qa8 qb8 qc8 qd8) (iS "paper") .none .none doc8 pm8 an8 cdv8 ct8), osl8⟩) (d8 : codeIn K cdv8 "Drifts.__init__" = true)
    (n9 : findIn K (.ref c9) "part" = some none) (j9 : findIn K (.ref c9) "__init__" = some (some (.ref i9)))
    (l9 : K.lookup i9 = some ⟨.type "function", od9, .func (fnOf "__init__" "BadReader.__init__" (iA "part" pa9 pb9) (iB "part" qa9 qb9 qc9 qd9) (iS "part") .none .none doc9 pm9 an9 cdv9 ct9), osl9⟩) (d9 : codeIn K cdv9 "BadReader.__init__" = true)
    (n10 : findIn K (.ref c10) "thing" = some none) (j10 : findIn K (.ref c10) "__init__" = some (some (.ref i10)))
    (l10 : K.lookup i10 = some ⟨.type "function", od10, .func (fnOf "__init__" "BadQuestion.__init__" (iA "thing" pa10 pb10) (iB "thing" qa10 qb10 qc10 qd10) (iS "thing") .none .none doc10 pm10 an10 cdv10 ct10), osl10⟩) (d10 : codeIn K cdv10 "BadQuestion.__init__" = true)
    (n11 : findIn K (.ref c11) "part" = some none) (j11 : findIn K (.ref c11) "__init__" = some (some (.ref i11)))
    (l11 : K.lookup i11 = some ⟨.type "function", od11, .func (fnOf "__init__" "BadPolicy.__init__" (iA "part" pa11 pb11) (iB "part" qa11 qb11 qc11 qd11) (iS "part") .none .none doc11 pm11 an11 cdv11 ct11), osl11⟩) (d11 : codeIn K cdv11 "BadPolicy.__init__" = true)
    (n12 : findIn K (.ref c12) "tries" = some none) (j12 : findIn K (.ref c12) "__init__" = some (some (.ref i12)))
    (l12 : K.lookup i12 = some ⟨.type "function", od12, .func (fnOf "__init__" "BadTries.__init__" (iA "tries" pa12 pb12) (iB "tries" qa12 qb12 qc12 qd12) (iS "tries") .none .none doc12 pm12 an12 cdv12 ct12), osl12⟩) (d12 : codeIn K cdv12 "BadTries.__init__" = true)
    (aDeck : nsIn K mainGlobals "_law_deck" = some (some (.ref gDeck))) (lDeck : K.lookup gDeck = some ⟨ocDeck, odDeck, .func (fnOf "_law_deck" "_law_deck" (defArgs sDeck) (defBody sDeck) (defScope sDeck) .none kVDeck docDeck pmDeck anDeck cdvDeck ctDeck), oslDeck⟩) (cDeck : codeIn K cdvDeck "_law_deck" = true) (kDeck : keepIn K (.ref gDeck) = true)
    (aDraw : nsIn K mainGlobals "_law_draw" = some (some (.ref gDraw))) (lDraw : K.lookup gDraw = some ⟨ocDraw, odDraw, .func (fnOf "_law_draw" "_law_draw" (defArgs sDraw) (defBody sDraw) (defScope sDraw) .none kVDraw docDraw pmDraw anDraw cdvDraw ctDraw), oslDraw⟩) (cDraw : codeIn K cdvDraw "_law_draw" = true) (kDraw : keepIn K (.ref gDraw) = true)
    (aPick : nsIn K mainGlobals "_law_pick" = some (some (.ref gPick))) (lPick : K.lookup gPick = some ⟨ocPick, odPick, .func (fnOf "_law_pick" "_law_pick" (defArgs sPick) (defBody sPick) (defScope sPick) .none kVPick docPick pmPick anPick cdvPick ctPick), oslPick⟩) (cPick : codeIn K cdvPick "_law_pick" = true) (kPick : keepIn K (.ref gPick) = true)
    (aIt : nsIn K mainGlobals "_law_it" = some (some (.ref gIt))) (lIt : K.lookup gIt = some ⟨ocIt, odIt, .func (fnOf "_law_it" "_law_it" (defArgs sIt) (defBody sIt) (defScope sIt) .none kVIt docIt pmIt anIt cdvIt ctIt), oslIt⟩) (cIt : codeIn K cdvIt "_law_it" = true) (kIt : keepIn K (.ref gIt) = true)
    (aFirst : nsIn K mainGlobals "_law_first" = some (some (.ref gFirst))) (lFirst : K.lookup gFirst = some ⟨ocFirst, odFirst, .func (fnOf "_law_first" "_law_first" (defArgs sFirst) (defBody sFirst) (defScope sFirst) .none kVFirst docFirst pmFirst anFirst cdvFirst ctFirst), oslFirst⟩) (cFirst : codeIn K cdvFirst "_law_first" = true) (kFirst : keepIn K (.ref gFirst) = true)
    (aLast : nsIn K mainGlobals "_law_last" = some (some (.ref gLast))) (lLast : K.lookup gLast = some ⟨ocLast, odLast, .func (fnOf "_law_last" "_law_last" (defArgs sLast) (defBody sLast) (defScope sLast) .none kVLast docLast pmLast anLast cdvLast ctLast), oslLast⟩) (cLast : codeIn K cdvLast "_law_last" = true) (kLast : keepIn K (.ref gLast) = true)
    (aBare : nsIn K mainGlobals "_law_bare" = some (some (.ref gBare))) (lBare : K.lookup gBare = some ⟨ocBare, odBare, .func (fnOf "_law_bare" "_law_bare" (defArgs sBare) (defBody sBare) (defScope sBare) .none kVBare docBare pmBare anBare cdvBare ctBare), oslBare⟩) (cBare : codeIn K cdvBare "_law_bare" = true) (kBare : keepIn K (.ref gBare) = true)
    (aKinds : nsIn K mainGlobals "_law_kinds" = some (some (.ref gKinds))) (lKinds : K.lookup gKinds = some ⟨ocKinds, odKinds, .func (fnOf "_law_kinds" "_law_kinds" (defArgs sKinds) (defBody sKinds) (defScope sKinds) .none kVKinds docKinds pmKinds anKinds cdvKinds ctKinds), oslKinds⟩) (cKinds : codeIn K cdvKinds "_law_kinds" = true) (kKinds : keepIn K (.ref gKinds) = true)
    (aPure : nsIn K mainGlobals "_law_is_pure" = some (some (.ref gPure))) (lPure : K.lookup gPure = some ⟨ocPure, odPure, .func (fnOf "_law_is_pure" "_law_is_pure" (defArgs sPure) (defBody sPure) (defScope sPure) .none kVPure docPure pmPure anPure cdvPure ctPure), oslPure⟩) (cPure : codeIn K cdvPure "_law_is_pure" = true) (kPure : keepIn K (.ref gPure) = true)
    (aCaught : nsIn K mainGlobals "_law_is_caught" = some (some (.ref gCaught))) (lCaught : K.lookup gCaught = some ⟨ocCaught, odCaught, .func (fnOf "_law_is_caught" "_law_is_caught" (defArgs sCaught) (defBody sCaught) (defScope sCaught) .none kVCaught docCaught pmCaught anCaught cdvCaught ctCaught), oslCaught⟩) (cCaught : codeIn K cdvCaught "_law_is_caught" = true) (kCaught : keepIn K (.ref gCaught) = true)
    (aLaw : nsIn K mainGlobals "law" = some (some (.ref gLaw))) (lLaw : K.lookup gLaw = some ⟨ocLaw, odLaw, .func (fnOf "law" "law" (defArgs sLaw) (defBody sLaw) (defScope sLaw) .none kVLaw docLaw pmLaw anLaw cdvLaw ctLaw), oslLaw⟩) (cLaw : codeIn K cdvLaw "law" = true) (kLaw : keepIn K (.ref gLaw) = true)
    (zlist : nsIn K mainGlobals "list" = some none)
    (zint : nsIn K mainGlobals "int" = some none)
    (zlen : nsIn K mainGlobals "len" = some none)
    (zisinstance : nsIn K mainGlobals "isinstance" = some none)
    (zrepr : nsIn K mainGlobals "repr" = some none)
    (zrange : nsIn K mainGlobals "range" = some none)
    (zException : nsIn K mainGlobals "Exception" = some none)
    (zValueError : nsIn K mainGlobals "ValueError" = some none)
    (zTypeError : nsIn K mainGlobals "TypeError" = some none)
    (zLookupError : nsIn K mainGlobals "LookupError" = some none)
    (zStopIteration : nsIn K mainGlobals "StopIteration" = some none)
    (zArithmeticError : nsIn K mainGlobals "ArithmeticError" = some none)
    (zRuntimeError : nsIn K mainGlobals "RuntimeError" = some none)
    (zAttributeError : nsIn K mainGlobals "AttributeError" = some none)
    (sp : specialIn K (.builtin "object.__class__") "__get__" = some (some (.builtin "getset_descriptor.__get__"))) (tk : takesIn K (.builtin "object.__class__") = some true) (tB : typeIn K (.ref B) = some (.type "type")) (iB : isClsIn K B = true) (sB : subIn K (.ref B) (.type "BaseException") = some true)
    (chk : ([c0, c1, c2, c3, c4, c5, c6, c7, c8, c9, c10, c11, c12, c13, c14, c15, c16, c17, c18].all fun c => chkE K B c) = true) (nd : ([c0, c1, c2, c3, c4, c5, c6, c7, c8, c9, c10, c11, c12, c13, c14, c15, c16, c17, c18] ++ [B]).Nodup)
    (x13 : excIn K c13 excB "Exception.__new__" = true)
    (x14 : excIn K c14 excB "Exception.__new__" = true)
    (x15 : excIn K c15 excB "Exception.__new__" = true)
    (x16 : excIn K c16 excB "Exception.__new__" = true)
    (x17 : excIn K c17 excB "Exception.__new__" = true)
    (x18 : excIn K c18 excB "Exception.__new__" = true)
    : ∃ fd : FuncData, (∀ (s : Shared) (u : Value), BindsTo s fd ⟨[u], []⟩ [("_law_script", u)]) ∧ ∀ base : Heap, K.In base → base.Ns mainGlobals mg → FnG l.prog w K mg base CX0 4 fa fd ["_law_script"] (spLaw K) := by
  have e := hfa.symm.trans (mg_of X G aLaw)
  cases e
  let C : Nat → Addr := fun i => [c0, c1, c2, c3, c4, c5, c6, c7, c8, c9, c10, c11, c12, c13, c14, c15, c16, c17, c18].getD i 0
  let I : Nat → Addr := fun i => [i0, i1, i2, i3, i4, i5, i6, i7, i8, i9, i10, i11, i12].getD i 0
  have len19 : ([c0, c1, c2, c3, c4, c5, c6, c7, c8, c9, c10, c11, c12, c13, c14, c15, c16, c17, c18]).length = 19 := rfl
  have ckA : ∀ i, i < 19 → ChkE K B (C i) := fun i hi => by
    have q := List.all_eq_true.mp chk (C i) (by
      show ([c0, c1, c2, c3, c4, c5, c6, c7, c8, c9, c10, c11, c12, c13, c14, c15, c16, c17, c18]).getD i 0 ∈ _
      rw [List.getD_eq_getElem?_getD, List.getElem?_eq_getElem (by rw [len19]; exact hi), Option.getD_some]
      exact List.getElem_mem _)
    exact chk_of q
  have ndC := (List.nodup_append.mp nd)
  have inj : ∀ i j, i < 19 → j < 19 → C i = C j → i = j := fun i j hi hj e => nodup_at ndC.1 (by rw [len19]; exact hi) (by rw [len19]; exact hj) e
  have noB : ∀ i, i < 19 → C i ≠ B := fun i hi e => by
    have m : C i ∈ [c0, c1, c2, c3, c4, c5, c6, c7, c8, c9, c10, c11, c12, c13, c14, c15, c16, c17, c18] := by
      show ([c0, c1, c2, c3, c4, c5, c6, c7, c8, c9, c10, c11, c12, c13, c14, c15, c16, c17, c18]).getD i 0 ∈ _
      rw [List.getD_eq_getElem?_getD, List.getElem?_eq_getElem (by rw [len19]; exact hi), Option.getD_some]
      exact List.getElem_mem _
    exact ndC.2.2 _ m B (by simp) e
  have ecA : ∀ i, i < 19 → EC K (C i) := fun i hi => (ckA i hi).ec sp tk
  have T : Txt K mg C I B := {
    d := ⟨mg_none_of X G zlist, mg_none_of X G zint, mg_none_of X G zlen⟩
    ec := ecA
    e0 := { c := ecA 0 (by decide), fls := by unfold IsFl; simp, nf := n0, iC := j0, fn := ⟨_, _, _, _, _, _, _, _, _, _, _, _, _, l0, d0⟩ }
    e1 := { c := ecA 1 (by decide), fls := by unfold IsFl; simp, nf := n1, iC := j1, fn := ⟨_, _, _, _, _, _, _, _, _, _, _, _, _, l1, d1⟩ }
    e2 := { c := ecA 2 (by decide), fls := by unfold IsFl; simp, nf := n2, iC := j2, fn := ⟨_, _, _, _, _, _, _, _, _, _, _, _, _, l2, d2⟩ }
    e3 := { c := ecA 3 (by decide), fls := by unfold IsFl; simp, nf := n3, iC := j3, fn := ⟨_, _, _, _, _, _, _, _, _, _, _, _, _, l3, d3⟩ }
    e4 := { c := ecA 4 (by decide), fls := by unfold IsFl; simp, nf := n4, iC := j4, fn := ⟨_, _, _, _, _, _, _, _, _, _, _, _, _, l4, d4⟩ }
    e5 := { c := ecA 5 (by decide), fls := by unfold IsFl; simp, nf := n5, iC := j5, fn := ⟨_, _, _, _, _, _, _, _, _, _, _, _, _, l5, d5⟩ }
    e6 := { c := ecA 6 (by decide), fls := by unfold IsFl; simp, nf := n6, iC := j6, fn := ⟨_, _, _, _, _, _, _, _, _, _, _, _, _, l6, d6⟩ }
    e7 := { c := ecA 7 (by decide), fls := by unfold IsFl; simp, nf := n7, iC := j7, fn := ⟨_, _, _, _, _, _, _, _, _, _, _, _, _, l7, d7⟩ }
    e8 := { c := ecA 8 (by decide), fls := by unfold IsFl; simp, nf := n8, iC := j8, fn := ⟨_, _, _, _, _, _, _, _, _, _, _, _, _, l8, d8⟩ }
    e9 := { c := ecA 9 (by decide), fls := by unfold IsFl; simp, nf := n9, iC := j9, fn := ⟨_, _, _, _, _, _, _, _, _, _, _, _, _, l9, d9⟩ }
    e10 := { c := ecA 10 (by decide), fls := by unfold IsFl; simp, nf := n10, iC := j10, fn := ⟨_, _, _, _, _, _, _, _, _, _, _, _, _, l10, d10⟩ }
    e11 := { c := ecA 11 (by decide), fls := by unfold IsFl; simp, nf := n11, iC := j11, fn := ⟨_, _, _, _, _, _, _, _, _, _, _, _, _, l11, d11⟩ }
    e12 := { c := ecA 12 (by decide), fls := by unfold IsFl; simp, nf := n12, iC := j12, fn := ⟨_, _, _, _, _, _, _, _, _, _, _, _, _, l12, d12⟩ }
    b13 := ⟨ecA 13 (by decide), x13⟩
    b14 := ⟨ecA 14 (by decide), x14⟩
    b15 := ⟨ecA 15 (by decide), x15⟩
    b16 := ⟨ecA 16 (by decide), x16⟩
    b17 := ⟨ecA 17 (by decide), x17⟩
    b18 := ⟨ecA 18 (by decide), x18⟩
    m0 := mg_of X G a0
    m1 := mg_of X G a1
    m2 := mg_of X G a2
    m3 := mg_of X G a3
    m4 := mg_of X G a4
    m5 := mg_of X G a5
    m6 := mg_of X G a6
    m7 := mg_of X G a7
    m8 := mg_of X G a8
    m9 := mg_of X G a9
    m10 := mg_of X G a10
    m11 := mg_of X G a11
    m12 := mg_of X G a12
    m13 := mg_of X G a13
    m14 := mg_of X G a14
    m15 := mg_of X G a15
    m16 := mg_of X G a16
    m17 := mg_of X G a17
    m18 := mg_of X G a18
    mB := mg_of X G aB
    kC := fun i j hi hj => by
      by_cases e : i = j
      · subst e
        rw [decide_eq_true rfl]
        exact ChkE.self
      · rw [decide_eq_false e]
        exact (ckA i hi).ref (ckA j hj).isSome (ckA j hj).c10 (fun z => e (inj j i hj hi z).symm) (noB j hj)
    kB := fun i hi => (ckA i hi).base iB tB
    kX := fun i hi => (ckA i hi).typ (by decide +kernel)
    kO := fun i hi n hn => by
      have z : (others.all fun n => kitMeta n && ([Value.type "Exception", .type "BaseException", .type "object"].contains (.type n) == false)) = true := by decide +kernel
      exact (ckA i hi).typ (List.all_eq_true.mp z n hn)
    ty := fun i hi => (ckA i hi).c10
    x5 := (ckA 5 (by decide)).exm sB (by
      have q := (ckA 5 (by decide)).base iB tB
      unfold kitOne at q
      rw [if_neg (by simpa using noB 5 (by decide))] at q
      exact q)
    x0 := (ckA 0 (by decide)).exm (by rw [(ckA 0 (by decide)).mro]; rfl) (by
      unfold kitCls
      dsimp only
      rw [(ckA 0 (by decide)).isSome, (ckA 0 (by decide)).c10, if_pos (by simp), (ckA 0 (by decide)).mro]
      simp)
    isi := mg_none_of X G zisinstance
    repr := mg_none_of X G zrepr
    range := mg_none_of X G zrange
    exc := mg_none_of X G zException
    o0 := mg_none_of X G zValueError
    o1 := mg_none_of X G zTypeError
    o2 := mg_none_of X G zLookupError
    o3 := mg_none_of X G zStopIteration
    o4 := mg_none_of X G zArithmeticError
    o5 := mg_none_of X G zRuntimeError
    o6 := mg_none_of X G zAttributeError
  }
  have FDeck := fun_mk (st := sDeck) lDeck cDeck kDeck
  have bDeck := FDeck.binds (ps := ["_law_script"]) fun _ _ _ _ _ _ us hl => match us, hl with | [_], _ => rfl
  have FDraw := fun_mk (st := sDraw) lDraw cDraw kDraw
  have bDraw := FDraw.binds (ps := ["_law_deck_here", "_law_below"]) fun _ _ _ _ _ _ us hl => match us, hl with | [_, _], _ => rfl
  have FPick := fun_mk (st := sPick) lPick cPick kPick
  have bPick := FPick.binds (ps := ["_law_deck_here", "_law_some"]) fun _ _ _ _ _ _ us hl => match us, hl with | [_, _], _ => rfl
  have FIt := fun_mk (st := sIt) lIt cIt kIt
  have bIt := FIt.binds (ps := ["_law_deck_here"]) fun _ _ _ _ _ _ us hl => match us, hl with | [_], _ => rfl
  have FFirst := fun_mk (st := sFirst) lFirst cFirst kFirst
  have bFirst := FFirst.binds (ps := ["_law_number", "_law_it_here"]) fun _ _ _ _ _ _ us hl => match us, hl with | [_, _], _ => rfl
  have FLast := fun_mk (st := sLast) lLast cLast kLast
  have bLast := FLast.binds (ps := ["_law_number", "_law_it_here"]) fun _ _ _ _ _ _ us hl => match us, hl with | [_, _], _ => rfl
  have FBare := fun_mk (st := sBare) lBare cBare kBare
  have bBare := FBare.binds (ps := ["_law_number"]) fun _ _ _ _ _ _ us hl => match us, hl with | [_], _ => rfl
  have FKinds := fun_mk (st := sKinds) lKinds cKinds kKinds
  have bKinds := FKinds.binds (ps := ["_law_e"]) fun _ _ _ _ _ _ us hl => match us, hl with | [_], _ => rfl
  have FPure := fun_mk (st := sPure) lPure cPure kPure
  have bPure := FPure.binds (ps := ["_law_e", "_law_number"]) fun _ _ _ _ _ _ us hl => match us, hl with | [_, _], _ => rfl
  have FCaught := fun_mk (st := sCaught) lCaught cCaught kCaught
  have bCaught := FCaught.binds (ps := ["_law_it_here"]) fun _ _ _ _ _ _ us hl => match us, hl with | [_], _ => rfl
  have FLaw := fun_mk (st := sLaw) lLaw cLaw kLaw
  have bLaw := FLaw.binds (ps := ["_law_script"]) fun _ _ _ _ _ _ us hl => match us, hl with | [_], _ => rfl
  refine ⟨_, fun s u => .of_eq (fd := fnOf "law" "law" (defArgs sLaw) (defBody sLaw) (defScope sLaw) .none kVLaw docLaw pmLaw anLaw cdvLaw ctLaw) rfl, fun base _ _ => ?_⟩
  have GIt := ok_it (P := l.prog) (w := w) (base := base) FIt (ok_pick FPick T.d (ok_draw FDraw T.d) (mg_of X G aDraw) kDraw bDraw) (mg_of X G aPick) kPick bPick
  exact ok_law FLaw T (ok_deck FDeck T.d) ⟨mg_of X G aDeck, kDeck, bDeck⟩ GIt ⟨mg_of X G aIt, kIt, bIt⟩ (ok_law_first FFirst T) ⟨mg_of X G aFirst, kFirst, bFirst⟩ (ok_law_last FLast T) ⟨mg_of X G aLast, kLast, bLast⟩ (ok_pure FPure T (ok_kinds FKinds T) (mg_of X G aKinds) kKinds bKinds) ⟨mg_of X G aPure, kPure, bPure⟩ (ok_law_bare FBare T) ⟨mg_of X G aBare, kBare, bBare⟩ (ok_caught FCaught T) ⟨mg_of X G aCaught, kCaught, bCaught⟩
theorem walk {l : PySem.W.OpenLaw} {q : Program} {loose : List Str} {XP : (Str → Option Value) → Heap → Prop} {YP : World → Heap → Prop} {d : DefRec} {K : Params → Frag} (hn : l.most = some 63) (hdf : d.params.defaults = []) (hY : ∀ (w : World) (h : Heap), YP w h → (K w.params).In h)
    (F : ∀ (w : World) (mg : Str → Option Value) (fa : Addr) (h : Heap), (K w.params).In h → h.Ns mainGlobals mg → mg d.name = some (.ref fa) →
      ∃ fd : FuncData, (∀ (s : Shared) (u : Value), BindsTo s fd ⟨[u], []⟩ [("_law_script", u)]) ∧ ∀ base : Heap, (K w.params).In base → base.Ns mainGlobals mg → FnG l.prog w (K w.params) mg base CX0 4 fa fd ["_law_script"] (spLaw (K w.params))) : WalkO q loose XP YP l.row.toRowW d [] (fun f vs => PySem.call f vs) :=
  walkG (n := 63) (k := 4) (x := "_law_script") (CX := fun _ => CX0) (sp := fun w => spLaw (K w.params)) hn (by decide) hdf ⟨rfl, by decide, by decide⟩ hY F (fun _ _ a ns hl _ hS => ⟨a, ns, rfl, hS, hl, fun _ => rfl⟩) fun _ _ _ _ _ z => z
end KL
set_option Elab.async false
open PySem PySem.W PyProof.Rows in
set_option maxRecDepth 100000 in
set_option maxHeartbeats 0 in
theorem PySem.Challenge.cw_loghouse_k01_errors_of_any_value_holds : PySem.Challenge.rw_loghouse_k01_errors_of_any_value.Holds := by
  w_on; o_law; k_head; (case hw => w_witness2)
  k_fill
  refine KL.walk (l := PySem.Challenge.rw_loghouse_k01_errors_of_any_value) rfl rfl (fun w h Y => PySem.W.kIn_of Y) ?F
  case F =>
    intro w mg fa h KX G hmg
    refine' KL.all_mk KX G hmg ?a0 ?a1 ?a2 ?a3 ?a4 ?a5 ?a6 ?a7 ?a8 ?a9 ?a10 ?a11 ?a12 ?a13 ?a14 ?a15 ?a16 ?a17 ?a18 ?aB ?n0 ?j0 ?l0 ?d0 ?n1 ?j1 ?l1 ?d1 ?n2 ?j2 ?l2 ?d2 ?n3 ?j3 ?l3 ?d3 ?n4 ?j4 ?l4 ?d4 ?n5 ?j5 ?l5 ?d5 ?n6 ?j6 ?l6 ?d6 ?n7 ?j7 ?l7 ?d7 ?n8 ?j8 ?l8 ?d8 ?n9 ?j9 ?l9 ?d9 ?n10 ?j10 ?l10 ?d10 ?n11 ?j11 ?l11 ?d11 ?n12 ?j12 ?l12 ?d12 ?aDeck ?lDeck ?cDeck ?kDeck ?aDraw ?lDraw ?cDraw ?kDraw ?aPick ?lPick ?cPick ?kPick ?aIt ?lIt ?cIt ?kIt ?aFirst ?lFirst ?cFirst ?kFirst ?aLast ?lLast ?cLast ?kLast ?aBare ?lBare ?cBare ?kBare ?aKinds ?lKinds ?cKinds ?kKinds ?aPure ?lPure ?cPure ?kPure ?aCaught ?lCaught ?cCaught ?kCaught ?aLaw ?lLaw ?cLaw ?kLaw ?zlist ?zint ?zlen ?zisinstance ?zrepr ?zrange ?zException ?zValueError ?zTypeError ?zLookupError ?zStopIteration ?zArithmeticError ?zRuntimeError ?zAttributeError ?sp ?tk ?tB ?iB ?sB ?chk ?nd ?x13 ?x14 ?x15 ?x16 ?x17 ?x18
    (case a0 => k_is)
    (case a1 => k_is)
    (case a2 => k_is)
    (case a3 => k_is)
    (case a4 => k_is)
    (case a5 => k_is)
    (case a6 => k_is)
    (case a7 => k_is)
    (case a8 => k_is)
    (case a9 => k_is)
    (case a10 => k_is)
    (case a11 => k_is)
    (case a12 => k_is)
    (case a13 => k_is)
    (case a14 => k_is)
    (case a15 => k_is)
    (case a16 => k_is)
    (case a17 => k_is)
    (case a18 => k_is)
    (case aB => k_is)
    (case n0 => k_is)
    (case j0 => k_is)
    (case l0 => k_is)
    (case d0 => k_is)
    (case n1 => k_is)
    (case j1 => k_is)
    (case l1 => k_is)
    (case d1 => k_is)
    (case n2 => k_is)
    (case j2 => k_is)
    (case l2 => k_is)
    (case d2 => k_is)
    (case n3 => k_is)
    (case j3 => k_is)
    (case l3 => k_is)
    (case d3 => k_is)
    (case n4 => k_is)
    (case j4 => k_is)
    (case l4 => k_is)
    (case d4 => k_is)
    (case n5 => k_is)
    (case j5 => k_is)
    (case l5 => k_is)
    (case d5 => k_is)
    (case n6 => k_is)
    (case j6 => k_is)
    (case l6 => k_is)
    (case d6 => k_is)
    (case n7 => k_is)
    (case j7 => k_is)
    (case l7 => k_is)
    (case d7 => k_is)
    (case n8 => k_is)
    (case j8 => k_is)
    (case l8 => k_is)
    (case d8 => k_is)
    (case n9 => k_is)
    (case j9 => k_is)
    (case l9 => k_is)
    (case d9 => k_is)
    (case n10 => k_is)
    (case j10 => k_is)
    (case l10 => k_is)
    (case d10 => k_is)
    (case n11 => k_is)
    (case j11 => k_is)
    (case l11 => k_is)
    (case d11 => k_is)
    (case n12 => k_is)
    (case j12 => k_is)
    (case l12 => k_is)
    (case d12 => k_is)
    (case aDeck => k_is)
    (case lDeck => k_is)
    (case cDeck => k_is)
    (case kDeck => k_is)
    (case aDraw => k_is)
    (case lDraw => k_is)
    (case cDraw => k_is)
    (case kDraw => k_is)
    (case aPick => k_is)
    (case lPick => k_is)
    (case cPick => k_is)
    (case kPick => k_is)
    (case aIt => k_is)
    (case lIt => k_is)
    (case cIt => k_is)
    (case kIt => k_is)
    (case aFirst => k_is)
    (case lFirst => k_is)
    (case cFirst => k_is)
    (case kFirst => k_is)
    (case aLast => k_is)
    (case lLast => k_is)
    (case cLast => k_is)
    (case kLast => k_is)
    (case aBare => k_is)
    (case lBare => k_is)
    (case cBare => k_is)
    (case kBare => k_is)
    (case aKinds => k_is)
    (case lKinds => k_is)
    (case cKinds => k_is)
    (case kKinds => k_is)
    (case aPure => k_is)
    (case lPure => k_is)
    (case cPure => k_is)
    (case kPure => k_is)
    (case aCaught => k_is)
    (case lCaught => k_is)
    (case cCaught => k_is)
    (case kCaught => k_is)
    (case aLaw => k_is)
    (case lLaw => k_is)
    (case cLaw => k_is)
    (case kLaw => k_is)
    (case zlist => k_is)
    (case zint => k_is)
    (case zlen => k_is)
    (case zisinstance => k_is)
    (case zrepr => k_is)
    (case zrange => k_is)
    (case zException => k_is)
    (case zValueError => k_is)
    (case zTypeError => k_is)
    (case zLookupError => k_is)
    (case zStopIteration => k_is)
    (case zArithmeticError => k_is)
    (case zRuntimeError => k_is)
    (case zAttributeError => k_is)
    (case sp => k_is)
    (case tk => k_is)
    (case tB => k_is)
    (case iB => k_is)
    (case sB => k_is)
    (case chk => kernel_rfl)
    (case nd => decide +kernel)
    (case x13 => kernel_rfl)
    (case x14 => kernel_rfl)
    (case x15 => kernel_rfl)
    (case x16 => kernel_rfl)
    (case x17 => kernel_rfl)
    (case x18 => kernel_rfl)
