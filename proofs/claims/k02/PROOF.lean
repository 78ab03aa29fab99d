import PyProof.Rows.All
import Wide.All
import OpenK.AllK
import Wide.FinOn
import HandS.ForMost
import HandS.ForExc
import HandS.Style
import HandS.IsInst
import HandS.TupLe
import HandS.Zip
import PyProof.ReprRoads
import PyProof.EqAt
import PyProof.EqKinds
import HandS.Walk
import HandS.TupAny
import PyProof.NeKinds
import HandS.DictComp
import HandS.ExcInit
import HandS.ExcIs
import KE.KExcInit
import PyProof.ExcBaseAll.Exception
import PyProof.InstStoreFacts
import HandS.MakeKwOnly
import HandS.ExcValue
import HandS.ExcField
import KE.KExcIs
import HandS.Ends
import HandS.NoneIn
import HandS.Codes
import HandS.ExcOwn
import PyProof.StrLawsRepr
import PyProof.FitsInt
import HandS.TupMul
import PyProof.ListMulRoad
import PyProof.FactsAll.tuple_2
import HandS.Conv
import HandS.Small
import PyProof.Rows.IntBool
import KE.KIntText
import PyProof.Rows.StrCase
import PyProof.Rows.StrFit
import HandS.Text
import PySem.Challenge.RW_loghouse_k02_houses_of_any_value
set_option Elab.async false
set_option linter.all false
set_option maxRecDepth 100000
set_option maxHeartbeats 2000000
namespace KL
open PySem L2 PySem.Spec PyProof.Rows
/-! ### data, dicts among them -/
mutual
inductive Dq (H : Hp) : V → PyData → Prop
  | non : Dq H .non .none
  | bl (b : Bool) : Dq H (.bl b) (.bool b)
  | int (i : Int) : Dq H (.int i) (.int i)
  | str (x : Str) : Dq H (.str x) (.str x)
  | lst {a : Addr} {xs : List V} {ds : List PyData} : H a = some (.lst xs) → DqAll H xs ds → Dq H (.ref a) (.list ds)
  | tup {a : Addr} {xs : List V} {ds : List PyData} : H a = some (.tup xs) → DqAll H xs ds → Dq H (.ref a) (.tuple ds)
  | dct0 {a : Addr} : H a = some (.dK []) → Dq H (.ref a) (.dict [])
  | dct1 {a : Addr} {x : Str} {i : Int} : H a = some (.dK [(Sum.inr x, V.int i)]) → Dq H (.ref a) (.dict [(.str x, .int i)])
inductive DqAll (H : Hp) : List V → List PyData → Prop
  | nil : DqAll H [] []
  | cons {v : V} {vs : List V} {d : PyData} {ds : List PyData} : Dq H v d → DqAll H vs ds → DqAll H (v :: vs) (d :: ds)
end
mutual
theorem Dq.same {H H' : Hp} (e : Same H H') : ∀ (d : PyData) (v : V), Dq H v d → Dq H' v d
  | .none, _, h => by
    cases h
    exact .non
  | .bool _, _, h => by
    cases h
    exact .bl _
  | .int _, _, h => by
    cases h
    exact .int _
  | .str _, _, h => by
    cases h
    exact .str _
  | .list ds, _, h => by
    cases h with
    | lst q r => exact .lst (e _ _ q) (DqAll.same e ds _ r)
  | .tuple ds, _, h => by
    cases h with
    | tup q r => exact .tup (e _ _ q) (DqAll.same e ds _ r)
  | .dict kvs, _, h => by
    cases h with
    | dct0 q => exact .dct0 (e _ _ q)
    | dct1 q => exact .dct1 (e _ _ q)
theorem DqAll.same {H H' : Hp} (e : Same H H') : ∀ (ds : List PyData) (vs : List V), DqAll H vs ds → DqAll H' vs ds
  | [], _, h => by
    cases h
    exact .nil
  | d :: ds, _, h => by
    cases h with
    | cons q r => exact .cons (Dq.same e d _ q) (DqAll.same e ds _ r)
end
theorem same_new {H : Hp} {p : Addr} {o : HO} (h : H p = none) : Same H (upd H p o) := fun b u e => by
  rw [upd_ne (ne_of_none e h)]
  exact e
theorem DqAll.get {H : Hp} : ∀ (ds : List PyData) (vs : List V) (i : Nat) (v : V), DqAll H vs ds → vs[i]? = some v → ∃ d, d ∈ ds ∧ Dq H v d
  | _, _, i, v, .nil, e => by simp at e
  | _, _, 0, v, .cons (d := d) h _, e => by
    simp at e
    subst e
    exact ⟨d, by simp, h⟩
  | _, _, i + 1, v, .cons _ r, e => by
    obtain ⟨d, hd, h⟩ := DqAll.get _ _ i v r (by simpa using e)
    exact ⟨d, by simp [hd], h⟩

theorem iteNo {b : Bool} {A B : Prop} (hb : b = false) (h : B) : if b = true then A else B := by
  subst hb
  exact iteF h
theorem iteYes {b : Bool} {A B : Prop} (hb : b = true) (h : A) : if b = true then A else B := by
  subst hb
  exact iteT h
/-! ### kinds -/
def tyName : PyData → String
  | .none => "NoneType"
  | .bool _ => "bool"
  | .int _ => "int"
  | .str _ => "str"
  | .list _ => "list"
  | .tuple _ => "tuple"
  | .dict _ => "dict"
theorem Dq.ty {K : PySem.W.Frag} {H : Hp} {v : V} {d : PyData} (h : Dq H v d) : TyX K H v (.type (tyName d)) := by
  cases h with
  | non => exact .base .non
  | bl b => exact .base (.bl b)
  | int i => exact .base (.int i)
  | str x => exact .base (.str x)
  | lst e _ => exact .base (.lst e)
  | tup e _ => exact .base (.tup e)
  | dct0 e => exact .base (.dK e)
  | dct1 e => exact .base (.dK e)
/-- isinstance of data, by the name of a built-in class -/
def isA (T : String) (d : PyData) : Bool := (kitB (tyName d) T).getD false
def kinds4 : List String := ["int", "bool", "str", "tuple", "list", "dict"]
theorem kit_data {K : PySem.W.Frag} {T : String} (hT : T ∈ kinds4) (d : PyData) : PySem.W.kitOne K (.type (tyName d)) (.type T) = some (isA T d) := by
  have z : (kinds4.all fun T => ["NoneType", "bool", "int", "str", "list", "tuple", "dict"].all fun n => (kitB n T).isSome) = true := by decide +kernel
  have y := List.all_eq_true.mp z T hT
  have n : tyName d ∈ ["NoneType", "bool", "int", "str", "list", "tuple", "dict"] := by cases d <;> simp [tyName]
  have x := List.all_eq_true.mp y _ n
  obtain ⟨b, hb⟩ := Option.isSome_iff_exists.mp x
  rw [kit_ty hb]
  unfold isA
  rw [hb]
  rfl
def rIsD : List V → Hp → VK → Prop := fun xs H Q => ∃ (v : V) (d : PyData) (T : String), xs = [v, .ty T] ∧ T ∈ kinds4 ∧ Dq H v d ∧ Q (.bl (isA T d)) H
theorem call_isD {X : Cx} : CallR X (.builtin "isinstance") rIsD := fun pins s σ H xs us Q I r h => by
  obtain ⟨v, d, T, rfl, hT, hd, q⟩ := h
  exact call_isi pins s σ H _ us Q I r ⟨v, .ty T, _, _, _, rfl, .ty T, hd.ty, kit_data hT d, q⟩
end KL
set_option Elab.async false
set_option linter.all false
set_option maxRecDepth 100000
set_option maxHeartbeats 2000000
namespace KL
open PySem L2 PySem.Spec PyProof.Rows
def top (i : Nat) : Stmt := PySem.Challenge.pw_loghouse_k02_houses_of_any_value.main.body.getD i (.Pass ⟨0, 0, 0, 0⟩)
abbrev sIsInt : Stmt := top 6
abbrev sIsBet : Stmt := top 7
abbrev sIsLet : Stmt := top 8
abbrev sIsTup : Stmt := top 9
abbrev sIsAsc : Stmt := top 10
abbrev sIsForm : Stmt := top 12
/-! ### the mirror -/
def intD : PyData → Bool
  | .int _ => true
  | _ => false
def betD (lo hi : Int) : PyData → Bool
  | .int i => decide (lo ≤ i) && decide (i ≤ hi)
  | _ => false
def letS (x : Str) : Bool := decide (x.length = 1) && (!decide (x.cps.toList < ("a" : Str).cps.toList) && !decide (("z" : Str).cps.toList < x.cps.toList))
def letD : PyData → Bool
  | .str x => letS x
  | _ => false
def tupD (lo hi : Int) : PyData → Bool
  | .tuple ds => decide (lo ≤ (ds.length : Int)) && decide ((ds.length : Int) ≤ hi)
  | _ => false
mutual
/-- sizes that nothing here comes near to -/
def smB : PyData → Bool
  | .none => true
  | .bool _ => true
  | .int i => decide (i.natAbs.log2 < 1900)
  | .str x => decide (x.length ≤ 1000)
  | .list ds => decide (ds.length ≤ 1000) && smAll ds
  | .tuple ds => decide (ds.length ≤ 1000) && smAll ds
  | .dict kvs => decide (kvs.length ≤ 1)
def smAll : List PyData → Bool
  | [] => true
  | d :: r => smB d && smAll r
end
/-- a test of one thing -/
def spTest (f : PyData → Bool) : Sp := fun vs H Q _ => ∃ (v : V) (d : PyData), vs = [v] ∧ Dq H v d ∧ smB d = true ∧ ∀ H', Same H H' → Q (.bl (f d)) H'
/-- a test of one thing with two numbers -/
def spTest2 (f : Int → Int → PyData → Bool) : Sp := fun vs H Q _ => ∃ (v : V) (d : PyData) (lo hi : Int), vs = [v, .int lo, .int hi] ∧ Dq H v d ∧ smB d = true ∧ ∀ H', Same H H' → Q (.bl (f lo hi d)) H'
structure TxtB (mg : Str → Option Value) : Prop where
  isi : mg "isinstance" = none
  int : mg "int" = none
  bool : mg "bool" = none
  str : mg "str" = none
  tuple : mg "tuple" = none
  len : mg "len" = none
  all : mg "all" = none
  zip : mg "zip" = none
/-- a def of the module, called by its name -/
structure Cal (K : PySem.W.Frag) (mg : Str → Option Value) (x : Str) (f : Addr) (fd : FuncData) (ps : List Str) : Prop where
  m : mg x = some (.ref f)
  k : PySem.W.keepIn K (.ref f) = true
  b : L2.Binds K fd ps []
section
variable {P : Program} {w : World} {K : PySem.W.Frag} {mg : Str → Option Value} {base : Heap}
theorem scIsInt : FnScope ["thing"] ["thing"] (defScope sIsInt) := ⟨rfl, rfl, rfl, by decide +kernel, rfl, by decide +kernel, by decide +kernel⟩
theorem ok_int {f : Addr} {fd : FuncData} (F : Fun K "is_int" "is_int" sIsInt f fd) (T : TxtB mg) : FnOk P w K mg base CX0 1 f fd ["thing"] (spTest intD) := by
  refine F.ok scIsInt (fun vs H Q E h => ?_) (fun cdv A outer s H vs Q E hr h => ?_)
  · obtain ⟨v, d, rfl, _⟩ := h
    rfl
  · obtain ⟨v, d, rfl, hd, _, k⟩ := h
    refine ⟨_, pss_one (ps_ret (pe_and (pe_callB call_isD (by rfl) T.isi (by decide +kernel) (pa_cons (pv 0) (pa_cons (pe_bltn (v := .ty "int") (by rfl) T.int (by decide +kernel) rfl) pa_nil)))
      (pe_one (pe_not (pe_callB call_isD (by rfl) T.isi (by decide +kernel) (pa_cons (pv 0) (pa_cons (pe_bltn (v := .ty "bool") (by rfl) T.bool (by decide +kernel) rfl) pa_nil))))))), ?_⟩
    have q := k H (Same.refl H)
    refine ⟨_, rfl, v, d, "int", rfl, by decide, hd, _, rfl, ?_⟩
    cases d <;> first | exact q | exact ⟨_, rfl, v, _, "bool", rfl, by decide, hd, _, rfl, q⟩
theorem scIsBet : FnScope ["thing", "low", "high"] ["thing", "low", "high"] (defScope sIsBet) := ⟨rfl, rfl, rfl, by decide +kernel, rfl, by decide +kernel, by decide +kernel⟩
theorem ok_bet {f g : Addr} {fd gd : FuncData} (F : Fun K "is_between" "is_between" sIsBet f fd) (T : TxtB mg) (G : FnOk P w K mg base CX0 1 g gd ["thing"] (spTest intD)) (c : Cal K mg "is_int" g gd ["thing"]) : FnOk P w K mg base CX0 2 f fd ["thing", "low", "high"] (spTest2 betD) := by
  refine F.ok scIsBet (fun vs H Q E h => ?_) (fun cdv A outer s H vs Q E hr h => ?_)
  · obtain ⟨v, d, lo, hi, rfl, _⟩ := h
    rfl
  · obtain ⟨v, d, lo, hi, rfl, hd, sm, k⟩ := h
    refine ⟨_, pss_one (ps_ret (pe_and (pe_call G hr (by rfl) c.m c.k c.b .nil pass0 (pa_cons (pv 0) pa_nil)) (pe_one (pe_chain op_le op_le (pv 1) (pv 0) (pv 2))))), ?_⟩
    refine ⟨_, rfl, v, d, rfl, hd, sm, fun H1 S1 => ⟨_, rfl, ?_⟩⟩
    have q := k H1 S1
    cases hd with
    | int i =>
      refine ⟨_, rfl, _, rfl, _, _, rfl, rfl, _, rfl, ?_⟩
      by_cases h1 : lo ≤ i
      · refine iteYes (decide_eq_true h1) ⟨_, rfl, _, _, rfl, rfl, ?_⟩
        have e : betD lo hi (.int i) = decide (i ≤ hi) := by simp [betD, h1]
        rw [e] at q
        exact q
      · refine iteNo (decide_eq_false h1) ?_
        have e : betD lo hi (.int i) = false := by simp [betD, h1]
        rw [e] at q
        exact q
    | non => exact q
    | bl _ => exact q
    | str _ => exact q
    | lst _ _ => exact q
    | tup _ _ => exact q
    | dct0 _ => exact q
    | dct1 _ => exact q
theorem scIsLet : FnScope ["thing"] ["thing"] (defScope sIsLet) := ⟨rfl, rfl, rfl, by decide +kernel, rfl, by decide +kernel, by decide +kernel⟩
theorem ok_let {f : Addr} {fd : FuncData} (F : Fun K "is_letter" "is_letter" sIsLet f fd) (T : TxtB mg) : FnOk P w K mg base CX0 1 f fd ["thing"] (spTest letD) := by
  refine F.ok scIsLet (fun vs H Q E h => ?_) (fun cdv A outer s H vs Q E hr h => ?_)
  · obtain ⟨v, d, rfl, _⟩ := h
    rfl
  · obtain ⟨v, d, rfl, hd, sm, k⟩ := h
    refine ⟨_, pss_one (ps_ret (pe_and (pe_callB call_isD (by rfl) T.isi (by decide +kernel) (pa_cons (pv 0) (pa_cons (pe_bltn (v := .ty "str") (by rfl) T.str (by decide +kernel) rfl) pa_nil)))
      (pe_and (pe_cmpR op_eq (pe_callB call_len_str (by rfl) T.len PySem.boot_len (pa_cons (pv 0) pa_nil)) pe_int (nomark _)) (pe_one (pe_chain op_le_str op_le_str pe_str (pv 0) pe_str))))), ?_⟩
    have q := k H (Same.refl H)
    refine ⟨_, rfl, v, d, "str", rfl, by decide, hd, _, rfl, ?_⟩
    cases hd with
    | str x =>
      have hx : x.length ≤ 1000 := of_decide_eq_true sm
      refine ⟨_, rfl, x, rfl, Nat.le_trans hx (by rw [sizeLine_eq]; omega), rfl, _, rfl, ?_⟩
      by_cases h1 : x.length = 1
      · refine iteYes (decide_eq_true (by rw [h1]; rfl)) ⟨_, rfl, _, _, rfl, rfl, _, rfl, ?_⟩
        by_cases h2 : x.cps.toList < ("a" : Str).cps.toList
        · refine iteNo (by rw [decide_eq_true h2]; rfl) ?_
          have e : letD (.str x) = false := by simp [letD, letS, h2]
          rw [e] at q
          exact q
        · refine iteYes (by rw [decide_eq_false h2]; rfl) ⟨_, _, rfl, rfl, ?_⟩
          have e : letD (.str x) = !decide (("z" : Str).cps.toList < x.cps.toList) := by
            show (decide (x.length = 1) && (!decide (x.cps.toList < ("a" : Str).cps.toList) && !decide (("z" : Str).cps.toList < x.cps.toList))) = _
            rw [decide_eq_true h1, decide_eq_false h2]
            rfl
          rw [e] at q
          exact q
      · refine iteNo (decide_eq_false fun z => ?_) ?_
        · injection z with z
          omega
        · have e : letD (.str x) = false := by simp [letD, letS, h1]
          rw [e] at q
          exact q
    | non => exact q
    | bl _ => exact q
    | int _ => exact q
    | lst _ _ => exact q
    | tup _ _ => exact q
    | dct0 _ => exact q
    | dct1 _ => exact q
theorem scIsTup : FnScope ["thing", "low", "high"] ["thing", "low", "high"] (defScope sIsTup) := ⟨rfl, rfl, rfl, by decide +kernel, rfl, by decide +kernel, by decide +kernel⟩
theorem ok_tup {f : Addr} {fd : FuncData} (F : Fun K "is_tuple_of" "is_tuple_of" sIsTup f fd) (T : TxtB mg) : FnOk P w K mg base CX0 1 f fd ["thing", "low", "high"] (spTest2 tupD) := by
  refine F.ok scIsTup (fun vs H Q E h => ?_) (fun cdv A outer s H vs Q E hr h => ?_)
  · obtain ⟨v, d, lo, hi, rfl, _⟩ := h
    rfl
  · obtain ⟨v, d, lo, hi, rfl, hd, sm, k⟩ := h
    refine ⟨_, pss_one (ps_ret (pe_and (pe_callB call_isD (by rfl) T.isi (by decide +kernel) (pa_cons (pv 0) (pa_cons (pe_bltn (v := .ty "tuple") (by rfl) T.tuple (by decide +kernel) rfl) pa_nil)))
      (pe_one (pe_chain op_le op_le (pv 1) (pe_callB call_len_seq (by rfl) T.len PySem.boot_len (pa_cons (pv 0) pa_nil)) (pv 2))))), ?_⟩
    have q := k H (Same.refl H)
    refine ⟨_, rfl, v, d, "tuple", rfl, by decide, hd, _, rfl, ?_⟩
    cases hd with
    | tup e ha =>
      rename_i a xs ds
      have el : xs.length = ds.length := by
        clear q k sm e
        induction ds generalizing xs with
        | nil => cases ha; rfl
        | cons _ _ ih =>
          cases ha with
          | cons _ r => exact congrArg (· + 1) (ih r)
      refine ⟨_, rfl, _, rfl, a, xs, rfl, .inr (SqT.of e), _, _, rfl, rfl, _, rfl, ?_⟩
      rw [el]
      by_cases h1 : lo ≤ (ds.length : Int)
      · refine iteYes (decide_eq_true h1) ⟨_, rfl, _, _, rfl, rfl, ?_⟩
        have e : tupD lo hi (.tuple ds) = decide ((ds.length : Int) ≤ hi) := by simp [tupD, h1]
        rw [e] at q
        exact q
      · refine iteNo (decide_eq_false h1) ?_
        have e : tupD lo hi (.tuple ds) = false := by simp [tupD, h1]
        rw [e] at q
        exact q
    | non => exact q
    | bl _ => exact q
    | int _ => exact q
    | str _ => exact q
    | lst _ _ => exact q
    | dct0 _ => exact q
    | dct1 _ => exact q
end
end KL
set_option Elab.async false
set_option linter.all false
set_option maxRecDepth 100000
set_option maxHeartbeats 2000000
namespace KL
open PySem L2 PySem.Spec PyProof.Rows
theorem DqAll.len {H : Hp} : ∀ {ds : List PyData} {xs : List V}, DqAll H xs ds → xs.length = ds.length
  | [], _, h => by
    cases h
    rfl
  | _ :: _, _, h => by
    cases h with
    | cons _ r => exact congrArg (· + 1) (DqAll.len r)
theorem DqAll.at {H : Hp} : ∀ {ds : List PyData} {xs : List V} {i : Nat} {x : V}, DqAll H xs ds → xs[i]? = some x → ∃ d, ds[i]? = some d ∧ Dq H x d
  | [], _, i, x, h, e => by
    cases h
    simp at e
  | d :: ds, _, 0, x, h, e => by
    cases h with
    | cons q _ =>
      simp at e
      subst e
      exact ⟨d, rfl, q⟩
  | d :: ds, _, i + 1, x, h, e => by
    cases h with
    | cons _ r =>
      obtain ⟨d', h1, h2⟩ := DqAll.at r (by simpa using e)
      exact ⟨d', by simpa using h1, h2⟩
theorem sm_at : ∀ {ds : List PyData} {i : Nat} {d : PyData}, smAll ds = true → ds[i]? = some d → smB d = true
  | [], i, d, _, e => by simp at e
  | d :: ds, 0, d', h, e => by
    simp at e
    subst e
    exact (Bool.and_eq_true_iff.mp h).1
  | d :: ds, i + 1, d', h, e => sm_at (Bool.and_eq_true_iff.mp h).2 (by simpa using e)
/-- what a comprehension over data has made so far -/
def MadeTo (H0 : Hp) (D : Addr) (bs : List V) (H : Hp) : Prop := Same H0 H ∧ H D = some (.lst bs)
theorem MadeTo.more {H0 H H' : Hp} {D : Addr} {bs : List V} (b : V) (hD : H0 D = none) (M : MadeTo H0 D bs H) (S : Same H H') : H' D = some (.lst bs) ∧ MadeTo H0 D (bs ++ [b]) (upd H' D (.lst (bs ++ [b]))) := by
  refine ⟨S _ _ M.2, fun x o e => ?_, upd_same⟩
  have nx : x ≠ D := fun z => by
    rw [z, hD] at e
    cases e
  rw [upd_ne nx]
  exact S _ _ (M.1 _ _ e)
theorem take_map {β : Type} {g : PyData → β} {ds : List PyData} {i : Nat} {d : PyData} (h : ds[i]? = some d) : (ds.take (i + 1)).map g = (ds.take i).map g ++ [g d] := by
  rw [List.take_add_one, h, List.map_append]
  rfl
theorem sm_len {ds : List PyData} (h : smB (.tuple ds) = true) : ds.length ≤ 1000 := of_decide_eq_true (Bool.and_eq_true_iff.mp h).1
theorem sm_all {ds : List PyData} (h : smB (.tuple ds) = true) : smAll ds = true := (Bool.and_eq_true_iff.mp h).2
theorem take_size {β : Type} {g : PyData → β} {j : β → V} {ds : List PyData} (i : Nat) (h : ds.length ≤ 1000) : (((ds.take i).map g).map j).length < sizeLine := by
  rw [List.length_map, List.length_map, List.length_take]
  exact Nat.lt_of_le_of_lt (Nat.le_trans (Nat.min_le_right _ _) h) (by rw [sizeLine_eq]; omega)
/-- one more turn of a comprehension over data that makes truth values -/
theorem MadeTo.turn {H0 H H' : Hp} {D : Addr} {g : PyData → Bool} {ds : List PyData} {i : Nat} {d : PyData} (hD : H0 D = none) (M : MadeTo H0 D (((ds.take i).map g).map V.bl) H) (S : Same H H') (hl : ds.length ≤ 1000) (h : ds[i]? = some d) :
    ∃ acc, H' D = some (.lst acc) ∧ acc.length < sizeLine ∧ MadeTo H0 D (((ds.take (i + 1)).map g).map V.bl) (upd H' D (.lst (acc ++ [.bl (g d)]))) := by
  have m := M.more (.bl (g d)) hD S
  refine ⟨_, m.1, take_size i hl, ?_⟩
  rw [take_map h, List.map_append]
  exact m.2
def formD (n : Int) : PyData → Bool
  | .tuple ds => decide ((ds.length : Int) = n + 1) && ds.all intD
  | _ => false
def spForm : Sp := fun vs H Q _ => ∃ (v : V) (d : PyData) (n : Int), vs = [.int n, v] ∧ Dq H v d ∧ smB d = true ∧ ∀ H', Same H H' → Q (.bl (formD n d)) H'
section
variable {P : Program} {w : World} {K : PySem.W.Frag} {mg : Str → Option Value} {base : Heap}
theorem scIsForm : FnScope ["count", "thing", "item"] ["count", "thing"] (defScope sIsForm) := ⟨rfl, rfl, rfl, by decide +kernel, rfl, by decide +kernel, by decide +kernel⟩
theorem ok_form {f g1 g2 : Addr} {fd gd1 gd2 : FuncData} (F : Fun K "is_form" "is_form" sIsForm f fd) (T : TxtB mg) (G1 : FnOk P w K mg base CX0 1 g1 gd1 ["thing"] (spTest intD)) (c1 : Cal K mg "is_int" g1 gd1 ["thing"])
    (G2 : FnOk P w K mg base CX0 1 g2 gd2 ["thing", "low", "high"] (spTest2 tupD)) (c2 : Cal K mg "is_tuple_of" g2 gd2 ["thing", "low", "high"]) : FnOk P w K mg base CX0 2 f fd ["count", "thing"] spForm := by
  refine F.ok scIsForm (fun vs H Q E h => ?_) (fun cdv A outer s H vs Q E hr h => ?_)
  · obtain ⟨v, d, n, rfl, _⟩ := h
    rfl
  · obtain ⟨v, d, n, rfl, hd, sm, k⟩ := h
    refine ⟨_, pss_one (ps_ret (pe_and (pe_call G2 hr (by rfl) c2.m c2.k c2.b .nil pass0 (pa_cons (pv 1) (pa_cons (pe_op op_add (pv 0) pe_int) (pa_cons (pe_op op_add (pv 0) pe_int) pa_nil))))
      (pe_one (pe_callB (cr_all rfl) (by rfl) T.all (by decide +kernel) (pa_cons (pe_lc (own := [("item", 2)]) (g := gName 2) (tt := tYes) rfl scIsForm.nd (pi_tup (pv 1)) (blkOk_by (N := ["count", "thing", "item"]) (sc := defScope sIsForm) (by decide +kernel)) (fun _ _ _ _ _ => pg_name (i := 2) scIsForm.nd rfl (.inl rfl)) (fun _ _ _ _ _ => pts_nil)
        (fun _ _ _ _ _ => pe_call G1 hr (by rfl) c1.m c1.k c1.b .nil pass0 (pa_cons (pv 2) pa_nil))) pa_nil))))), ?_⟩
    refine ⟨_, rfl, _, rfl, _, _, rfl, rfl, _, rfl, _, _, rfl, rfl, v, d, _, _, rfl, hd, sm, fun H1 S1 => ⟨_, rfl, ?_⟩⟩
    have hd1 := Dq.same S1 d v hd
    have q := k H1 S1
    cases hd with
    | tup e ha =>
      rename_i a xs ds
      have smA : smAll ds = true := (Bool.and_eq_true_iff.mp sm).2
      have len := ha.len
      by_cases hn : (ds.length : Int) = n + 1
      · refine iteYes (by simp [tupD, hn]) ?_
        refine ⟨_, rfl, a, rfl, ⟨_, SqT.of (S1 _ _ e)⟩, fun D nD => ?_⟩
        refine lc_tup (K := K) (a := a) (xs := xs) (fun i H2 => MadeTo H1 D (((ds.take i).map intD).map V.bl) H2) ⟨same_new nD, upd_same⟩ (fun i H2 _ M => SqT.of (M.1 _ _ (S1 _ _ e))) ?_ ?_
        · rintro i x H2 hx M
          obtain ⟨d', hd', hq⟩ := DqAll.at ha hx
          refine ⟨rfl, ?_⟩
          refine ⟨_, rfl, x, d', rfl, Dq.same (S1.trans M.1) d' x hq, sm_at smA hd', fun H3 S3 => ?_⟩
          exact M.turn nD S3 (sm_len sm) hd'
        · rintro H2 M
          rw [len, List.take_length] at M
          refine ⟨D, _, rfl, SqL.of M.2, ?_⟩
          have e : formD n (.tuple ds) = (ds.map intD).all id := by simp [formD, hn, List.all_map]
          have q := k H2 (S1.trans M.1)
          rw [e] at q
          exact q
      · refine iteNo (by simp [tupD]; omega) ?_
        have e : formD n (.tuple ds) = false := by simp [formD, hn]
        rw [e] at q
        exact q
    | non => exact q
    | bl _ => exact q
    | int _ => exact q
    | str _ => exact q
    | lst _ _ => exact q
    | dct0 _ => exact q
    | dct1 _ => exact q
end
end KL
set_option Elab.async false
set_option linter.all false
set_option maxRecDepth 100000
set_option maxHeartbeats 2000000
namespace KL
open PySem L2 PySem.Spec PyProof.Rows
mutual
/-- x < y of two things of one shape -/
def ltD : PyData → PyData → Bool
  | .int i, .int j => decide (i < j)
  | .str x, .str y => decide (x.cps.toList < y.cps.toList)
  | .tuple xs, .tuple ys => ltAll xs ys
  | _, _ => false
def ltAll : List PyData → List PyData → Bool
  | [], [] => false
  | [], _ :: _ => true
  | _ :: _, [] => false
  | x :: xs, y :: ys => if PyData.eqv x y = true then ltAll xs ys else ltD x y
end
mutual
/-- whether they can be compared -/
def cmpD : PyData → PyData → Bool
  | .int _, .int _ => true
  | .str _, .str _ => true
  | .tuple xs, .tuple ys => cmpAll xs ys
  | _, _ => false
def cmpAll : List PyData → List PyData → Bool
  | x :: xs, y :: ys => cmpD x y && cmpAll xs ys
  | _, _ => true
end
theorem lexAt_shift (e r : Nat → Bool) (z : Bool) : ∀ (k i : Nat), Ob.lexAt e r z (i + 1) k = Ob.lexAt (fun j => e (j + 1)) (fun j => r (j + 1)) z i k
  | 0, _ => rfl
  | k + 1, i => by
    rw [Ob.lexAt_succ, Ob.lexAt_succ, lexAt_shift e r z k (i + 1)]
def peq (xs ys : List PyData) (j : Nat) : Bool := PyData.eqv (xs.getD j .none) (ys.getD j .none)
theorem lex_all : ∀ (xs ys : List PyData), Ob.lexAt (peq xs ys) (fun j => ltD (xs.getD j .none) (ys.getD j .none)) (decide (xs.length < ys.length)) 0 (min xs.length ys.length) = ltAll xs ys
  | [], [] => rfl
  | [], _ :: _ => by simp [Ob.lexAt_zero, ltAll]
  | _ :: _, [] => by simp [Ob.lexAt_zero, ltAll]
  | x :: xs, y :: ys => by
    have m : min (x :: xs).length (y :: ys).length = min xs.length ys.length + 1 := by
      rw [List.length_cons, List.length_cons]
      omega
    rw [m, Ob.lexAt_succ, lexAt_shift]
    have z : decide ((x :: xs).length < (y :: ys).length) = decide (xs.length < ys.length) := by
      rw [List.length_cons, List.length_cons]
      by_cases q : xs.length < ys.length
      · rw [decide_eq_true q, decide_eq_true (by omega)]
      · rw [decide_eq_false q, decide_eq_false (by omega)]
    rw [z]
    show (if PyData.eqv x y = true then Ob.lexAt (peq xs ys) (fun j => ltD (xs.getD j .none) (ys.getD j .none)) (decide (xs.length < ys.length)) 0 (min xs.length ys.length) else ltD x y) = ltAll (x :: xs) (y :: ys)
    rw [lex_all xs ys, ltAll]
theorem reads_at {h : Heap} : ∀ {us : List Value} {ds : List PyData} {as : List Addr}, ReadsAll h us ds as → ∀ (j : Nat) (hj : j < us.length), ∃ bs, Reads h us[j] (ds.getD j .none) bs
  | _, _, _, .nil, j, hj => absurd hj (Nat.not_lt_zero _)
  | _, _, _, .cons r _, 0, _ => ⟨_, r⟩
  | _, _, _, .cons _ rs, j + 1, hj => reads_at rs j (Nat.lt_of_succ_lt_succ hj)
theorem reads_len {h : Heap} : ∀ {us : List Value} {ds : List PyData} {as : List Addr}, ReadsAll h us ds as → us.length = ds.length
  | _, _, _, .nil => rfl
  | _, _, _, .cons _ rs => congrArg (· + 1) (reads_len rs)
theorem lay_at : ∀ {ds : List PyData} (j : Nat), PyData.canLayAll0 ds = true → (ds.getD j .none).canLay0 = true
  | [], j, _ => by simp [PyData.canLay0]
  | d :: ds, 0, h => (Bool.and_eq_true_iff.mp h).1
  | d :: ds, j + 1, h => lay_at (ds := ds) j (Bool.and_eq_true_iff.mp h).2
theorem cmp_at : ∀ {xs ys : List PyData} (j : Nat), cmpAll xs ys = true → j < xs.length → j < ys.length → cmpD (xs.getD j .none) (ys.getD j .none) = true
  | [], _, _, _, h, _ => absurd h (Nat.not_lt_zero _)
  | _ :: _, [], _, _, _, h => absurd h (Nat.not_lt_zero _)
  | x :: xs, y :: ys, 0, h, _, _ => (Bool.and_eq_true_iff.mp (show (cmpD x y && cmpAll xs ys) = true from h)).1
  | x :: xs, y :: ys, j + 1, h, h1, h2 => cmp_at (xs := xs) (ys := ys) j (Bool.and_eq_true_iff.mp (show (cmpD x y && cmpAll xs ys) = true from h)).2 (Nat.lt_of_succ_lt_succ h1) (Nat.lt_of_succ_lt_succ h2)
theorem depth_at : ∀ {ds : List PyData} (j : Nat), (ds.getD j .none).depth ≤ PyData.depthAll ds
  | [], j => by simp [PyData.depth]
  | d :: ds, 0 => by
    show d.depth ≤ max d.depth (PyData.depthAll ds)
    omega
  | d :: ds, j + 1 => by
    have := depth_at (ds := ds) j
    show (ds.getD j .none).depth ≤ max d.depth (PyData.depthAll ds)
    omega
/-- x < y of two things that can be compared -/
theorem lt_data : ∀ (n : Nat) (d e : PyData) (A : Around) (s : Shared) (a b : Value) (as bs : List Addr), d.depth ≤ n → Reads s.heap a d as → Reads s.heap b e bs → d.canLay0 = true → e.canLay0 = true → cmpD d e = true → A.units + n < cLine → Ob.RcOp .Lt A s a b (ltD d e)
  | n, .int i, e, A, s, a, b, as, bs, hn, ra, rb, la, lb, c, hu => by
    cases ra
    cases rb <;> first | exact Ob.RcOp.lt_int _ _ _ _ | (exfalso; simp [cmpD] at c)
  | n, .str x, e, A, s, a, b, as, bs, hn, ra, rb, la, lb, c, hu => by
    cases ra
    cases rb with
    | str y t => exact fun _ _ _ _ h => lt_str h
    | _ => exfalso; simp [cmpD] at c
  | n + 1, .tuple xs, .tuple ys, A, s, _, _, _, _, hn, .tuple (a := l) (vs := us) h1 h2 h3 h4, .tuple (a := l') (vs := ws) k1 k2 k3 k4, la, lb, c, hu => by
    have hd : PyData.depthAll xs ≤ n := by
      have : PyData.depthAll xs + 1 ≤ n + 1 := hn
      omega
    have R := Ob.RcOp.tuples_lt (A := A) (s := s) (e := peq xs ys) (r := fun j => ltD (xs.getD j .none) (ys.getD j .none)) (l := l) (b := l') (items := us) (items2 := ws) ⟨_, h1, h2, _, h3⟩ ⟨_, k1, k2, _, k3⟩ (by omega)
      (fun j j1 j2 => by
        obtain ⟨_, q1⟩ := reads_at h4 j (by simpa using j1)
        obtain ⟨_, q2⟩ := reads_at k4 j (by simpa using j2)
        have q := SeqAt.eqAt_reads _ _ A.in1 s _ _ _ _ q1 q2 (lay_at j la) (lay_at j lb) (by
          have := depth_at (ds := xs) j
          show A.units + 1 + _ < _
          omega)
        simpa [peq] using q)
      (fun j j1 j2 _ => by
        obtain ⟨_, q1⟩ := reads_at h4 j (by simpa using j1)
        obtain ⟨_, q2⟩ := reads_at k4 j (by simpa using j2)
        have l1 : us.size = xs.length := by rw [← reads_len h4]; simp
        have l2 : ws.size = ys.length := by rw [← reads_len k4]; simp
        have q := lt_data n _ _ A.in1 s _ _ _ _ (Nat.le_trans (depth_at j) hd) q1 q2 (lay_at j la) (lay_at j lb) (cmp_at j c (by omega) (by omega)) (by show A.units + 1 + n < cLine; omega)
        simpa using q)
    have l1 : us.size = xs.length := by rw [← reads_len h4]; simp
    have l2 : ws.size = ys.length := by rw [← reads_len k4]; simp
    rw [l1, l2, lex_all] at R
    exact R
  | _, .none, _, _, _, _, _, _, _, _, _, _, _, _, c, _ => by simp [cmpD] at c
  | _, .bool _, _, _, _, _, _, _, _, _, _, _, _, _, c, _ => by simp [cmpD] at c
  | _, .list _, _, _, _, _, _, _, _, _, _, _, _, _, c, _ => by simp [cmpD] at c
  | _, .dict _, _, _, _, _, _, _, _, _, _, _, _, _, c, _ => by simp [cmpD] at c
  | 0, .tuple xs, _, _, _, _, _, _, _, hn, _, _, _, _, _, _ => by
    have : PyData.depthAll xs + 1 ≤ 0 := hn
    omega
  | _ + 1, .tuple _, .none, _, _, _, _, _, _, _, _, _, _, _, c, _ => by simp [cmpD] at c
  | _ + 1, .tuple _, .bool _, _, _, _, _, _, _, _, _, _, _, _, c, _ => by simp [cmpD] at c
  | _ + 1, .tuple _, .int _, _, _, _, _, _, _, _, _, _, _, _, c, _ => by simp [cmpD] at c
  | _ + 1, .tuple _, .str _, _, _, _, _, _, _, _, _, _, _, _, c, _ => by simp [cmpD] at c
  | _ + 1, .tuple _, .list _, _, _, _, _, _, _, _, _, _, _, _, c, _ => by simp [cmpD] at c
  | _ + 1, .tuple _, .dict _, _, _, _, _, _, _, _, _, _, _, _, c, _ => by simp [cmpD] at c
end KL
set_option Elab.async false
set_option linter.all false
set_option maxRecDepth 100000
set_option maxHeartbeats 2000000
namespace KL
open PySem L2 PySem.Spec PyProof.Rows
section
variable {X : Cx} {pins : List (Addr × Obj)} {σ : L2.St} {H : Hp} {s : Shared}
mutual
theorem Dq.reads0 (I : Inv X pins σ H s) : ∀ (d : PyData) (v : V) (u : Value), Dq H v d → d.canLay0 = true → RelV v u → ∃ as, Reads s.heap u d as
  | .none, _, _, h, _, r => by
    cases h
    cases r
    exact ⟨_, .none⟩
  | .bool b, _, _, h, _, r => by
    cases h
    cases r
    exact ⟨_, .bool b⟩
  | .int i, _, _, h, _, r => by
    cases h
    obtain ⟨t, rfl⟩ := r
    exact ⟨_, .int i t⟩
  | .str x, _, _, h, _, r => by
    cases h
    obtain ⟨t, rfl⟩ := r
    exact ⟨_, .str x t⟩
  | .list ds, _, _, h, l, r => by
    cases h with
    | lst q ha =>
      cases r
      obtain ⟨_, its, n, rv, ho⟩ := I.hok _ _ q
      obtain ⟨as, hr⟩ := DqAll.reads0 I ds _ its ha l rv
      exact ⟨_, .list ho rfl rfl hr⟩
  | .tuple ds, _, _, h, l, r => by
    cases h with
    | tup q ha =>
      cases r
      obtain ⟨_, its, rv, o, h1, h2, n, h3⟩ := I.hok _ _ q
      obtain ⟨as, hr⟩ := DqAll.reads0 I ds _ its ha l rv
      exact ⟨_, .tuple h1 h2 h3 hr⟩
  | .dict _, _, _, _, l, _ => by simp [PyData.canLay0] at l
theorem DqAll.reads0 (I : Inv X pins σ H s) : ∀ (ds : List PyData) (vs : List V) (us : List Value), DqAll H vs ds → PyData.canLayAll0 ds = true → Vals vs us → ∃ as, ReadsAll s.heap us ds as
  | [], _, _, h, _, r => by
    cases h
    cases r
    exact ⟨_, .nil⟩
  | d :: ds, _, _, h, l, r => by
    cases h with
    | cons h1 h2 =>
      cases r with
      | cons r1 r2 =>
        have l' := Bool.and_eq_true_iff.mp (show (d.canLay0 && PyData.canLayAll0 ds) = true from l)
        obtain ⟨as, q1⟩ := Dq.reads0 I d _ _ h1 l'.1 r1
        obtain ⟨bs, q2⟩ := DqAll.reads0 I ds _ _ h2 l'.2 r2
        exact ⟨_, .cons q1 q2⟩
end
end
/-- x < y of data -/
def rLtD : R2 := fun x y H Q => ∃ d e, Dq H x d ∧ Dq H y e ∧ d.canLay0 = true ∧ e.canLay0 = true ∧ cmpD d e = true ∧ d.depth ≤ 20 ∧ Q (.bl (ltD d e)) H
theorem op_ltD {X : Cx} (hu : X.A.units + 64 < cLine) : OpR X (compareOp .Lt) rLtD := by
  intro pins s σ H x y v u Q I rx ry h
  obtain ⟨d, e, hd, he, ld, le, c, hn, q⟩ := h
  obtain ⟨as, r1⟩ := Dq.reads0 I d x v hd ld rx
  obtain ⟨bs, r2⟩ := Dq.reads0 I e y u he le ry
  exact lt_data 20 d e X.A s v u as bs hn r1 r2 ld le c (by omega) _ _ _ _ ⟨.bl (ltD d e), H, I, rfl, q⟩
theorem walk_zipT {K : PySem.W.Frag} {a b : Addr} {xs ys : List V} {n : Nat} (hn : n = min xs.length ys.length) : Walk (RZ.ItzT K a b) n (fun H => SqT K H a xs ∧ SqT K H b ys) (YPair (fun i => xs[i]?) (fun i => ys[i]?)) := by
  subst hn
  refine ⟨fun i _ hi q => ?_, fun _ q => ⟨xs, ys, q.1, q.2, by omega⟩, fun i H v H' _ q y => ?_⟩
  · have h1 : i < xs.length := by omega
    have h2 : i < ys.length := by omega
    exact ⟨xs, ys, xs[i], ys[i], q.1, q.2, by simp [h1], by simp [h2]⟩
  · obtain ⟨T, x, z, h1, h2, h3, h4, h5⟩ := y
    exact ⟨T, x, z, h1, h2, h3, h4 xs q.1, h5 ys q.2⟩
def ascTo (ds : List PyData) (j : Nat) : List Bool := (List.range j).map fun i => ltD (ds.getD i .none) (ds.getD (i + 1) .none)
def ascD (ds : List PyData) : Bool := (ascTo ds (ds.length - 1)).all id
/-- a slice of a list or of a tuple -/
def rSlX (K : PySem.W.Frag) : V → Option Int → Option Int → Hp → VK → Prop := fun x lo hi H Q => rSlL K x lo hi H Q ∨ rSlA K x lo hi H Q
theorem sl_any {X : Cx} : SlR X (rSlX X.K) := by
  intro pins s σ H x v vl vu lo hi sl Q I rx hs pl pu h
  rcases h with h | h
  · exact sl_list pins s σ H x v vl vu lo hi sl Q I rx hs pl pu h
  · exact sl_tupA pins s σ H x v vl vu lo hi sl Q I rx hs pl pu h
def spAsc : Sp := fun vs H Q _ => ∃ (a : Addr) (xs : List V) (ds : List PyData), vs = [.ref a] ∧ (H a = some (.lst xs) ∨ H a = some (.tup xs)) ∧ DqAll H xs ds ∧ ds.length ≤ 1000 ∧ PyData.canLayAll0 ds = true ∧ PyData.depthAll ds ≤ 20 ∧
  (∀ i, i + 1 < ds.length → cmpD (ds.getD i .none) (ds.getD (i + 1) .none) = true) ∧ ∀ H', Same H H' → Q (.bl (ascD ds)) H'
theorem getD_of {ds : List PyData} {i : Nat} {d : PyData} (h : ds[i]? = some d) : ds.getD i .none = d := by
  rw [List.getD_eq_getElem?_getD, h, Option.getD_some]
theorem six_one (n : Nat) : HT.sIx n 0 (some 1) = min 1 n := HT.sIx_nat n 0 1
theorem cut_tail (xs : List V) : cutV xs (some 1) none = xs.drop 1 := by
  unfold cutV
  rw [six_one, HT.sIx_none]
  cases xs with
  | nil => rfl
  | cons x r =>
    have e : min 1 (x :: r).length = 1 := by
      rw [List.length_cons]
      omega
    rw [e]
    exact List.take_of_length_le (by rw [List.length_drop]; omega)
section
variable {P : Program} {w : World} {K : PySem.W.Frag} {mg : Str → Option Value} {base : Heap}
theorem scIsAsc : FnScope ["items", "ahead", "behind"] ["items"] (defScope sIsAsc) := ⟨rfl, rfl, rfl, by decide +kernel, rfl, by decide +kernel, by decide +kernel⟩
theorem ok_asc {f : Addr} {fd : FuncData} (F : Fun K "is_ascending" "is_ascending" sIsAsc f fd) (T : TxtB mg) : FnOk P w K mg base CX0 1 f fd ["items"] spAsc := by
  refine F.ok scIsAsc (fun vs H Q E h => ?_) (fun cdv A outer s H vs Q E hr h => ?_)
  · obtain ⟨a, xs, ds, rfl, _⟩ := h
    rfl
  · obtain ⟨a, xs, ds, rfl, hx, ha, hl, lay, dp, hc, k⟩ := h
    refine ⟨_, pss_one (ps_ret (pe_callB (cr_all rfl) (by rfl) T.all (by decide +kernel) (pa_cons (pe_lc (own := [("ahead", 1), ("behind", 2)]) (g := gTup K 2 (gCons (gName 1) (gCons (gName 2) gNil))) (tt := tYes) rfl scIsAsc.nd (RZ.pi_zipA (by rfl) T.zip (pa_cons (pv 0) (pa_cons (pe_slice sl_any (pv 0) (po_some pe_int) po_none) pa_nil)))
      (blkOk_by (N := ["items", "ahead", "behind"]) (sc := defScope sIsAsc) (by decide +kernel)) (fun _ _ _ _ _ => pg_tup rfl (pgs_cons (pg_name (i := 1) scIsAsc.nd rfl (.inl rfl)) (pgs_cons (pg_name (i := 2) scIsAsc.nd rfl (.inl rfl)) pgs_nil))) (fun _ _ _ _ _ => pts_nil)
      (fun _ _ _ _ _ => pe_cmpR (op_ltD hr.units) (pv 1) (pv 2) (nomark _))) pa_nil))), ?_⟩
    have len := ha.len
    have fin : ∀ (D : Addr) (H1 : Hp), Same H H1 → H1 D = none → ∀ (n : Nat), n = ds.length - 1 → ∀ H2, MadeTo H1 D ((ascTo ds n).map V.bl) H2 → ∃ (a : Addr) (bs : List Bool), [V.ref D] = [V.ref a] ∧ SqL K H2 a (bs.map V.bl) ∧ Q (.bl (bs.all id)) H2 := fun D H1 S1 nD n hn H2 M => by
      refine ⟨D, ascTo ds n, rfl, SqL.of M.2, ?_⟩
      have q := k H2 (S1.trans M.1)
      subst hn
      exact q
    rcases hx with hx | hx
    · refine ⟨_, rfl, _, rfl, _, rfl, .inl ⟨a, xs, rfl, SqL.of hx, fun b nb => ?_⟩⟩
      have S1 := same_new (o := .lst (cutV xs (some 1) none)) nb
      revert S1
      have hb : (upd H b (.lst (cutV xs (some 1) none))) b = some (.lst (xs.drop 1)) := by rw [upd_same, cut_tail]
      revert hb
      generalize upd H b (.lst (cutV xs (some 1) none)) = H1
      intro hb S1
      refine ⟨a, b, xs, xs.drop 1, rfl, .inl ⟨SqL.of (S1 _ _ hx), SqL.of hb, fun D nD => ?_⟩⟩
      have en : ds.length - 1 = min xs.length (xs.drop 1).length := by
        rw [List.length_drop]
        omega
      refine lc_it (walk_zip (K := K) (a := a) (b := b) en) (fun i H2 => MadeTo H1 D ((ascTo ds i).map V.bl) H2) ⟨same_new nD, upd_same⟩ (fun i H2 _ M => ⟨SqL.of (M.1 _ _ (S1 _ _ hx)), SqL.of (M.1 _ _ hb)⟩) ?_ (fun H2 M => fin D H1 S1 nD _ rfl H2 M)
      rintro i _ H2 _ hi M ⟨T, y, z, rfl, nT, rfl, ey, ez⟩
      obtain ⟨d1, e1, q1⟩ := DqAll.at ha ey
      have ez : xs[i + 1]? = some z := by
        have ez : (xs.drop 1)[i]? = some z := ez
        rw [List.getElem?_drop, Nat.add_comm] at ez
        exact ez
      obtain ⟨d2, e2, q2⟩ := DqAll.at ha ez
      have S2 := same_new (o := .tup [y, z]) nT
      have S := S1.trans (M.1.trans S2)
      have c := hc i (by omega)
      rw [getD_of e1, getD_of e2] at c
      have l1 := lay_at i lay
      have l2 := lay_at (i + 1) lay
      have p1 := Nat.le_trans (depth_at (ds := ds) i) dp
      rw [getD_of e1] at l1 p1
      rw [getD_of e2] at l2
      refine ⟨T, [y, z], rfl, SqT.of upd_same, rfl, y, [z], rfl, z, [], rfl, rfl, rfl, ?_⟩
      refine ⟨_, rfl, _, rfl, d1, d2, Dq.same S d1 y q1, Dq.same S d2 z q2, l1, l2, c, p1, ?_⟩
      have m := M.more (.bl (ltD d1 d2)) nD S2
      refine ⟨_, m.1, ?_, ?_⟩
      · rw [List.length_map, ascTo, List.length_map, List.length_range]
        exact Nat.lt_of_lt_of_le hi (Nat.le_trans (Nat.sub_le _ _) (Nat.le_trans hl (by rw [sizeLine_eq]; omega)))
      · have ea : ascTo ds (i + 1) = ascTo ds i ++ [ltD d1 d2] := by
          rw [ascTo, ascTo, List.range_succ, List.map_append, List.map_singleton, getD_of e1, getD_of e2]
        rw [ea, List.map_append]
        exact m.2
    · refine ⟨_, rfl, _, rfl, _, rfl, .inr ⟨a, xs, rfl, SqT.of hx, ?_, ?_⟩⟩
      · rintro ⟨w1, w2⟩
        have x0 : xs = [] := by
          rw [six_one] at w1
          cases xs with
          | nil => rfl
          | cons x r =>
            rw [List.length_cons] at w1
            omega
        subst x0
        have d0 : ds.length = 0 := len.symm
        refine ⟨a, a, [], [], rfl, .inr ⟨SqT.of hx, SqT.of hx, fun D nD => ?_⟩⟩
        refine lc_it (walk_zipT (K := K) (a := a) (b := a) (xs := []) (ys := []) (n := ds.length - 1) (by rw [d0]; rfl)) (fun i H2 => MadeTo H D ((ascTo ds i).map V.bl) H2) ⟨same_new nD, upd_same⟩ (fun i H2 _ M => ⟨SqT.of (M.1 _ _ hx), SqT.of (M.1 _ _ hx)⟩) ?_ (fun H2 M => fin D H (Same.refl H) nD _ rfl H2 M)
        intro i x H2 H3 hi
        omega
      · intro _ b nb
        have S1 := same_new (o := .tup (cutV xs (some 1) none)) nb
        revert S1
        have hb : (upd H b (.tup (cutV xs (some 1) none))) b = some (.tup (xs.drop 1)) := by rw [upd_same, cut_tail]
        revert hb
        generalize upd H b (.tup (cutV xs (some 1) none)) = H1
        intro hb S1
        refine ⟨a, b, xs, xs.drop 1, rfl, .inr ⟨SqT.of (S1 _ _ hx), SqT.of hb, fun D nD => ?_⟩⟩
        have en : ds.length - 1 = min xs.length (xs.drop 1).length := by
          rw [List.length_drop]
          omega
        refine lc_it (walk_zipT (K := K) (a := a) (b := b) en) (fun i H2 => MadeTo H1 D ((ascTo ds i).map V.bl) H2) ⟨same_new nD, upd_same⟩ (fun i H2 _ M => ⟨SqT.of (M.1 _ _ (S1 _ _ hx)), SqT.of (M.1 _ _ hb)⟩) ?_ (fun H2 M => fin D H1 S1 nD _ rfl H2 M)
        rintro i _ H2 _ hi M ⟨T, y, z, rfl, nT, rfl, ey, ez⟩
        obtain ⟨d1, e1, q1⟩ := DqAll.at ha ey
        have ez : xs[i + 1]? = some z := by
          have ez : (xs.drop 1)[i]? = some z := ez
          rw [List.getElem?_drop, Nat.add_comm] at ez
          exact ez
        obtain ⟨d2, e2, q2⟩ := DqAll.at ha ez
        have S2 := same_new (o := .tup [y, z]) nT
        have S := S1.trans (M.1.trans S2)
        have c := hc i (by omega)
        rw [getD_of e1, getD_of e2] at c
        have l1 := lay_at i lay
        have l2 := lay_at (i + 1) lay
        have p1 := Nat.le_trans (depth_at (ds := ds) i) dp
        rw [getD_of e1] at l1 p1
        rw [getD_of e2] at l2
        refine ⟨T, [y, z], rfl, SqT.of upd_same, rfl, y, [z], rfl, z, [], rfl, rfl, rfl, ?_⟩
        refine ⟨_, rfl, _, rfl, d1, d2, Dq.same S d1 y q1, Dq.same S d2 z q2, l1, l2, c, p1, ?_⟩
        have m := M.more (.bl (ltD d1 d2)) nD S2
        refine ⟨_, m.1, ?_, ?_⟩
        · rw [List.length_map, ascTo, List.length_map, List.length_range]
          exact Nat.lt_of_lt_of_le hi (Nat.le_trans (Nat.sub_le _ _) (Nat.le_trans hl (by rw [sizeLine_eq]; omega)))
        · have ea : ascTo ds (i + 1) = ascTo ds i ++ [ltD d1 d2] := by
            rw [ascTo, ascTo, List.range_succ, List.map_append, List.map_singleton, getD_of e1, getD_of e2]
          rw [ea, List.map_append]
          exact m.2
end
end KL
set_option Elab.async false
set_option linter.all false
set_option maxRecDepth 100000
set_option maxHeartbeats 2000000
namespace KL
open PySem L2 PySem.Spec PyProof.Rows
abbrev sIsPeople : Stmt := top 19
abbrev sIsPlaces : Stmt := top 20
abbrev sIsLogs : Stmt := top 21
abbrev sIsDeed : Stmt := top 22
abbrev sAreDeeds : Stmt := top 23
abbrev sIsStart : Stmt := top 24
abbrev sAreEnds : Stmt := top 25
/-- the numbers of the file parts -/
structure TxtM (mg : Str → Option Value) : Prop where
  people : ∃ t, mg "MOST_PEOPLE" = some (.int 3 t)
  deeds : ∃ t, mg "MOST_DEEDS" = some (.int 5 t)
  count : ∃ t, mg "MOST_COUNT" = some (.int 3 t)
  places : ∃ t, mg "MOST_PLACES" = some (.int 3 t)
  logs : ∃ t, mg "MOST_LOGS" = some (.int 2 t)
def itemD (i : Nat) : PyData → PyData
  | .tuple ds => ds.getD i .none
  | _ => .none
def deedD (people : Int) (d : PyData) : Bool := tupD 2 2 d && (letD (itemD 0 d) && betD 0 (people - 1) (itemD 1 d))
def allD (f : PyData → Bool) : PyData → Bool
  | .tuple ds => ds.all f
  | _ => true
def itemsD : PyData → List PyData
  | .tuple ds => ds
  | _ => []
def deedsD (people : Int) (d : PyData) : Bool := tupD 1 5 d && (allD (deedD people) d && ascD ((itemsD d).map (itemD 0)))
def startD (d : PyData) : Bool := tupD 1 3 d && allD intD d
def isTupD : PyData → Bool
  | .tuple _ => true
  | _ => false
def endsD (places : Int) (d : PyData) : Bool := isTupD d && (allD (betD 0 (places - 1)) d && ascD (itemsD d))
/-- a test of one thing with a number -/
def spTest1 (f : Int → PyData → Bool) : Sp := fun vs H Q _ => ∃ (v : V) (d : PyData) (n : Int), vs = [v, .int n] ∧ Dq H v d ∧ smB d = true ∧ ∀ H', Same H H' → Q (.bl (f n d)) H'
section
variable {P : Program} {w : World} {K : PySem.W.Frag} {mg : Str → Option Value} {base : Heap}
theorem scPeople : FnScope ["thing"] ["thing"] (defScope sIsPeople) := ⟨rfl, rfl, rfl, by decide +kernel, rfl, by decide +kernel, by decide +kernel⟩
theorem scPlaces : FnScope ["thing"] ["thing"] (defScope sIsPlaces) := ⟨rfl, rfl, rfl, by decide +kernel, rfl, by decide +kernel, by decide +kernel⟩
theorem scLogs : FnScope ["thing"] ["thing"] (defScope sIsLogs) := ⟨rfl, rfl, rfl, by decide +kernel, rfl, by decide +kernel, by decide +kernel⟩
theorem ok_people {f g : Addr} {fd gd : FuncData} (F : Fun K "is_people" "is_people" sIsPeople f fd) (M : TxtM mg) (G : FnOk P w K mg base CX0 2 g gd ["thing", "low", "high"] (spTest2 betD)) (c : Cal K mg "is_between" g gd ["thing", "low", "high"]) : FnOk P w K mg base CX0 3 f fd ["thing"] (spTest (betD 1 3)) := by
  obtain ⟨t, hm⟩ := M.people
  refine F.ok scPeople (fun vs H Q E h => ?_) (fun cdv A outer s H vs Q E hr h => ?_)
  · obtain ⟨v, d, rfl, _⟩ := h
    rfl
  · obtain ⟨v, d, rfl, hd, sm, k⟩ := h
    refine ⟨_, pss_one (ps_ret (pe_call G hr (by rfl) c.m c.k c.b .nil pass0 (pa_cons (pv 0) (pa_cons pe_int (pa_cons (pe_glob (v := .int 3) (by rfl) hm ⟨_, rfl⟩) pa_nil))))), ?_⟩
    exact ⟨_, rfl, v, d, 1, 3, rfl, hd, sm, k⟩
theorem ok_places {f g : Addr} {fd gd : FuncData} (F : Fun K "is_places" "is_places" sIsPlaces f fd) (M : TxtM mg) (G : FnOk P w K mg base CX0 2 g gd ["thing", "low", "high"] (spTest2 betD)) (c : Cal K mg "is_between" g gd ["thing", "low", "high"]) : FnOk P w K mg base CX0 3 f fd ["thing"] (spTest (betD 1 3)) := by
  obtain ⟨t, hm⟩ := M.places
  refine F.ok scPlaces (fun vs H Q E h => ?_) (fun cdv A outer s H vs Q E hr h => ?_)
  · obtain ⟨v, d, rfl, _⟩ := h
    rfl
  · obtain ⟨v, d, rfl, hd, sm, k⟩ := h
    refine ⟨_, pss_one (ps_ret (pe_call G hr (by rfl) c.m c.k c.b .nil pass0 (pa_cons (pv 0) (pa_cons pe_int (pa_cons (pe_glob (v := .int 3) (by rfl) hm ⟨_, rfl⟩) pa_nil))))), ?_⟩
    exact ⟨_, rfl, v, d, 1, 3, rfl, hd, sm, k⟩
theorem ok_logs {f g : Addr} {fd gd : FuncData} (F : Fun K "is_logs" "is_logs" sIsLogs f fd) (M : TxtM mg) (G : FnOk P w K mg base CX0 2 g gd ["thing", "low", "high"] (spTest2 betD)) (c : Cal K mg "is_between" g gd ["thing", "low", "high"]) : FnOk P w K mg base CX0 3 f fd ["thing"] (spTest (betD 0 2)) := by
  obtain ⟨t, hm⟩ := M.logs
  refine F.ok scLogs (fun vs H Q E h => ?_) (fun cdv A outer s H vs Q E hr h => ?_)
  · obtain ⟨v, d, rfl, _⟩ := h
    rfl
  · obtain ⟨v, d, rfl, hd, sm, k⟩ := h
    refine ⟨_, pss_one (ps_ret (pe_call G hr (by rfl) c.m c.k c.b .nil pass0 (pa_cons (pv 0) (pa_cons pe_int (pa_cons (pe_glob (v := .int 2) (by rfl) hm ⟨_, rfl⟩) pa_nil))))), ?_⟩
    exact ⟨_, rfl, v, d, 0, 2, rfl, hd, sm, k⟩
theorem tup_of {lo hi : Int} {d : PyData} (h : tupD lo hi d = true) : ∃ ds, d = .tuple ds ∧ lo ≤ (ds.length : Int) ∧ (ds.length : Int) ≤ hi := by
  cases d with
  | tuple ds =>
    have q := Bool.and_eq_true_iff.mp h
    exact ⟨ds, rfl, of_decide_eq_true q.1, of_decide_eq_true q.2⟩
  | _ => cases h
theorem at_some {ds : List PyData} {xs : List V} {H : Hp} (ha : DqAll H xs ds) {i : Nat} (hi : i < ds.length) : ∃ x, xs[i]? = some x ∧ ds[i]? = some (ds.getD i .none) ∧ Dq H x (ds.getD i .none) := by
  have h1 : i < xs.length := by rw [ha.len]; exact hi
  have e : xs[i]? = some xs[i] := List.getElem?_eq_getElem h1
  obtain ⟨d, hd, q⟩ := DqAll.at ha e
  rw [getD_of hd]
  exact ⟨_, e, hd, q⟩
theorem scDeed : FnScope ["thing", "people"] ["thing", "people"] (defScope sIsDeed) := ⟨rfl, rfl, rfl, by decide +kernel, rfl, by decide +kernel, by decide +kernel⟩
theorem ok_deed {f g1 g2 g3 : Addr} {fd gd1 gd2 gd3 : FuncData} (F : Fun K "is_deed" "is_deed" sIsDeed f fd) (G1 : FnOk P w K mg base CX0 1 g1 gd1 ["thing", "low", "high"] (spTest2 tupD)) (c1 : Cal K mg "is_tuple_of" g1 gd1 ["thing", "low", "high"])
    (G2 : FnOk P w K mg base CX0 1 g2 gd2 ["thing"] (spTest letD)) (c2 : Cal K mg "is_letter" g2 gd2 ["thing"]) (G3 : FnOk P w K mg base CX0 2 g3 gd3 ["thing", "low", "high"] (spTest2 betD)) (c3 : Cal K mg "is_between" g3 gd3 ["thing", "low", "high"]) :
    FnOk P w K mg base CX0 3 f fd ["thing", "people"] (spTest1 deedD) := by
  refine F.ok scDeed (fun vs H Q E h => ?_) (fun cdv A outer s H vs Q E hr h => ?_)
  · obtain ⟨v, d, n, rfl, _⟩ := h
    rfl
  · obtain ⟨v, d, n, rfl, hd, sm, k⟩ := h
    have hr1 : Room 1 _ := hr.mono (by decide)
    refine ⟨_, pss_one (ps_ret (pe_and (pe_call G1 hr1 (by rfl) c1.m c1.k c1.b .nil pass0 (pa_cons (pv 0) (pa_cons pe_int (pa_cons pe_int pa_nil))))
      (pe_and (pe_call G2 hr1 (by rfl) c2.m c2.k c2.b .nil pass0 (pa_cons (pe_ix ix_tup (pv 0) pe_int (fun _ _ => rfl)) pa_nil))
      (pe_one (pe_call G3 hr (by rfl) c3.m c3.k c3.b .nil pass0 (pa_cons (pe_ix ix_tup (pv 0) pe_int (fun _ _ => rfl)) (pa_cons pe_int (pa_cons (pe_op op_sub (pv 1) pe_int) pa_nil)))))))), ?_⟩
    refine ⟨_, rfl, v, d, 2, 2, rfl, hd, sm, fun H1 S1 => ⟨_, rfl, ?_⟩⟩
    by_cases h1 : tupD 2 2 d = true
    · refine iteYes h1 ?_
      obtain ⟨ds, rfl, l1, l2⟩ := tup_of h1
      cases hd with
      | tup e ha =>
        rename_i a xs
        obtain ⟨x0, e0, f0, q0⟩ := at_some ha (i := 0) (by omega)
        obtain ⟨x1, e1, f1, q1⟩ := at_some ha (i := 1) (by omega)
        refine ⟨_, rfl, a, xs, 0, x0, rfl, rfl, SqT.of (S1 _ _ e), atI_nat e0, x0, _, rfl, Dq.same S1 _ x0 q0, sm_at (sm_all sm) f0, fun H2 S2 => ⟨_, rfl, ?_⟩⟩
        by_cases h2 : letD (ds.getD 0 .none) = true
        · refine iteYes h2 ?_
          refine ⟨_, rfl, a, xs, 1, x1, rfl, rfl, SqT.of (S2 _ _ (S1 _ _ e)), atI_nat e1, _, rfl, _, _, rfl, rfl, x1, _, 0, n - 1, rfl, Dq.same (S1.trans S2) _ x1 q1, sm_at (sm_all sm) f1, fun H3 S3 => ?_⟩
          have q := k H3 (S1.trans (S2.trans S3))
          have e : deedD n (.tuple ds) = betD 0 (n - 1) (ds.getD 1 .none) := by simp only [deedD, h1, itemD, h2, Bool.true_and]
          rw [e] at q
          exact q
        · refine iteNo (by simpa using h2) ?_
          have q := k H2 (S1.trans S2)
          have e : deedD n (.tuple ds) = false := by simp only [deedD, h1, itemD, h2, Bool.true_and, Bool.false_and]
          rw [e] at q
          exact q
    · refine iteNo (by simpa using h1) ?_
      have q := k H1 S1
      have e : deedD n d = false := by simp only [deedD, h1, Bool.false_and]
      rw [e] at q
      exact q
end
end KL
set_option Elab.async false
set_option linter.all false
set_option maxRecDepth 100000
set_option maxHeartbeats 2000000
namespace KL
open PySem L2 PySem.Spec PyProof.Rows
theorem allD_map (f : PyData → Bool) (ds : List PyData) : (ds.map f).all id = allD f (.tuple ds) := by
  show (ds.map f).all id = ds.all f
  rw [List.all_map]
  rfl
theorem getD_map {f : PyData → PyData} {ds : List PyData} {i : Nat} (hi : i < ds.length) : (ds.map f).getD i .none = f (ds.getD i .none) := by
  rw [List.getD_eq_getElem?_getD, List.getElem?_map, List.getElem?_eq_getElem hi, List.getD_eq_getElem?_getD, List.getElem?_eq_getElem hi]
  rfl
theorem all_at {f : PyData → Bool} {ds : List PyData} (h : ds.all f = true) {i : Nat} (hi : i < ds.length) : f (ds.getD i .none) = true := by
  rw [List.getD_eq_getElem?_getD, List.getElem?_eq_getElem hi]
  exact List.all_eq_true.mp h _ (List.getElem_mem hi)
theorem let_of {d : PyData} (h : letD d = true) : ∃ x, d = .str x := by
  cases d with
  | str x => exact ⟨x, rfl⟩
  | _ => cases h
theorem bet_of {lo hi : Int} {d : PyData} (h : betD lo hi d = true) : ∃ i, d = .int i ∧ lo ≤ i ∧ i ≤ hi := by
  cases d with
  | int i =>
    have q := Bool.and_eq_true_iff.mp h
    exact ⟨i, rfl, of_decide_eq_true q.1, of_decide_eq_true q.2⟩
  | _ => cases h
theorem lay_of : ∀ {ds : List PyData}, (∀ i, i < ds.length → ∃ j, ds.getD i .none = PyData.int j) → PyData.canLayAll0 ds = true
  | [], _ => rfl
  | d :: ds, h => by
    obtain ⟨j, e⟩ := h 0 (Nat.succ_pos _)
    have e : d = .int j := e
    subst e
    show (true && PyData.canLayAll0 ds) = true
    rw [lay_of (ds := ds) fun i hi => h (i + 1) (Nat.succ_lt_succ hi)]
    rfl
theorem depth_of : ∀ {ds : List PyData}, (∀ i, i < ds.length → ∃ j, ds.getD i .none = PyData.int j) → PyData.depthAll ds ≤ 20
  | [], _ => Nat.zero_le _
  | d :: ds, h => by
    obtain ⟨j, e⟩ := h 0 (Nat.succ_pos _)
    have e : d = .int j := e
    subst e
    have q := depth_of (ds := ds) fun i hi => h (i + 1) (Nat.succ_lt_succ hi)
    show max 0 (PyData.depthAll ds) ≤ 20
    omega
section
variable {P : Program} {w : World} {K : PySem.W.Frag} {mg : Str → Option Value} {base : Heap}
theorem scStart : FnScope ["thing", "item"] ["thing"] (defScope sIsStart) := ⟨rfl, rfl, rfl, by decide +kernel, rfl, by decide +kernel, by decide +kernel⟩
theorem ok_start {f g1 g2 : Addr} {fd gd1 gd2 : FuncData} (F : Fun K "is_start" "is_start" sIsStart f fd) (T : TxtB mg) (M : TxtM mg) (G1 : FnOk P w K mg base CX0 1 g1 gd1 ["thing"] (spTest intD)) (c1 : Cal K mg "is_int" g1 gd1 ["thing"])
    (G2 : FnOk P w K mg base CX0 1 g2 gd2 ["thing", "low", "high"] (spTest2 tupD)) (c2 : Cal K mg "is_tuple_of" g2 gd2 ["thing", "low", "high"]) : FnOk P w K mg base CX0 2 f fd ["thing"] (spTest startD) := by
  obtain ⟨t, hm⟩ := M.count
  refine F.ok scStart (fun vs H Q E h => ?_) (fun cdv A outer s H vs Q E hr h => ?_)
  · obtain ⟨v, d, rfl, _⟩ := h
    rfl
  · obtain ⟨v, d, rfl, hd, sm, k⟩ := h
    refine ⟨_, pss_one (ps_ret (pe_and (pe_call G2 hr (by rfl) c2.m c2.k c2.b .nil pass0 (pa_cons (pv 0) (pa_cons pe_int (pa_cons (pe_glob (v := .int 3) (by rfl) hm ⟨_, rfl⟩) pa_nil))))
      (pe_one (pe_callB (cr_all rfl) (by rfl) T.all (by decide +kernel) (pa_cons (pe_lc (own := [("item", 1)]) (g := gName 1) (tt := tYes) rfl scStart.nd (pi_tup (pv 0)) (blkOk_by (N := ["thing", "item"]) (sc := defScope sIsStart) (by decide +kernel)) (fun _ _ _ _ _ => pg_name (i := 1) scStart.nd rfl (.inl rfl)) (fun _ _ _ _ _ => pts_nil)
        (fun _ _ _ _ _ => pe_call G1 hr (by rfl) c1.m c1.k c1.b .nil pass0 (pa_cons (pv 1) pa_nil))) pa_nil))))), ?_⟩
    refine ⟨_, rfl, v, d, 1, 3, rfl, hd, sm, fun H1 S1 => ⟨_, rfl, ?_⟩⟩
    by_cases h1 : tupD 1 3 d = true
    · refine iteYes h1 ?_
      obtain ⟨ds, rfl, l1, l2⟩ := tup_of h1
      cases hd with
      | tup e ha =>
        rename_i a xs
        refine ⟨_, rfl, a, rfl, ⟨_, SqT.of (S1 _ _ e)⟩, fun D nD => ?_⟩
        refine lc_tup (K := K) (a := a) (xs := xs) (fun i H2 => MadeTo H1 D (((ds.take i).map intD).map V.bl) H2) ⟨same_new nD, upd_same⟩ (fun i H2 _ M => SqT.of (M.1 _ _ (S1 _ _ e))) ?_ ?_
        · rintro i x H2 hx M
          obtain ⟨d', hd', hq⟩ := DqAll.at ha hx
          exact ⟨rfl, _, rfl, x, d', rfl, Dq.same (S1.trans M.1) d' x hq, sm_at (sm_all sm) hd', fun H3 S3 => M.turn nD S3 (sm_len sm) hd'⟩
        · rintro H2 M
          rw [ha.len, List.take_length] at M
          refine ⟨D, _, rfl, SqL.of M.2, ?_⟩
          have e : startD (.tuple ds) = (ds.map intD).all id := by rw [startD, h1, Bool.true_and, allD_map]
          have q := k H2 (S1.trans M.1)
          rw [e] at q
          exact q
    · refine iteNo (by simpa using h1) ?_
      have q := k H1 S1
      have e : startD d = false := by simp only [startD, h1, Bool.false_and]
      rw [e] at q
      exact q
theorem scEnds : FnScope ["thing", "places", "item"] ["thing", "places"] (defScope sAreEnds) := ⟨rfl, rfl, rfl, by decide +kernel, rfl, by decide +kernel, by decide +kernel⟩
theorem ok_ends {f g1 g2 : Addr} {fd gd1 gd2 : FuncData} (F : Fun K "are_ends" "are_ends" sAreEnds f fd) (T : TxtB mg) (G1 : FnOk P w K mg base CX0 2 g1 gd1 ["thing", "low", "high"] (spTest2 betD)) (c1 : Cal K mg "is_between" g1 gd1 ["thing", "low", "high"])
    (G2 : FnOk P w K mg base CX0 1 g2 gd2 ["items"] spAsc) (c2 : Cal K mg "is_ascending" g2 gd2 ["items"]) : FnOk P w K mg base CX0 3 f fd ["thing", "places"] (spTest1 endsD) := by
  refine F.ok scEnds (fun vs H Q E h => ?_) (fun cdv A outer s H vs Q E hr h => ?_)
  · obtain ⟨v, d, n, rfl, _⟩ := h
    rfl
  · obtain ⟨v, d, n, rfl, hd, sm, k⟩ := h
    have hr1 : Room 1 _ := hr.mono (by decide)
    refine ⟨_, pss_cons (ps_if (PW.pt (pw_or (pt_not (pt_val (pe_callB call_isD (by rfl) T.isi (by decide +kernel) (pa_cons (pv 0) (pa_cons (pe_bltn (v := .ty "tuple") (by rfl) T.tuple (by decide +kernel) rfl) pa_nil))))) (pw_or1 (pt_not (pt_val (pe_callB (cr_all rfl) (by rfl) T.all (by decide +kernel) (pa_cons (pe_lc (own := [("item", 2)]) (g := gName 2) (tt := tYes) rfl scEnds.nd (pi_tup (pv 0)) (blkOk_by (N := ["thing", "places", "item"]) (sc := defScope sAreEnds) (by decide +kernel)) (fun _ _ _ _ _ => pg_name (i := 2) scEnds.nd rfl (.inl rfl)) (fun _ _ _ _ _ => pts_nil)
        (fun _ _ _ _ _ => pe_call G1 hr (by rfl) c1.m c1.k c1.b .nil pass0 (pa_cons (pv 2) (pa_cons pe_int (pa_cons (pe_op op_sub (pv 1) pe_int) pa_nil))))) pa_nil))))))) (pss_one (ps_ret pe_bl)) pss_nil)
      (pss_one (ps_ret (pe_call G2 hr1 (by rfl) c2.m c2.k c2.b .nil pass0 (pa_cons (pv 0) pa_nil)))), ?_⟩
    refine ⟨_, rfl, v, d, "tuple", rfl, by decide, hd, _, rfl, ?_⟩
    cases hd with
    | tup e ha =>
      rename_i a xs ds
      refine iteNo rfl ?_
      refine ⟨_, rfl, a, rfl, ⟨_, SqT.of e⟩, fun D nD => ?_⟩
      refine lc_tup (K := K) (a := a) (xs := xs) (fun i H2 => MadeTo H D (((ds.take i).map (betD 0 (n - 1))).map V.bl) H2) ⟨same_new nD, upd_same⟩ (fun i H2 _ M => SqT.of (M.1 _ _ e)) ?_ ?_
      · rintro i x H2 hx M
        obtain ⟨d', hd', hq⟩ := DqAll.at ha hx
        exact ⟨rfl, _, rfl, _, rfl, _, _, rfl, rfl, x, d', 0, n - 1, rfl, Dq.same M.1 d' x hq, sm_at (sm_all sm) hd', fun H3 S3 => M.turn nD S3 (sm_len sm) hd'⟩
      · rintro H2 M
        rw [ha.len, List.take_length] at M
        refine ⟨D, _, rfl, SqL.of M.2, _, rfl, ?_⟩
        rw [allD_map]
        by_cases h1 : allD (betD 0 (n - 1)) (.tuple ds) = true
        · refine iteNo (by rw [h1]; rfl) ?_
          have hi : ∀ i, i < ds.length → ∃ j, ds.getD i .none = .int j := fun i hi => by
            obtain ⟨j, e, _⟩ := bet_of (all_at (f := betD 0 (n - 1)) h1 hi)
            exact ⟨j, e⟩
          refine ⟨_, rfl, a, xs, ds, rfl, .inr (M.1 _ _ e), DqAll.same M.1 ds xs ha, sm_len sm, lay_of hi, depth_of hi, fun i hi' => ?_, fun H3 S3 => ?_⟩
          · obtain ⟨x, ex⟩ := hi i (by omega)
            obtain ⟨y, ey⟩ := hi (i + 1) hi'
            rw [ex, ey]
            rfl
          · have q := k H3 (M.1.trans S3)
            have e : endsD n (.tuple ds) = ascD ds := by simp only [endsD, isTupD, h1, itemsD, Bool.true_and]
            rw [e] at q
            exact q
        · refine iteYes (by simpa using h1) ?_
          have q := k H2 M.1
          have e : endsD n (.tuple ds) = false := by simp only [endsD, isTupD, h1, Bool.true_and, Bool.false_and]
          rw [e] at q
          exact q
    | non => exact iteYes rfl (k H (Same.refl H))
    | bl _ => exact iteYes rfl (k H (Same.refl H))
    | int _ => exact iteYes rfl (k H (Same.refl H))
    | str _ => exact iteYes rfl (k H (Same.refl H))
    | lst _ _ => exact iteYes rfl (k H (Same.refl H))
    | dct0 _ => exact iteYes rfl (k H (Same.refl H))
    | dct1 _ => exact iteYes rfl (k H (Same.refl H))
end
end KL
set_option Elab.async false
set_option linter.all false
set_option maxRecDepth 100000
set_option maxHeartbeats 2000000
namespace KL
open PySem L2 PySem.Spec PyProof.Rows
theorem letS_ok {x : Str} (h : letS x = true) : PyData.strOk x = true ∧ x.length = 1 := by
  simp only [letS, Bool.and_eq_true, decide_eq_true_eq, Bool.not_eq_true', decide_eq_false_iff_not] at h
  obtain ⟨h1, h2, h3⟩ := h
  refine ⟨?_, h1⟩
  obtain ⟨⟨l⟩⟩ := x
  have hl : l.length = 1 := h1
  match l, hl with
  | [c], _ =>
    have z : ¬ ([122] < [c]) := h3
    have hc : c ≤ 122 := by
      rcases Nat.lt_or_ge 122 c with q | q
      · exact absurd (List.cons_lt_cons_iff.mpr (.inl q)) z
      · exact q
    show (#[c]).all (· < 0x110000) = true
    simp
    omega
theorem DqAll.snoc {H : Hp} : ∀ {es : List PyData} {ys : List V} {y : V} {e : PyData}, DqAll H ys es → Dq H y e → DqAll H (ys ++ [y]) (es ++ [e])
  | [], _, _, _, h, q => by
    cases h
    exact .cons q .nil
  | _ :: _, _, _, _, h, q => by
    cases h with
    | cons h1 h2 => exact .cons h1 (DqAll.snoc h2 q)
/-- a comprehension that has made these data so far -/
def MadeQ (H0 : Hp) (D : Addr) (es : List PyData) (H : Hp) : Prop := Same H0 H ∧ ∃ ys, H D = some (.lst ys) ∧ DqAll H0 ys es
theorem MadeQ.start {H0 : Hp} {D : Addr} (nD : H0 D = none) : MadeQ H0 D [] (upd H0 D (.lst [])) := ⟨same_new nD, [], upd_same, .nil⟩
theorem MadeQ.turn {H0 H H' : Hp} {D : Addr} {g : PyData → PyData} {ds : List PyData} {i : Nat} {d : PyData} {y : V} (hD : H0 D = none) (M : MadeQ H0 D ((ds.take i).map g) H) (S : Same H H') (hl : ds.length ≤ 1000) (h : ds[i]? = some d) (q : Dq H0 y (g d)) :
    ∃ acc, H' D = some (.lst acc) ∧ acc.length < sizeLine ∧ MadeQ H0 D ((ds.take (i + 1)).map g) (upd H' D (.lst (acc ++ [y]))) := by
  obtain ⟨S0, ys, hy, hq⟩ := M
  refine ⟨ys, S _ _ hy, ?_, fun x o e => ?_, ys ++ [y], upd_same, ?_⟩
  · rw [hq.len, List.length_map, List.length_take]
    exact Nat.lt_of_le_of_lt (Nat.le_trans (Nat.min_le_right _ _) hl) (by rw [sizeLine_eq]; omega)
  · have nx : x ≠ D := fun z => by
      rw [z, hD] at e
      cases e
    rw [upd_ne nx]
    exact S _ _ (S0 _ _ e)
  · rw [take_map h]
    exact hq.snoc q
theorem deed_of {n : Int} {d : PyData} (h : deedD n d = true) : ∃ x i, d = .tuple [.str x, .int i] ∧ letS x = true ∧ 0 ≤ i ∧ i ≤ n - 1 := by
  simp only [deedD, Bool.and_eq_true] at h
  obtain ⟨h1, h2, h3⟩ := h
  obtain ⟨ds, rfl, l1, l2⟩ := tup_of h1
  match ds, l1, l2 with
  | [a, b], _, _ =>
    obtain ⟨x, rfl⟩ : ∃ x, a = .str x := let_of h2
    obtain ⟨i, rfl, i1, i2⟩ : ∃ i, b = .int i ∧ 0 ≤ i ∧ i ≤ n - 1 := bet_of h3
    exact ⟨x, i, rfl, h2, i1, i2⟩
  | [], l1, _ => exact absurd l1 (by decide)
  | [_], l1, _ => simp at l1
  | _ :: _ :: _ :: _, _, l2 => simp at l2; omega
theorem lay_str : ∀ {ds : List PyData}, (∀ i, i < ds.length → ∃ x, ds.getD i .none = PyData.str x ∧ letS x = true) → PyData.canLayAll0 ds = true
  | [], _ => rfl
  | d :: ds, h => by
    obtain ⟨x, e, hx⟩ := h 0 (Nat.succ_pos _)
    have e : d = .str x := e
    subst e
    show (PyData.strOk x && PyData.canLayAll0 ds) = true
    rw [lay_str (ds := ds) fun i hi => h (i + 1) (Nat.succ_lt_succ hi), (letS_ok hx).1]
    rfl
theorem depth_str : ∀ {ds : List PyData}, (∀ i, i < ds.length → ∃ x, ds.getD i .none = PyData.str x ∧ letS x = true) → PyData.depthAll ds ≤ 20
  | [], _ => Nat.zero_le _
  | d :: ds, h => by
    obtain ⟨x, e, hx⟩ := h 0 (Nat.succ_pos _)
    have e : d = .str x := e
    subst e
    have q := depth_str (ds := ds) fun i hi => h (i + 1) (Nat.succ_lt_succ hi)
    show max 0 (PyData.depthAll ds) ≤ 20
    omega
section
variable {P : Program} {w : World} {K : PySem.W.Frag} {mg : Str → Option Value} {base : Heap}
theorem scDeeds : FnScope ["thing", "people", "item", "letter", "owner"] ["thing", "people"] (defScope sAreDeeds) := ⟨rfl, rfl, rfl, by decide +kernel, rfl, by decide +kernel, by decide +kernel⟩
theorem ok_deeds {f g1 g2 g3 : Addr} {fd gd1 gd2 gd3 : FuncData} (F : Fun K "are_deeds" "are_deeds" sAreDeeds f fd) (T : TxtB mg) (M : TxtM mg) (G1 : FnOk P w K mg base CX0 1 g1 gd1 ["thing", "low", "high"] (spTest2 tupD)) (c1 : Cal K mg "is_tuple_of" g1 gd1 ["thing", "low", "high"])
    (G2 : FnOk P w K mg base CX0 3 g2 gd2 ["thing", "people"] (spTest1 deedD)) (c2 : Cal K mg "is_deed" g2 gd2 ["thing", "people"]) (G3 : FnOk P w K mg base CX0 1 g3 gd3 ["items"] spAsc) (c3 : Cal K mg "is_ascending" g3 gd3 ["items"]) :
    FnOk P w K mg base CX0 4 f fd ["thing", "people"] (spTest1 deedsD) := by
  obtain ⟨t, hm⟩ := M.deeds
  refine F.ok scDeeds (fun vs H Q E h => ?_) (fun cdv A outer s H vs Q E hr h => ?_)
  · obtain ⟨v, d, n, rfl, _⟩ := h
    rfl
  · obtain ⟨v, d, n, rfl, hd, sm, k⟩ := h
    have hr1 : Room 1 _ := hr.mono (by decide)
    refine ⟨_, pss_cons (ps_if (PW.pt (pw_or (pt_not (pt_val (pe_call G1 hr1 (by rfl) c1.m c1.k c1.b .nil pass0 (pa_cons (pv 0) (pa_cons pe_int (pa_cons (pe_glob (v := .int 5) (by rfl) hm ⟨_, rfl⟩) pa_nil)))))) (pw_or1 (pt_not (pt_val (pe_callB (cr_all rfl) (by rfl) T.all (by decide +kernel) (pa_cons (pe_lc (own := [("item", 2)]) (g := gName 2) (tt := tYes) rfl scDeeds.nd (pi_tup (pv 0)) (blkOk_by (N := ["thing", "people", "item", "letter", "owner"]) (sc := defScope sAreDeeds) (by decide +kernel)) (fun _ _ _ _ _ => pg_name (i := 2) scDeeds.nd rfl (.inl rfl)) (fun _ _ _ _ _ => pts_nil)
        (fun _ _ _ _ _ => pe_call G2 hr (by rfl) c2.m c2.k c2.b .nil pass0 (pa_cons (pv 2) (pa_cons (pv 1) pa_nil)))) pa_nil))))))) (pss_one (ps_ret pe_bl)) pss_nil)
      (pss_one (ps_ret (pe_call G3 hr1 (by rfl) c3.m c3.k c3.b .nil pass0 (pa_cons (pe_lc (own := [("letter", 3), ("owner", 4)]) (g := gTup K 2 (gCons (gName 3) (gCons (gName 4) gNil))) (tt := tYes) rfl scDeeds.nd (pi_tup (pv 0)) (blkOk_by (N := ["thing", "people", "item", "letter", "owner"]) (sc := defScope sAreDeeds) (by decide +kernel)) (fun _ _ _ _ _ => pg_tup rfl (pgs_cons (pg_name (i := 3) scDeeds.nd rfl (.inl rfl)) (pgs_cons (pg_name (i := 4) scDeeds.nd rfl (.inl rfl)) pgs_nil))) (fun _ _ _ _ _ => pts_nil)
        (fun _ _ _ _ _ => pv 3)) pa_nil)))), ?_⟩
    refine ⟨_, rfl, v, d, 1, 5, rfl, hd, sm, fun H1 S1 => ⟨_, rfl, ?_⟩⟩
    by_cases h1 : tupD 1 5 d = true
    · refine iteNo (by rw [h1]; rfl) ?_
      obtain ⟨ds, rfl, l1, l2⟩ := tup_of h1
      cases hd with
      | tup e ha =>
        rename_i a xs
        refine ⟨_, rfl, a, rfl, ⟨_, SqT.of (S1 _ _ e)⟩, fun D nD => ?_⟩
        refine lc_tup (K := K) (a := a) (xs := xs) (fun i H2 => MadeTo H1 D (((ds.take i).map (deedD n)).map V.bl) H2) ⟨same_new nD, upd_same⟩ (fun i H2 _ M => SqT.of (M.1 _ _ (S1 _ _ e))) ?_ ?_
        · rintro i x H2 hx M
          obtain ⟨d', hd', hq⟩ := DqAll.at ha hx
          exact ⟨rfl, _, rfl, _, rfl, x, d', n, rfl, Dq.same (S1.trans M.1) d' x hq, sm_at (sm_all sm) hd', fun H3 S3 => M.turn nD S3 (sm_len sm) hd'⟩
        · rintro H2 M
          rw [ha.len, List.take_length] at M
          refine ⟨D, _, rfl, SqL.of M.2, _, rfl, ?_⟩
          rw [allD_map]
          by_cases h2 : allD (deedD n) (.tuple ds) = true
          · refine iteNo (by rw [h2]; rfl) ?_
            have S2 : Same H H2 := S1.trans M.1
            refine ⟨_, rfl, a, rfl, ⟨_, SqT.of (S2 _ _ e)⟩, fun B nB => ?_⟩
            refine lc_tup (K := K) (a := a) (xs := xs) (fun i H3 => MadeQ H2 B ((ds.take i).map (itemD 0)) H3) (MadeQ.start nB) (fun i H3 _ M => SqT.of (M.1 _ _ (S2 _ _ e))) ?_ ?_
            · rintro i x H3 hx M3
              obtain ⟨d', hd', hq⟩ := DqAll.at ha hx
              have hi : i < ds.length := (List.getElem?_eq_some_iff.mp hd').1
              have hdd := all_at (f := deedD n) h2 hi
              rw [getD_of hd'] at hdd
              obtain ⟨lt, ow, rfl, _, _, _⟩ := deed_of hdd
              cases hq with
              | tup e' ha' =>
                cases ha' with
                | cons q1 r1 =>
                  cases r1 with
                  | cons q2 r2 =>
                    cases r2
                    rename_i b y0 y1
                    refine ⟨b, _, rfl, SqT.of (M3.1 _ _ (S2 _ _ e')), rfl, y0, _, rfl, y1, _, rfl, rfl, rfl, ?_⟩
                    refine ⟨_, rfl, ?_⟩
                    exact M3.turn nB (Same.refl _) (sm_len sm) hd' (Dq.same S2 _ y0 q1)
            · rintro H3 M3
              rw [ha.len, List.take_length] at M3
              obtain ⟨S3, ys, hy, hq⟩ := M3
              have str_at : ∀ i, i < ds.length → ∃ x, (ds.map (itemD 0)).getD i .none = .str x ∧ letS x = true := fun i hi => by
                obtain ⟨lt, ow, e, h, _⟩ := deed_of (all_at (f := deedD n) h2 hi)
                rw [getD_map hi, e]
                exact ⟨lt, rfl, h⟩
              have hstr : ∀ i, i < (ds.map (itemD 0)).length → ∃ x, (ds.map (itemD 0)).getD i .none = .str x ∧ letS x = true := fun i hi => str_at i (by rwa [List.length_map] at hi)
              refine ⟨B, ys, ds.map (itemD 0), rfl, .inl hy, DqAll.same S3 _ ys hq, by rw [List.length_map]; exact sm_len sm, lay_str hstr, depth_str hstr, fun i hi => ?_, fun H4 S4 => ?_⟩
              · obtain ⟨x, ex, _⟩ := hstr i (by omega)
                obtain ⟨y, ey, _⟩ := hstr (i + 1) hi
                rw [ex, ey]
                rfl
              · have q := k H4 (S2.trans (S3.trans S4))
                have e : deedsD n (.tuple ds) = ascD (ds.map (itemD 0)) := by simp only [deedsD, h1, h2, itemsD, Bool.true_and]
                rw [e] at q
                exact q
          · refine iteYes (by simpa using h2) ?_
            have q := k H2 (S1.trans M.1)
            have e : deedsD n (.tuple ds) = false := by simp only [deedsD, h1, h2, Bool.true_and, Bool.false_and]
            rw [e] at q
            exact q
    · refine iteYes (by simpa using h1) ?_
      have q := k H1 S1
      have e : deedsD n d = false := by simp only [deedsD, h1, Bool.false_and]
      rw [e] at q
      exact q
end
end KL
set_option Elab.async false
set_option linter.all false
set_option maxRecDepth 100000
set_option maxHeartbeats 2000000
namespace PySem
namespace SeqAt
open AutoSeq1 (wpAny_loadPart')
open MeetsSeq
theorem str_eq_dict (b : Str) (u : Tok) (l : Addr) (c : Value) (es : Array DictEntry) (n : Nat) (dd : Option Addr) (sl : Array (Option Value)) :
    Meets (Builtin.«str.__eq__» ⟨[.str b u, .ref l], []⟩) (fun _ R s => s.heap.get? l = some { cls := c, dict := dd, data := .dict es n, slots := sl } ∧ R (.ok (.ret .notImplemented)) s) :=
  .of_wp fun prog w A R s h => by obtain ⟨hp, g, d, tk, os⟩ := s; obtain ⟨hl, h⟩ := h; wp_walk using wpAny_loadPart' hl, wpAny_load hl; exact ⟨_, rfl, h⟩
theorem str_ne_dict (b : Str) (u : Tok) (l : Addr) (c : Value) (es : Array DictEntry) (n : Nat) (dd : Option Addr) (sl : Array (Option Value)) :
    Meets (Builtin.«str.__ne__» ⟨[.str b u, .ref l], []⟩) (fun _ R s => s.heap.get? l = some { cls := c, dict := dd, data := .dict es n, slots := sl } ∧ R (.ok (.ret .notImplemented)) s) :=
  .of_wp fun prog w A R s h => by obtain ⟨hp, g, d, tk, os⟩ := s; obtain ⟨hl, h⟩ := h; wp_walk using wpAny_loadPart' hl, wpAny_load hl; exact ⟨_, rfl, h⟩
section
variable {A : Around} {s : Shared}
theorem dict_eq_str {prog : Program} {w : World} {E : Value → Shared → Prop} {l : Addr} {o : Obj} {es : Array DictEntry} {n : Nat} (b : Str) (u : Tok) (ho : s.heap.get? l = some o) (hc : o.cls = .type "dict") (Q' : Value → Shared → Prop) (h : Q' .notImplemented s) :
    wpAny (model prog w) A (call (.builtin "dict.__eq__") [.ref l, .str b u]) Q' E s := by
  have ht : s.TypeIs (.ref l) "dict" := ⟨o, ho, hc⟩
  refine wpAny_call_entry PySem.F.slot_dict_eq ht PySem.F.entry_dict_eq ?_ (PySem.F.args_dict_eq_2 _ _)
  show wpAny _ _ (Builtin.Dict.dictSlotArgs "__eq__" ⟨[.ref l, .str b u], []⟩ >>= _) _ _ s
  refine wpAny_bind ?_
  unfold Builtin.Dict.dictSlotArgs
  refine wpAny_bind (wpAny_notOrdered_dict ht ?_)
  show wpAny _ _ (pure (Value.ref l, Value.str b u)) _ _ s
  refine wpAny_pure ?_
  refine wpAny_bind (wpAny_isInstance (T := "str") (typeIs_str s b u) PySem.F.sub_str_dict ?_)
  simp only [Bool.not_false, if_true]
  exact wpAny_bind (wpAny_rule (wpAny_bind (wpAny_pure (wpAny_pure ⟨_, rfl, h⟩))))
theorem dict_ne_str {prog : Program} {w : World} {E : Value → Shared → Prop} {l : Addr} {o : Obj} {es : Array DictEntry} {n : Nat} (b : Str) (u : Tok) (ho : s.heap.get? l = some o) (hc : o.cls = .type "dict") (Q' : Value → Shared → Prop) (h : Q' .notImplemented s) :
    wpAny (model prog w) A (call (.builtin "dict.__ne__") [.ref l, .str b u]) Q' E s := by
  have ht : s.TypeIs (.ref l) "dict" := ⟨o, ho, hc⟩
  refine wpAny_call_entry PySem.F.slot_dict_ne ht PySem.F.entry_dict_ne ?_ (PySem.F.args_dict_ne_2 _ _)
  show wpAny _ _ (Builtin.Dict.dictSlotArgs "__ne__" ⟨[.ref l, .str b u], []⟩ >>= _) _ _ s
  refine wpAny_bind ?_
  unfold Builtin.Dict.dictSlotArgs
  refine wpAny_bind (wpAny_notOrdered_dict ht ?_)
  show wpAny _ _ (pure (Value.ref l, Value.str b u)) _ _ s
  refine wpAny_pure ?_
  refine wpAny_bind (wpAny_isInstance (T := "str") (typeIs_str s b u) PySem.F.sub_str_dict ?_)
  simp only [Bool.not_false, if_true]
  exact wpAny_bind (wpAny_rule (wpAny_bind (wpAny_pure (wpAny_pure ⟨_, rfl, h⟩))))
theorem RcAt.str_dict {l : Addr} {cl : Value} {dd : Option Addr} {es : Array DictEntry} {n : Nat} {sl : Array (Option Value)} (b : Str) (u : Tok) (ho : s.heap.get? l = some ⟨.type "dict", dd, .dict es n, sl⟩) (hu : A.units < cLine) : RcAt A s (.str b u) (.ref l) false := fun prog w E Q h =>
  rc_eq_decline_or (k := false) (typeIs_str s b u) ⟨_, ho, rfl⟩ (by decide) F.sub_dict_str F.slot_str_eq F.slot_dict_eq_refl
    (fun _ hq => call_meets F.slot_str_eq (typeIs_str s b u) F.entry_str_eq (F.args_str_eq_2 _ _) (str_eq_dict b u l (.type "dict") es n dd sl) ⟨ho, hq⟩)
    (fun _ hq => dict_eq_str (es := es) (n := n) b u ho rfl _ hq)
    (fun _ hq => wpAny_of_eq (rfl : isSame (.str b u) (.ref l) = pure false) hq) (.inr hu) h
theorem EqAt.str_dict {l : Addr} {dd : Option Addr} {es : Array DictEntry} {n : Nat} {sl : Array (Option Value)} (b : Str) (u : Tok) (ho : s.heap.get? l = some ⟨.type "dict", dd, .dict es n, sl⟩) (hu : A.units < cLine) : EqAt A s (.str b u) (.ref l) false := fun prog w E Q h => by
  unfold eqBool
  refine wpAny_holding ?_
  refine wpAny_ite_split (fun hab => absurd (eq_of_beq hab) nofun) (fun _ => ?_)
  exact wpAny_bind (RcAt.str_dict (cl := .none) b u ho hu prog w E _ (wpAny_truthy_bool h))
theorem RcAt.dict_str {l : Addr} {dd : Option Addr} {es : Array DictEntry} {n : Nat} {sl : Array (Option Value)} (b : Str) (u : Tok) (ho : s.heap.get? l = some ⟨.type "dict", dd, .dict es n, sl⟩) (hu : A.units < cLine) : RcAt A s (.ref l) (.str b u) false := fun prog w E Q h =>
  rc_eq_decline_or (k := false) ⟨_, ho, rfl⟩ (typeIs_str s b u) (by decide) F.sub_str_dict F.slot_dict_eq F.slot_str_eq_refl
    (fun _ hq => dict_eq_str (es := es) (n := n) b u ho rfl _ hq)
    (fun _ hq => call_meets F.slot_str_eq_refl (typeIs_str s b u) F.entry_str_eq (F.args_str_eq_2 _ _) (str_eq_dict b u l (.type "dict") es n dd sl) ⟨ho, hq⟩)
    (fun _ hq => wpAny_of_eq (rfl : isSame (.ref l) (.str b u) = pure false) hq) (.inr hu) h
theorem RcNeAt.dict_str {l : Addr} {dd : Option Addr} {es : Array DictEntry} {n : Nat} {sl : Array (Option Value)} (b : Str) (u : Tok) (ho : s.heap.get? l = some ⟨.type "dict", dd, .dict es n, sl⟩) (hu : A.units < cLine) : RcNeAt A s (.ref l) (.str b u) true := fun prog w E Q h =>
  rc_ne_decline_or (k := false) ⟨_, ho, rfl⟩ (typeIs_str s b u) (by decide) F.sub_str_dict F.slot_dict_ne F.slot_str_ne_refl
    (fun _ hq => dict_ne_str (es := es) (n := n) b u ho rfl _ hq)
    (fun _ hq => call_meets F.slot_str_ne_refl (typeIs_str s b u) F.entry_str_ne (F.args_str_ne_2 _ _) (str_ne_dict b u l (.type "dict") es n dd sl) ⟨ho, hq⟩)
    (fun _ hq => wpAny_of_eq (rfl : isSame (.ref l) (.str b u) = pure false) hq) (.inr hu) h
end
end SeqAt
end PySem
namespace KL
open PySem L2 PySem.Spec PyProof.Rows
/-- whether a thing is this text -/
def isStrD (x : Str) : PyData → Bool
  | .str y => x == y
  | _ => false
section
variable {A : Around} {s : Shared}
theorem eqAt_str {v : Value} {d : PyData} {as : List Addr} (b : Str) (u : Tok) (r : Reads s.heap v d as) (hu : A.units < cLine) : SeqAt.EqAt A s (.str b u) v (isStrD b d) := by
  cases r with
  | none => exact .str_none b u
  | bool k => exact .str_bool b u k
  | int i t => exact .str_int b u i t
  | str x t => exact .str_str b u x t
  | list k1 k2 k3 k4 => exact .str_list b u ⟨_, k1, k2, _, k3⟩ hu
  | tuple k1 k2 k3 k4 => exact .str_tuple b u ⟨_, k1, k2, _, k3⟩ hu
  | dict k1 k2 k3 k4 k5 =>
    rename_i o _ _ _ _ _
    obtain ⟨cl, dd, dt, sl⟩ := o

    subst k2 k3
    exact .str_dict b u k1 hu
theorem rcAt_str {v : Value} {d : PyData} {as : List Addr} (b : Str) (u : Tok) (r : Reads s.heap v d as) (hu : A.units < cLine) : SeqAt.RcAt A s v (.str b u) (isStrD b d) := by
  cases r with
  | none => exact .none_str b u
  | bool k => exact .bool_str k b u
  | int i t => exact .int_str i t b u
  | str x t =>
    have q := SeqAt.RcAt.str_str (A := A) (s := s) x t b u
    have e : (x == b) = isStrD b (.str x) := by
      show (x == b) = (b == x)
      exact Bool.beq_comm
    rwa [e] at q
  | list k1 k2 k3 k4 => exact .list_str b u ⟨_, k1, k2, _, k3⟩ hu
  | tuple k1 k2 k3 k4 => exact .tuple_str b u ⟨_, k1, k2, _, k3⟩ hu
  | dict k1 k2 k3 k4 k5 =>
    rename_i o _ _ _ _ _
    obtain ⟨cl, dd, dt, sl⟩ := o

    subst k2 k3
    exact .dict_str b u k1 hu
theorem rcNeAt_str {v : Value} {d : PyData} {as : List Addr} (b : Str) (u : Tok) (r : Reads s.heap v d as) (hu : A.units < cLine) : SeqAt.RcNeAt A s v (.str b u) (!isStrD b d) := by
  cases r with
  | none => exact .none_str b u
  | bool k => exact .bool_str k b u
  | int i t => exact .int_str i t b u
  | str x t =>
    have q := SeqAt.RcNeAt.str_str (A := A) (s := s) x t b u
    have e : (x == b) = isStrD b (.str x) := by
      show (x == b) = (b == x)
      exact Bool.beq_comm
    rwa [e] at q
  | list k1 k2 k3 k4 => exact .list_str b u ⟨_, k1, k2, _, k3⟩ hu
  | tuple k1 k2 k3 k4 => exact .tuple_str b u ⟨_, k1, k2, _, k3⟩ hu
  | dict k1 k2 k3 k4 k5 =>
    rename_i o _ _ _ _ _
    obtain ⟨cl, dd, dt, sl⟩ := o

    subst k2 k3
    exact .dict_str b u k1 hu
end
end KL
set_option Elab.async false
set_option linter.all false
set_option maxRecDepth 100000
set_option maxHeartbeats 2000000
namespace KL
open PySem L2 PySem.Spec PyProof.Rows
def isTop : PyData → Bool
  | .dict _ => true
  | _ => false
section
variable {X : Cx} {pins : List (Addr × Obj)} {σ : L2.St} {H : Hp} {s : Shared}
mutual
theorem Dq.reads (I : Inv X pins σ H s) : ∀ (d : PyData) (v : V) (u : Value), Dq H v d → RelV v u → ∃ as, Reads s.heap u d as ∧ (isTop d = true → sysModules ∉ as)
  | .none, _, _, h, r => by
    cases h
    cases r
    exact ⟨_, .none, fun z => by cases z⟩
  | .bool b, _, _, h, r => by
    cases h
    cases r
    exact ⟨_, .bool b, fun z => by cases z⟩
  | .int i, _, _, h, r => by
    cases h
    obtain ⟨t, rfl⟩ := r
    exact ⟨_, .int i t, fun z => by cases z⟩
  | .str x, _, _, h, r => by
    cases h
    obtain ⟨t, rfl⟩ := r
    exact ⟨_, .str x t, fun z => by cases z⟩
  | .list ds, _, _, h, r => by
    cases h with
    | lst q ha =>
      cases r
      obtain ⟨_, its, n, rv, ho⟩ := I.hok _ _ q
      obtain ⟨as, hr⟩ := DqAll.reads I ds _ its ha rv
      exact ⟨_, .list ho rfl rfl hr, fun z => by cases z⟩
  | .tuple ds, _, _, h, r => by
    cases h with
    | tup q ha =>
      cases r
      obtain ⟨_, its, rv, o, h1, h2, n, h3⟩ := I.hok _ _ q
      obtain ⟨as, hr⟩ := DqAll.reads I ds _ its ha rv
      exact ⟨_, .tuple h1 h2 h3 hr, fun z => by cases z⟩
  | .dict kvs, _, _, h, r => by
    cases h with
    | dct0 q =>
      cases r
      obtain ⟨_, ns, vs, rv, o, es, ep, h1, h2, h3, _, h5, _⟩ := I.hok _ _ q
      cases rv
      have e0 : es.toList = [] := by
        cases e : es.toList with
        | nil => rfl
        | cons x y =>
          rw [e] at h5
          cases h5
      refine ⟨_, .dict h1 h2.1 h3 (as := []) (bs := []) (by rw [e0]; exact .nil) (by rw [e0]; exact .nil), fun _ z => ?_⟩
      simp at z
      rw [← z] at ns
      simp at ns
    | @dct1 a0 x0 i0 q =>
      cases r
      obtain ⟨_, ns, vs, rv, o, es, ep, h1, h2, h3, _, h5, _⟩ := I.hok _ _ q
      cases rv with
      | cons r1 r2 =>
        cases r2
        obtain ⟨r1, t, r3⟩ := r1
        have e1 : ∃ (e : DictEntry) (tk : Tok), es.toList = [e] ∧ e.key = .str x0 tk ∧ e.val = .int i0 t := by
          generalize es.toList = L at h5
          cases h5 with
          | cons k1 k2 k3 =>
            rename_i e es'
            cases k3
            have k1 : keyIs _ _ = true := k1
            rw [← r1] at k1
            rcases keyIs_shape k1 with ⟨_, _, z, _⟩ | ⟨y, tk, z, z2⟩
            · cases z
            · cases z
              exact ⟨e, tk, rfl, z2, k2.trans r3⟩
        obtain ⟨e, tk, e1, e2, e3⟩ := e1
        refine ⟨_, .dict h1 h2.1 h3 (as := [] ++ []) (bs := [] ++ []) ?_ ?_, fun _ z => ?_⟩
        · rw [e1, List.map_cons, e2]
          exact .cons (.str _ tk) .nil
        · rw [e1, List.map_cons, e3]
          exact .cons (.int _ t) .nil
        · simp at z
          rw [← z] at ns
          simp at ns
theorem DqAll.reads (I : Inv X pins σ H s) : ∀ (ds : List PyData) (vs : List V) (us : List Value), DqAll H vs ds → Vals vs us → ∃ as, ReadsAll s.heap us ds as
  | [], _, _, h, r => by
    cases h
    cases r
    exact ⟨_, .nil⟩
  | d :: ds, _, _, h, r => by
    cases h with
    | cons h1 h2 =>
      cases r with
      | cons r1 r2 =>
        obtain ⟨as, q1, _⟩ := Dq.reads I d _ _ h1 r1
        obtain ⟨bs, q2⟩ := DqAll.reads I ds _ _ h2 r2
        exact ⟨_, .cons q1 q2⟩
end
end
/-- x == y, y a text -/
def rEqStr (y0 : Bool) : R2 := fun x y H Q => ∃ d t, Dq H x d ∧ y = .str t ∧ Q (.bl (if y0 = true then isStrD t d else !isStrD t d)) H
section
variable {X : Cx}
theorem op_eqStr (hu : X.A.units + 64 < cLine) : OpR X (compareOp .Eq) (rEqStr true) := by
  intro pins s σ H x y v u Q I rx ry h
  obtain ⟨d, t, hd, rfl, q⟩ := h
  obtain ⟨as, r, _⟩ := Dq.reads I d x v hd rx
  obtain ⟨tk, rfl⟩ := ry
  exact rcAt_str t tk r (by omega) _ _ _ _ ⟨.bl _, H, I, rfl, q⟩
theorem op_neStr (hu : X.A.units + 64 < cLine) : OpR X (compareOp .NotEq) (rEqStr false) := by
  intro pins s σ H x y v u Q I rx ry h
  obtain ⟨d, t, hd, rfl, q⟩ := h
  obtain ⟨as, r, _⟩ := Dq.reads I d x v hd rx
  obtain ⟨tk, rfl⟩ := ry
  exact rcNeAt_str t tk r (by omega) _ _ _ _ ⟨.bl _, H, I, rfl, q⟩
end
/-- a text among texts -/
def strIs : PyData → PyData → Bool
  | .str x, d => isStrD x d
  | _, _ => false
def inD (es : List PyData) (d : PyData) : Bool := es.any fun e => strIs e d
def strB : PyData → Bool
  | .str _ => true
  | _ => false
def allStr (es : List PyData) : Bool := es.all strB
def vStr (d : PyData) : Value → Bool
  | .str x _ => isStrD x d
  | _ => false
theorem any_str {H : Hp} {d : PyData} : ∀ {es : List PyData} {ys : List V} {us : List Value}, DqAll H ys es → Vals ys us → allStr es = true → us.any (vStr d) = inD es d ∧ ∀ u ∈ us, ∃ x t, u = .str x t
  | [], _, _, h, r, _ => by
    cases h
    cases r
    exact ⟨rfl, fun u hu => by simp at hu⟩
  | e :: es, _, _, h, r, a => by
    cases h with
    | cons h1 h2 =>
      cases r with
      | cons r1 r2 =>
        rename_i u us
        have a' := Bool.and_eq_true_iff.mp (show (strB e && allStr es) = true from a)
        obtain ⟨q1, q2⟩ := any_str (d := d) h2 r2 a'.2
        cases h1 with
        | str x =>
          obtain ⟨t, rfl⟩ := r1
          refine ⟨?_, fun u' hu => ?_⟩
          · show (vStr d (.str x t) || us.any (vStr d)) = _
            rw [q1]
            rfl
          · rcases List.mem_cons.mp hu with rfl | hu
            · exact ⟨x, t, rfl⟩
            · exact q2 u' hu
        | _ => exact absurd a'.1 (by simp [strB])
def rInStr (neg : Bool) : R2 := fun x y H Q => ∃ d p ys es, Dq H x d ∧ y = .ref p ∧ H p = some (.lst ys) ∧ DqAll H ys es ∧ allStr es = true ∧ Q (.bl (if neg = true then !inD es d else inD es d)) H
section
variable {X : Cx}
theorem op_inStr (hu : X.A.units + 64 < cLine) : OpR X (compareOp .In) (rInStr false) := by
  intro pins s σ H x y v u Q I rx ry h
  obtain ⟨d, p, ys, es, hd, rfl, hp, he, ha, q⟩ := h
  obtain ⟨as, r, _⟩ := Dq.reads I d x v hd rx
  cases (show u = Value.ref p from ry)
  obtain ⟨_, its, n, rv, ho⟩ := I.hok _ _ hp
  obtain ⟨q1, q2⟩ := any_str (d := d) he rv ha
  refine SeqAt.in_listAt (vStr d) ⟨_, ho, rfl, n, rfl⟩ (fun y hy => ?_) ⟨.bl _, H, I, rfl, ?_⟩
  · obtain ⟨z, t, rfl⟩ := q2 y (by simpa using hy)
    exact eqAt_str z t r (by show X.A.units + 1 < cLine; omega)
  · rw [List.any_toArray, q1]
    exact q
theorem op_notInStr (hu : X.A.units + 64 < cLine) : OpR X (compareOp .NotIn) (rInStr true) := by
  intro pins s σ H x y v u Q I rx ry h
  obtain ⟨d, p, ys, es, hd, rfl, hp, he, ha, q⟩ := h
  obtain ⟨as, r, _⟩ := Dq.reads I d x v hd rx
  cases (show u = Value.ref p from ry)
  obtain ⟨_, its, n, rv, ho⟩ := I.hok _ _ hp
  obtain ⟨q1, q2⟩ := any_str (d := d) he rv ha
  refine SeqAt.notIn_listAt (vStr d) ⟨_, ho, rfl, n, rfl⟩ (fun y hy => ?_) ⟨.bl _, H, I, rfl, ?_⟩
  · obtain ⟨z, t, rfl⟩ := q2 y (by simpa using hy)
    exact eqAt_str z t r (by show X.A.units + 1 < cLine; omega)
  · rw [List.any_toArray, q1]
    exact q
end
end KL
set_option Elab.async false
set_option linter.all false
set_option maxRecDepth 100000
set_option maxHeartbeats 2000000
namespace KL
open PySem L2 PySem.Spec PyProof.Rows
abbrev sIsSource : Stmt := top 26
abbrev sAreForms : Stmt := top 27
abbrev sAreMarks : Stmt := top 28
abbrev sIsArrow : Stmt := top 29
abbrev sIsTest : Stmt := top 30
abbrev sChkArrows : Stmt := top 31
abbrev sChkTests : Stmt := top 32
abbrev sAreLooks : Stmt := top 33
/-- what stands of a house so far -/
structure Kit where
  pe : Int
  pl : Int
  lo : Int
  dd : List PyData
  n : Nat
structure Hs (H : Hp) (v : V) (C : Addr) (k : Kit) : Prop where
  ex : ∃ a dx fs, v = .ref a ∧ H a = some (.ins C dx fs) ∧ fs.lookup ("people" : Str) = some (.int k.pe) ∧ fs.lookup ("places" : Str) = some (.int k.pl) ∧ fs.lookup ("logs" : Str) = some (.int k.lo) ∧
    (∃ q xs, fs.lookup ("deeds" : Str) = some (.ref q) ∧ H q = some (.tup xs) ∧ DqAll H xs k.dd) ∧ ∃ q xs, fs.lookup ("start" : Str) = some (.ref q) ∧ H q = some (.tup xs) ∧ xs.length = k.n
  dd : deedsD k.pe (.tuple k.dd) = true
  n1 : 1 ≤ k.n
  n3 : k.n ≤ 3
theorem Hs.same {H H' : Hp} {v : V} {C : Addr} {k : Kit} (h : Hs H v C k) (S : Same H H') : Hs H' v C k := by
  obtain ⟨⟨a, dx, fs, e, ha, h1, h2, h3, ⟨q, xs, h4, h5, h6⟩, q', xs', h7, h8, h9⟩, h10, h11, h12⟩ := h
  exact ⟨⟨a, dx, fs, e, S _ _ ha, h1, h2, h3, ⟨q, xs, h4, S _ _ h5, DqAll.same S _ _ h6⟩, q', xs', h7, S _ _ h8, h9⟩, h10, h11, h12⟩
structure TxtH (K : PySem.W.Frag) (C : Addr) : Prop where
  c : Cls K C
  people : NoAttr K C "people"
  deeds : NoAttr K C "deeds"
  start : NoAttr K C "start"
  places : NoAttr K C "places"
  ends : NoAttr K C "ends"
  logs : NoAttr K C "logs"
  arrows : NoAttr K C "arrows"
  tests : NoAttr K C "tests"
  looks : NoAttr K C "looks"
def spHs (C : Addr) (f : Kit → PyData → Bool) : Sp := fun vs H Q _ => ∃ (hv v : V) (d : PyData) (kt : Kit), vs = [hv, v] ∧ Hs H hv C kt ∧ Dq H v d ∧ smB d = true ∧ ∀ H', Same H H' → Q (.bl (f kt d)) H'
def spHs2 (C : Addr) (f : Kit → PyData → PyData → Bool) : Sp := fun vs H Q _ => ∃ (hv v v2 : V) (d d2 : PyData) (kt : Kit), vs = [hv, v, v2] ∧ Hs H hv C kt ∧ Dq H v d ∧ Dq H v2 d2 ∧ smB d = true ∧ smB d2 = true ∧ ∀ H', Same H H' → Q (.bl (f kt d d2)) H'
def srcD (k : Kit) (s d : PyData) : Bool := betD 0 (k.pl - 1) s && inD (k.dd.map (itemD 0)) d
def formsD (k : Kit) (d : PyData) : Bool := isTupD d && allD (formD k.n) d
def markD (d : PyData) : Bool := letD d || isStrD "" d
def marksD (k : Kit) (d : PyData) : Bool := tupD k.lo k.lo d && allD markD d
section
variable {P : Program} {w : World} {K : PySem.W.Frag} {mg : Str → Option Value} {base : Heap} {C : Addr}
theorem deeds_str {n : Int} {ds : List PyData} (h : deedsD n (.tuple ds) = true) : allStr (ds.map (itemD 0)) = true := by
  simp only [deedsD, Bool.and_eq_true] at h
  obtain ⟨h1, h2, h3⟩ := h
  have h2 : ds.all (deedD n) = true := h2
  show (ds.map (itemD 0)).all strB = true
  rw [List.all_map, List.all_eq_true]
  intro d hd
  obtain ⟨x, i, rfl, _⟩ := deed_of (List.all_eq_true.mp h2 d hd)
  rfl
theorem deeds_len {n : Int} {ds : List PyData} (h : deedsD n (.tuple ds) = true) : ds.length ≤ 5 := by
  simp only [deedsD, Bool.and_eq_true] at h
  obtain ⟨_, e, _, l2⟩ := tup_of h.1
  cases e
  omega
theorem scSource : FnScope ["house", "source", "deed", "letter", "owner"] ["house", "source", "deed"] (defScope sIsSource) := ⟨rfl, rfl, rfl, by decide +kernel, rfl, by decide +kernel, by decide +kernel⟩
theorem ok_source {f g : Addr} {fd gd : FuncData} (F : Fun K "is_source_and_deed" "is_source_and_deed" sIsSource f fd) (TH : TxtH K C) (G : FnOk P w K mg base CX0 2 g gd ["thing", "low", "high"] (spTest2 betD)) (c : Cal K mg "is_between" g gd ["thing", "low", "high"]) :
    FnOk P w K mg base CX0 3 f fd ["house", "source", "deed"] (spHs2 C srcD) := by
  refine F.ok scSource (fun vs H Q E h => ?_) (fun cdv A outer s H vs Q E hr h => ?_)
  · obtain ⟨hv, v, v2, d, d2, kt, rfl, _⟩ := h
    rfl
  · obtain ⟨hv, v, v2, d, d2, kt, rfl, hh, hd, hd2, sm, sm2, k⟩ := h
    refine ⟨_, pss_one (ps_ret (pe_and (pe_call G hr (by rfl) c.m c.k c.b .nil pass0 (pa_cons (pv 1) (pa_cons pe_int (pa_cons (pe_op op_sub (pe_fld (pv 0) (by rfl)) pe_int) pa_nil))))
      (pe_one (pe_cmpR (op_inStr hr.units) (pv 2) (pe_lc (own := [("letter", 3), ("owner", 4)]) (g := gTup K 2 (gCons (gName 3) (gCons (gName 4) gNil))) (tt := tYes) rfl scSource.nd (pi_tup (pe_fld (pv 0) (by rfl))) (blkOk_by (N := ["house", "source", "deed", "letter", "owner"]) (sc := defScope sIsSource) (by decide +kernel)) (fun _ _ _ _ _ => pg_tup rfl (pgs_cons (pg_name (i := 3) scSource.nd rfl (.inl rfl)) (pgs_cons (pg_name (i := 4) scSource.nd rfl (.inl rfl)) pgs_nil))) (fun _ _ _ _ _ => pts_nil)
        (fun _ _ _ _ _ => pv 3)) (by rfl))))), ?_⟩
    obtain ⟨a, dx, fs, rfl, ha, h1, h2, h3, ⟨q, xs, h4, h5, h6⟩, _⟩ := hh.ex
    refine ⟨_, rfl, _, rfl, a, C, dx, fs, _, rfl, ha, TH.c, TH.places, h2, _, _, rfl, rfl, v, d, 0, kt.pl - 1, rfl, hd, sm, fun H1 S1 => ⟨_, rfl, ?_⟩⟩
    by_cases hb : betD 0 (kt.pl - 1) d = true
    · refine iteYes hb ?_
      refine ⟨_, rfl, _, rfl, a, C, dx, fs, _, rfl, S1 _ _ ha, TH.c, TH.deeds, h4, q, rfl, ⟨_, SqT.of (S1 _ _ h5)⟩, fun B nB => ?_⟩
      refine lc_tup (K := K) (a := q) (xs := xs) (fun i H3 => MadeQ H1 B ((kt.dd.take i).map (itemD 0)) H3) (MadeQ.start nB) (fun i H3 _ M => SqT.of (M.1 _ _ (S1 _ _ h5))) ?_ ?_
      · rintro i x H3 hx M3
        obtain ⟨d', hd', hq⟩ := DqAll.at h6 hx
        have hi : i < kt.dd.length := (List.getElem?_eq_some_iff.mp hd').1
        have hdd := hh.dd
        simp only [deedsD, Bool.and_eq_true] at hdd
        have hdd := all_at (f := deedD kt.pe) hdd.2.1 hi
        rw [getD_of hd'] at hdd
        obtain ⟨lt, ow, rfl, _, _, _⟩ := deed_of hdd
        cases hq with
        | tup e' ha' =>
          cases ha' with
          | cons q1 r1 =>
            cases r1 with
            | cons q2 r2 =>
              cases r2
              rename_i b y0 y1
              refine ⟨b, _, rfl, SqT.of (M3.1 _ _ (S1 _ _ e')), rfl, y0, _, rfl, y1, _, rfl, rfl, rfl, ?_⟩
              refine ⟨_, rfl, ?_⟩
              exact M3.turn nB (Same.refl _) (Nat.le_trans (deeds_len hh.dd) (by decide)) hd' (Dq.same S1 _ y0 q1)
      · rintro H3 M3
        rw [h6.len, List.take_length] at M3
        obtain ⟨S3, ys, hy, hq⟩ := M3
        refine ⟨d2, B, ys, kt.dd.map (itemD 0), Dq.same (S1.trans S3) d2 v2 hd2, rfl, hy, DqAll.same S3 _ ys hq, deeds_str hh.dd, ?_⟩
        have q := k H3 (S1.trans S3)
        have e : srcD kt d d2 = inD (kt.dd.map (itemD 0)) d2 := by simp only [srcD, hb, Bool.true_and]
        rw [e] at q
        exact q
    · refine iteNo (by simpa using hb) ?_
      have q := k H1 S1
      have e : srcD kt d d2 = false := by simp only [srcD, hb, Bool.false_and]
      rw [e] at q
      exact q
theorem scForms : FnScope ["house", "thing", "count", "item"] ["house", "thing"] (defScope sAreForms) := ⟨rfl, rfl, rfl, by decide +kernel, rfl, by decide +kernel, by decide +kernel⟩
theorem ok_forms {f g : Addr} {fd gd : FuncData} (F : Fun K "are_forms" "are_forms" sAreForms f fd) (T : TxtB mg) (TH : TxtH K C) (G : FnOk P w K mg base CX0 2 g gd ["count", "thing"] spForm) (c : Cal K mg "is_form" g gd ["count", "thing"]) :
    FnOk P w K mg base CX0 3 f fd ["house", "thing"] (spHs C formsD) := by
  refine F.ok scForms (fun vs H Q E h => ?_) (fun cdv A outer s H vs Q E hr h => ?_)
  · obtain ⟨hv, v, d, kt, rfl, _⟩ := h
    rfl
  · obtain ⟨hv, v, d, kt, rfl, hh, hd, sm, k⟩ := h
    refine ⟨_, pss_cons (ps_set (i := 2) scForms.nd rfl (.inr rfl) (pe_callB call_len_seq (by rfl) T.len PySem.boot_len (pa_cons (pe_fld (pv 0) (by rfl)) pa_nil)))
      (pss_one (ps_ret (pe_and (pe_callB call_isD (by rfl) T.isi (by decide +kernel) (pa_cons (pv 1) (pa_cons (pe_bltn (v := .ty "tuple") (by rfl) T.tuple (by decide +kernel) rfl) pa_nil)))
        (pe_one (pe_callB (cr_all rfl) (by rfl) T.all (by decide +kernel) (pa_cons (pe_lc (own := [("item", 3)]) (g := gName 3) (tt := tYes) rfl scForms.nd (pi_tup (pv 1)) (blkOk_by (N := ["house", "thing", "count", "item"]) (sc := defScope sAreForms) (by decide +kernel)) (fun _ _ _ _ _ => pg_name (i := 3) scForms.nd rfl (.inl rfl)) (fun _ _ _ _ _ => pts_nil)
          (fun _ _ _ _ _ => pe_call G hr (by rfl) c.m c.k c.b .nil pass0 (pa_cons (pv 2) (pa_cons (pv 3) pa_nil)))) pa_nil)))))), ?_⟩
    obtain ⟨a, dx, fs, rfl, ha, h1, h2, h3, _, q, xs, h4, h5, h6⟩ := hh.ex
    refine ⟨_, rfl, a, C, dx, fs, _, rfl, ha, TH.c, TH.start, h4, q, xs, rfl, .inr (SqT.of h5), ?_⟩
    refine ⟨_, rfl, v, d, "tuple", rfl, by decide, hd, _, rfl, ?_⟩
    rw [h6]
    cases hd with
    | tup e hda =>
      rename_i b ys ds
      refine iteYes rfl ?_
      refine ⟨_, rfl, b, rfl, ⟨_, SqT.of e⟩, fun D nD => ?_⟩
      refine lc_tup (K := K) (a := b) (xs := ys) (fun i H2 => MadeTo H D (((ds.take i).map (formD kt.n)).map V.bl) H2) ⟨same_new nD, upd_same⟩ (fun i H2 _ M => SqT.of (M.1 _ _ e)) ?_ ?_
      · rintro i x H2 hx M
        obtain ⟨d', hd', hq⟩ := DqAll.at hda hx
        exact ⟨rfl, _, rfl, _, rfl, x, d', kt.n, rfl, Dq.same M.1 d' x hq, sm_at (sm_all sm) hd', fun H3 S3 => M.turn nD S3 (sm_len sm) hd'⟩
      · rintro H2 M
        rw [hda.len, List.take_length] at M
        refine ⟨D, _, rfl, SqL.of M.2, ?_⟩
        have q := k H2 M.1
        have e : formsD kt (.tuple ds) = (ds.map (formD kt.n)).all id := by simp only [formsD, isTupD, Bool.true_and, allD_map]
        rw [e] at q
        exact q
    | non => exact iteNo rfl (k H (Same.refl H))
    | bl _ => exact iteNo rfl (k H (Same.refl H))
    | int _ => exact iteNo rfl (k H (Same.refl H))
    | str _ => exact iteNo rfl (k H (Same.refl H))
    | lst _ _ => exact iteNo rfl (k H (Same.refl H))
    | dct0 _ => exact iteNo rfl (k H (Same.refl H))
    | dct1 _ => exact iteNo rfl (k H (Same.refl H))
theorem scMarks : FnScope ["house", "thing", "item"] ["house", "thing"] (defScope sAreMarks) := ⟨rfl, rfl, rfl, by decide +kernel, rfl, by decide +kernel, by decide +kernel⟩
theorem ok_marks {f g1 g2 : Addr} {fd gd1 gd2 : FuncData} (F : Fun K "are_marks" "are_marks" sAreMarks f fd) (T : TxtB mg) (TH : TxtH K C) (G1 : FnOk P w K mg base CX0 1 g1 gd1 ["thing", "low", "high"] (spTest2 tupD)) (c1 : Cal K mg "is_tuple_of" g1 gd1 ["thing", "low", "high"])
    (G2 : FnOk P w K mg base CX0 1 g2 gd2 ["thing"] (spTest letD)) (c2 : Cal K mg "is_letter" g2 gd2 ["thing"]) : FnOk P w K mg base CX0 2 f fd ["house", "thing"] (spHs C marksD) := by
  refine F.ok scMarks (fun vs H Q E h => ?_) (fun cdv A outer s H vs Q E hr h => ?_)
  · obtain ⟨hv, v, d, kt, rfl, _⟩ := h
    rfl
  · obtain ⟨hv, v, d, kt, rfl, hh, hd, sm, k⟩ := h
    refine ⟨_, pss_cons (ps_if (pt_not (pt_val (pe_call G1 hr (by rfl) c1.m c1.k c1.b .nil pass0 (pa_cons (pv 1) (pa_cons (pe_fld (pv 0) (by rfl)) (pa_cons (pe_fld (pv 0) (by rfl)) pa_nil)))))) (pss_one (ps_ret pe_bl)) pss_nil)
      (pss_one (ps_ret (pe_callB (cr_all rfl) (by rfl) T.all (by decide +kernel) (pa_cons (pe_lc (own := [("item", 2)]) (g := gName 2) (tt := tYes) rfl scMarks.nd (pi_tup (pv 1)) (blkOk_by (N := ["house", "thing", "item"]) (sc := defScope sAreMarks) (by decide +kernel)) (fun _ _ _ _ _ => pg_name (i := 2) scMarks.nd rfl (.inl rfl)) (fun _ _ _ _ _ => pts_nil)
          (fun _ _ _ _ _ => pe_or (pe_call G2 hr (by rfl) c2.m c2.k c2.b .nil pass0 (pa_cons (pv 2) pa_nil)) (pe_one (pe_cmpR (op_eqStr hr.units) (pv 2) pe_str (nomark _))))) pa_nil)))), ?_⟩
    obtain ⟨a, dx, fs, rfl, ha, h1, h2, h3, _⟩ := hh.ex
    refine ⟨_, rfl, _, rfl, a, C, dx, fs, _, rfl, ha, TH.c, TH.logs, h3, _, rfl, a, C, dx, fs, _, rfl, ha, TH.c, TH.logs, h3, v, d, kt.lo, kt.lo, rfl, hd, sm, fun H1 S1 => ⟨_, rfl, ?_⟩⟩
    by_cases hb : tupD kt.lo kt.lo d = true
    · refine iteNo (by rw [hb]; rfl) ?_
      obtain ⟨ds, rfl, l1, l2⟩ := tup_of hb
      cases hd with
      | tup e hda =>
        rename_i b ys
        refine ⟨_, rfl, b, rfl, ⟨_, SqT.of (S1 _ _ e)⟩, fun D nD => ?_⟩
        refine lc_tup (K := K) (a := b) (xs := ys) (fun i H2 => MadeTo H1 D (((ds.take i).map markD).map V.bl) H2) ⟨same_new nD, upd_same⟩ (fun i H2 _ M => SqT.of (M.1 _ _ (S1 _ _ e))) ?_ ?_
        · rintro i x H2 hx M
          obtain ⟨d', hd', hq⟩ := DqAll.at hda hx
          refine ⟨rfl, _, rfl, x, d', rfl, Dq.same (S1.trans M.1) d' x hq, sm_at (sm_all sm) hd', fun H3 S3 => ⟨_, rfl, ?_⟩⟩
          by_cases hl : letD d' = true
          · refine iteYes hl ?_
            have e : markD d' = true := by simp only [markD, hl, Bool.true_or]
            have q := M.turn (g := markD) nD S3 (sm_len sm) hd'
            rw [e] at q
            exact q
          · refine iteNo (by simpa using hl) ?_
            refine ⟨_, rfl, d', "", Dq.same (S1.trans (M.1.trans S3)) d' x hq, rfl, ?_⟩
            have e : markD d' = isStrD "" d' := by simp only [markD, hl, Bool.false_or]
            have q := M.turn (g := markD) nD S3 (sm_len sm) hd'
            rw [e] at q
            exact q
        · rintro H2 M
          rw [hda.len, List.take_length] at M
          refine ⟨D, _, rfl, SqL.of M.2, ?_⟩
          have q := k H2 (S1.trans M.1)
          have e : marksD kt (.tuple ds) = (ds.map markD).all id := by simp only [marksD, hb, Bool.true_and, allD_map]
          rw [e] at q
          exact q
    · refine iteYes (by simpa using hb) ?_
      have q := k H1 S1
      have e : marksD kt d = false := by simp only [marksD, hb, Bool.false_and]
      rw [e] at q
      exact q
end
end KL
set_option Elab.async false
set_option linter.all false
set_option maxRecDepth 100000
set_option maxHeartbeats 2000000
namespace KL
open PySem L2 PySem.Spec PyProof.Rows
def lenIs (n : Nat) (d : PyData) : Bool := decide ((itemsD d).length = n)
def arrowD (k : Kit) (d : PyData) : Bool := tupD 5 5 d && (srcD k (itemD 0 d) (itemD 1 d) && (betD 0 (k.pl - 1) (itemD 2 d) && (formsD k (itemD 3 d) && (lenIs k.n (itemD 3 d) && marksD k (itemD 4 d)))))
def leD : PyData → PyData → Bool
  | .int i, .int j => decide (i ≤ j)
  | _, _ => false
def testD (k : Kit) (d : PyData) : Bool := tupD 5 5 d && (srcD k (itemD 0 d) (itemD 1 d) && (formD k.n (itemD 2 d) && (intD (itemD 3 d) && (intD (itemD 4 d) && leD (itemD 3 d) (itemD 4 d)))))
def looksD (k : Kit) (d : PyData) : Bool := tupD k.pe k.pe d && (allD (tupD k.pl k.pl) d && allD (allD (formsD k)) d)
theorem five {ds : List PyData} (h1 : (5 : Int) ≤ (ds.length : Int)) (h2 : (ds.length : Int) ≤ 5) : ∃ a b c d e, ds = [a, b, c, d, e] := by
  match ds, h1, h2 with
  | [a, b, c, d, e], _, _ => exact ⟨a, b, c, d, e, rfl⟩
  | [], h, _ => simp at h
  | [_], h, _ => simp at h
  | [_, _], h, _ => simp at h
  | [_, _, _], h, _ => simp at h
  | [_, _, _, _], h, _ => simp at h
  | _ :: _ :: _ :: _ :: _ :: _ :: _, _, h =>
    simp at h
    omega
theorem isT_of {d : PyData} (h : isTupD d = true) : ∃ ds, d = .tuple ds := by
  cases d with
  | tuple ds => exact ⟨ds, rfl⟩
  | _ => cases h
theorem int_of {d : PyData} (h : intD d = true) : ∃ i, d = .int i := by
  cases d with
  | int i => exact ⟨i, rfl⟩
  | _ => cases h
section
variable {P : Program} {w : World} {K : PySem.W.Frag} {mg : Str → Option Value} {base : Heap} {C : Addr}
theorem scArrow : FnScope ["house", "thing", "source", "deed", "target", "forms", "marks"] ["house", "thing"] (defScope sIsArrow) := ⟨rfl, rfl, rfl, by decide +kernel, rfl, by decide +kernel, by decide +kernel⟩
theorem ok_arrow {f g1 g2 g3 g4 g5 : Addr} {fd gd1 gd2 gd3 gd4 gd5 : FuncData} (F : Fun K "is_arrow" "is_arrow" sIsArrow f fd) (T : TxtB mg) (TH : TxtH K C) (G1 : FnOk P w K mg base CX0 1 g1 gd1 ["thing", "low", "high"] (spTest2 tupD)) (c1 : Cal K mg "is_tuple_of" g1 gd1 ["thing", "low", "high"])
    (G2 : FnOk P w K mg base CX0 3 g2 gd2 ["house", "source", "deed"] (spHs2 C srcD)) (c2 : Cal K mg "is_source_and_deed" g2 gd2 ["house", "source", "deed"]) (G3 : FnOk P w K mg base CX0 2 g3 gd3 ["thing", "low", "high"] (spTest2 betD)) (c3 : Cal K mg "is_between" g3 gd3 ["thing", "low", "high"])
    (G4 : FnOk P w K mg base CX0 3 g4 gd4 ["house", "thing"] (spHs C formsD)) (c4 : Cal K mg "are_forms" g4 gd4 ["house", "thing"]) (G5 : FnOk P w K mg base CX0 2 g5 gd5 ["house", "thing"] (spHs C marksD)) (c5 : Cal K mg "are_marks" g5 gd5 ["house", "thing"]) :
    FnOk P w K mg base CX0 4 f fd ["house", "thing"] (spHs C arrowD) := by
  refine F.ok scArrow (fun vs H Q E h => ?_) (fun cdv A outer s H vs Q E hr h => ?_)
  · obtain ⟨hv, v, d, kt, rfl, _⟩ := h
    rfl
  · obtain ⟨hv, v, d, kt, rfl, hh, hd, sm, k⟩ := h
    have hr1 : Room 1 _ := hr.mono (by decide)
    have hr2 : Room 2 _ := hr.mono (by decide)
    have hr3 : Room 3 _ := hr.mono (by decide)
    refine ⟨_, pss_cons (ps_if (pt_not (pt_val (pe_call G1 hr1 (by rfl) c1.m c1.k c1.b .nil pass0 (pa_cons (pv 1) (pa_cons pe_int (pa_cons pe_int pa_nil)))))) (pss_one (ps_ret pe_bl)) pss_nil)
      (pss_cons (ps_asg (pv 1) (g := gTup K 5 (gCons (gName 2) (gCons (gName 3) (gCons (gName 4) (gCons (gName 5) (gCons (gName 6) gNil)))))) (pg_tup rfl (pgs_cons (pg_name (i := 2) scArrow.nd rfl (.inl rfl)) (pgs_cons (pg_name (i := 3) scArrow.nd rfl (.inl rfl)) (pgs_cons (pg_name (i := 4) scArrow.nd rfl (.inl rfl)) (pgs_cons (pg_name (i := 5) scArrow.nd rfl (.inl rfl)) (pgs_cons (pg_name (i := 6) scArrow.nd rfl (.inl rfl)) pgs_nil)))))))
      (pss_cons (ps_if (PW.pt (pw_or (pt_not (pt_val (pe_call G2 hr3 (by rfl) c2.m c2.k c2.b .nil pass0 (pa_cons (pv 0) (pa_cons (pv 2) (pa_cons (pv 3) pa_nil)))))) (pw_or1 (pt_not (pt_val (pe_call G3 hr2 (by rfl) c3.m c3.k c3.b .nil pass0 (pa_cons (pv 4) (pa_cons pe_int (pa_cons (pe_op op_sub (pe_fld (pv 0) (by rfl)) pe_int) pa_nil))))))))) (pss_one (ps_ret pe_bl)) pss_nil)
      (pss_one (ps_ret (pe_and (pe_call G4 hr3 (by rfl) c4.m c4.k c4.b .nil pass0 (pa_cons (pv 0) (pa_cons (pv 5) pa_nil)))
        (pe_and (pe_cmpR op_eq (pe_callB call_len_seq (by rfl) T.len PySem.boot_len (pa_cons (pv 5) pa_nil)) (pe_callB call_len_seq (by rfl) T.len PySem.boot_len (pa_cons (pe_fld (pv 0) (by rfl)) pa_nil)) (by rfl))
        (pe_one (pe_call G5 hr2 (by rfl) c5.m c5.k c5.b .nil pass0 (pa_cons (pv 0) (pa_cons (pv 6) pa_nil)))))))))), ?_⟩
    refine ⟨_, rfl, v, d, 5, 5, rfl, hd, sm, fun H1 S1 => ⟨_, rfl, ?_⟩⟩
    by_cases hb : tupD 5 5 d = true
    · refine iteNo (by rw [hb]; rfl) ?_
      obtain ⟨ds, rfl, l1, l2⟩ := tup_of hb
      obtain ⟨d0, d1, d2, d3, d4, rfl⟩ := five l1 l2
      cases hd with
      | @tup b xs _ e hda =>
        cases hda with
        | @cons y0 _ _ _ q0 hda =>
        cases hda with
        | @cons y1 _ _ _ q1 hda =>
        cases hda with
        | @cons y2 _ _ _ q2 hda =>
        cases hda with
        | @cons y3 _ _ _ q3 hda =>
        cases hda with
        | @cons y4 _ _ _ q4 hda =>
        cases hda
        have sA := sm_all sm
        have s0 : smB d0 = true := sm_at (i := 0) sA rfl
        have s1 : smB d1 = true := sm_at (i := 1) sA rfl
        have s2 : smB d2 = true := sm_at (i := 2) sA rfl
        have s3 : smB d3 = true := sm_at (i := 3) sA rfl
        have s4 : smB d4 = true := sm_at (i := 4) sA rfl
        refine ⟨_, rfl, b, _, rfl, SqT.of (S1 _ _ e), rfl, y0, _, rfl, y1, _, rfl, y2, _, rfl, y3, _, rfl, y4, _, rfl, rfl, ?_⟩
        refine ⟨_, rfl, y0, rfl, y1, rfl, hv, y0, y1, d0, d1, kt, rfl, hh.same S1, Dq.same S1 _ _ q0, Dq.same S1 _ _ q1, s0, s1, fun H2 S2 => ⟨_, rfl, ?_⟩⟩
        have S12 := S1.trans S2
        by_cases h1 : srcD kt d0 d1 = true
        · refine iteNo (by rw [h1]; rfl) ?_
          obtain ⟨a, dx, fs, rfl, ha, _, hpl, _, _, sq, sx, hst, hsq, hsn⟩ := (hh.same S12).ex
          refine ⟨_, rfl, _, rfl, a, C, dx, fs, _, rfl, ha, TH.c, TH.places, hpl, _, _, rfl, rfl, y2, d2, 0, kt.pl - 1, rfl, Dq.same S12 _ _ q2, s2, fun H3 S3 => ⟨_, rfl, ?_⟩⟩
          have S13 := S12.trans S3
          by_cases h2 : betD 0 (kt.pl - 1) d2 = true
          · refine iteNo (by rw [h2]; rfl) ?_
            refine ⟨_, rfl, y3, rfl, V.ref a, y3, d3, kt, rfl, hh.same S13, Dq.same S13 _ _ q3, s3, fun H4 S4 => ⟨_, rfl, ?_⟩⟩
            have S14 := S13.trans S4
            by_cases h3 : formsD kt d3 = true
            · refine iteYes h3 ?_
              obtain ⟨fds, rfl⟩ := isT_of (Bool.and_eq_true_iff.mp h3).1
              cases q3 with
              | @tup fb fxs _ fe fda =>
                refine ⟨_, rfl, fb, fxs, rfl, .inr (SqT.of (S14 _ _ fe)), _, rfl, a, C, dx, fs, _, rfl, (S3.trans S4) _ _ ha, TH.c, TH.start, hst, sq, sx, rfl, .inr (SqT.of ((S3.trans S4) _ _ hsq)), rfl, _, rfl, ?_⟩
                rw [hsn, fda.len]
                by_cases h4 : fds.length = kt.n
                · refine iteYes (decide_eq_true (by rw [h4])) ?_
                  refine ⟨_, rfl, y4, rfl, V.ref a, y4, d4, kt, rfl, hh.same S14, Dq.same S14 _ _ q4, s4, fun H5 S5 => ?_⟩
                  have q := k H5 (S14.trans S5)
                  have e : arrowD kt (.tuple [d0, d1, d2, .tuple fds, d4]) = marksD kt d4 := by
                    show (tupD 5 5 _ && (srcD kt d0 d1 && (betD 0 (kt.pl - 1) d2 && (formsD kt (.tuple fds) && (decide (fds.length = kt.n) && marksD kt d4))))) = _
                    rw [hb, h1, h2, h3, decide_eq_true h4]
                    rfl
                  rw [e] at q
                  exact q
                · refine iteNo (decide_eq_false fun z => h4 ?_) ?_
                  · injection z with z
                    omega
                  · have q := k H4 S14
                    have e : arrowD kt (.tuple [d0, d1, d2, .tuple fds, d4]) = false := by
                      show (tupD 5 5 _ && (srcD kt d0 d1 && (betD 0 (kt.pl - 1) d2 && (formsD kt (.tuple fds) && (decide (fds.length = kt.n) && marksD kt d4))))) = _
                      rw [hb, h1, h2, h3, decide_eq_false h4]
                      rfl
                    rw [e] at q
                    exact q
            · have h3 : formsD kt d3 = false := by simpa using h3
              refine iteNo h3 ?_
              have q := k H4 S14
              have e : arrowD kt (.tuple [d0, d1, d2, d3, d4]) = false := by
                show (tupD 5 5 _ && (srcD kt d0 d1 && (betD 0 (kt.pl - 1) d2 && (formsD kt d3 && (lenIs kt.n d3 && marksD kt d4))))) = _
                rw [hb, h1, h2, h3]
                rfl
              rw [e] at q
              exact q
          · have h2 : betD 0 (kt.pl - 1) d2 = false := by simpa using h2
            refine iteYes (by rw [h2]; rfl) ?_
            have q := k H3 S13
            have e : arrowD kt (.tuple [d0, d1, d2, d3, d4]) = false := by
              show (tupD 5 5 _ && (srcD kt d0 d1 && (betD 0 (kt.pl - 1) d2 && (formsD kt d3 && (lenIs kt.n d3 && marksD kt d4))))) = _
              rw [hb, h1, h2]
              rfl
            rw [e] at q
            exact q
        · have h1 : srcD kt d0 d1 = false := by simpa using h1
          refine iteYes (by rw [h1]; rfl) (iteYes rfl ?_)
          have q := k H2 S12
          have e : arrowD kt (.tuple [d0, d1, d2, d3, d4]) = false := by
            show (tupD 5 5 _ && (srcD kt d0 d1 && (betD 0 (kt.pl - 1) d2 && (formsD kt d3 && (lenIs kt.n d3 && marksD kt d4))))) = _
            rw [hb, h1]
            rfl
          rw [e] at q
          exact q
    · have hb : tupD 5 5 d = false := by simpa using hb
      refine iteYes (by rw [hb]; rfl) ?_
      have q := k H1 S1
      have e : arrowD kt d = false := by simp only [arrowD, hb, Bool.false_and]
      rw [e] at q
      exact q
end
end KL
set_option Elab.async false
set_option linter.all false
set_option maxRecDepth 100000
set_option maxHeartbeats 2000000
namespace KL
open PySem L2 PySem.Spec PyProof.Rows
section
variable {P : Program} {w : World} {K : PySem.W.Frag} {mg : Str → Option Value} {base : Heap} {C : Addr}
theorem scTest : FnScope ["house", "thing", "source", "deed", "form", "low", "high"] ["house", "thing"] (defScope sIsTest) := ⟨rfl, rfl, rfl, by decide +kernel, rfl, by decide +kernel, by decide +kernel⟩
theorem ok_test {f g1 g2 g3 g4 : Addr} {fd gd1 gd2 gd3 gd4 : FuncData} (F : Fun K "is_test" "is_test" sIsTest f fd) (T : TxtB mg) (TH : TxtH K C) (G1 : FnOk P w K mg base CX0 1 g1 gd1 ["thing", "low", "high"] (spTest2 tupD)) (c1 : Cal K mg "is_tuple_of" g1 gd1 ["thing", "low", "high"])
    (G2 : FnOk P w K mg base CX0 3 g2 gd2 ["house", "source", "deed"] (spHs2 C srcD)) (c2 : Cal K mg "is_source_and_deed" g2 gd2 ["house", "source", "deed"]) (G3 : FnOk P w K mg base CX0 2 g3 gd3 ["count", "thing"] spForm) (c3 : Cal K mg "is_form" g3 gd3 ["count", "thing"])
    (G4 : FnOk P w K mg base CX0 1 g4 gd4 ["thing"] (spTest intD)) (c4 : Cal K mg "is_int" g4 gd4 ["thing"]) :
    FnOk P w K mg base CX0 4 f fd ["house", "thing"] (spHs C testD) := by
  refine F.ok scTest (fun vs H Q E h => ?_) (fun cdv A outer s H vs Q E hr h => ?_)
  · obtain ⟨hv, v, d, kt, rfl, _⟩ := h
    rfl
  · obtain ⟨hv, v, d, kt, rfl, hh, hd, sm, k⟩ := h
    have hr1 : Room 1 _ := hr.mono (by decide)
    have hr2 : Room 2 _ := hr.mono (by decide)
    have hr3 : Room 3 _ := hr.mono (by decide)
    refine ⟨_, pss_cons (ps_if (pt_not (pt_val (pe_call G1 hr1 (by rfl) c1.m c1.k c1.b .nil pass0 (pa_cons (pv 1) (pa_cons pe_int (pa_cons pe_int pa_nil)))))) (pss_one (ps_ret pe_bl)) pss_nil)
      (pss_cons (ps_asg (pv 1) (g := gTup K 5 (gCons (gName 2) (gCons (gName 3) (gCons (gName 4) (gCons (gName 5) (gCons (gName 6) gNil)))))) (pg_tup rfl (pgs_cons (pg_name (i := 2) scTest.nd rfl (.inl rfl)) (pgs_cons (pg_name (i := 3) scTest.nd rfl (.inl rfl)) (pgs_cons (pg_name (i := 4) scTest.nd rfl (.inl rfl)) (pgs_cons (pg_name (i := 5) scTest.nd rfl (.inl rfl)) (pgs_cons (pg_name (i := 6) scTest.nd rfl (.inl rfl)) pgs_nil)))))))
      (pss_cons (ps_if (PW.pt (pw_or (pt_not (pt_val (pe_call G2 hr3 (by rfl) c2.m c2.k c2.b .nil pass0 (pa_cons (pv 0) (pa_cons (pv 2) (pa_cons (pv 3) pa_nil)))))) (pw_or1 (pt_not (pt_val (pe_call G3 hr2 (by rfl) c3.m c3.k c3.b .nil pass0 (pa_cons (pe_callB call_len_seq (by rfl) T.len PySem.boot_len (pa_cons (pe_fld (pv 0) (by rfl)) pa_nil)) (pa_cons (pv 4) pa_nil)))))))) (pss_one (ps_ret pe_bl)) pss_nil)
      (pss_one (ps_ret (pe_and (pe_call G4 hr1 (by rfl) c4.m c4.k c4.b .nil pass0 (pa_cons (pv 5) pa_nil))
        (pe_and (pe_call G4 hr1 (by rfl) c4.m c4.k c4.b .nil pass0 (pa_cons (pv 6) pa_nil))
        (pe_one (pe_cmpR op_le (pv 5) (pv 6) (nomark _))))))))), ?_⟩
    refine ⟨_, rfl, v, d, 5, 5, rfl, hd, sm, fun H1 S1 => ⟨_, rfl, ?_⟩⟩
    by_cases hb : tupD 5 5 d = true
    · refine iteNo (by rw [hb]; rfl) ?_
      obtain ⟨ds, rfl, l1, l2⟩ := tup_of hb
      obtain ⟨d0, d1, d2, d3, d4, rfl⟩ := five l1 l2
      have key : testD kt (.tuple [d0, d1, d2, d3, d4]) = (srcD kt d0 d1 && (formD kt.n d2 && (intD d3 && (intD d4 && leD d3 d4)))) := by
        show (tupD 5 5 _ && (srcD kt d0 d1 && (formD kt.n d2 && (intD d3 && (intD d4 && leD d3 d4))))) = _
        rw [hb]
        rfl
      cases hd with
      | @tup b xs _ e hda =>
        cases hda with
        | @cons y0 _ _ _ q0 hda =>
        cases hda with
        | @cons y1 _ _ _ q1 hda =>
        cases hda with
        | @cons y2 _ _ _ q2 hda =>
        cases hda with
        | @cons y3 _ _ _ q3 hda =>
        cases hda with
        | @cons y4 _ _ _ q4 hda =>
        cases hda
        have sA := sm_all sm
        have s0 : smB d0 = true := sm_at (i := 0) sA rfl
        have s1 : smB d1 = true := sm_at (i := 1) sA rfl
        have s2 : smB d2 = true := sm_at (i := 2) sA rfl
        have s3 : smB d3 = true := sm_at (i := 3) sA rfl
        have s4 : smB d4 = true := sm_at (i := 4) sA rfl
        refine ⟨_, rfl, b, _, rfl, SqT.of (S1 _ _ e), rfl, y0, _, rfl, y1, _, rfl, y2, _, rfl, y3, _, rfl, y4, _, rfl, rfl, ?_⟩
        refine ⟨_, rfl, y0, rfl, y1, rfl, hv, y0, y1, d0, d1, kt, rfl, hh.same S1, Dq.same S1 _ _ q0, Dq.same S1 _ _ q1, s0, s1, fun H2 S2 => ⟨_, rfl, ?_⟩⟩
        have S12 := S1.trans S2
        by_cases h1 : srcD kt d0 d1 = true
        · rw [h1] at key
          refine iteNo (by rw [h1]; rfl) ?_
          obtain ⟨a, dx, fs, rfl, ha, _, hpl, _, _, sq, sx, hst, hsq, hsn⟩ := (hh.same S12).ex
          refine ⟨_, rfl, a, C, dx, fs, _, rfl, ha, TH.c, TH.start, hst, sq, sx, rfl, .inr (SqT.of hsq), y2, rfl, y2, d2, kt.n, (by rw [hsn]; rfl), Dq.same S12 _ _ q2, s2, fun H3 S3 => ⟨_, rfl, ?_⟩⟩
          have S13 := S12.trans S3
          by_cases h2 : formD kt.n d2 = true
          · rw [h2] at key
            refine iteNo (by rw [h2]; rfl) ?_
            refine ⟨_, rfl, y3, d3, rfl, Dq.same S13 _ _ q3, s3, fun H4 S4 => ⟨_, rfl, ?_⟩⟩
            have S14 := S13.trans S4
            by_cases h3 : intD d3 = true
            · rw [h3] at key
              refine iteYes h3 ?_
              refine ⟨_, rfl, y4, d4, rfl, Dq.same S14 _ _ q4, s4, fun H5 S5 => ⟨_, rfl, ?_⟩⟩
              have S15 := S14.trans S5
              have q := k H5 S15
              rw [key] at q
              by_cases h4 : intD d4 = true
              · rw [h4] at q
                refine iteYes h4 ?_
                obtain ⟨i, rfl⟩ := int_of h3
                obtain ⟨j, rfl⟩ := int_of h4
                cases q3
                cases q4
                exact ⟨_, rfl, _, rfl, i, j, rfl, rfl, q⟩
              · have h4 : intD d4 = false := by simpa using h4
                rw [h4] at q
                exact iteNo h4 q
            · have h3 : intD d3 = false := by simpa using h3
              have q := k H4 S14
              rw [key, h3] at q
              exact iteNo h3 q
          · have h2 : formD kt.n d2 = false := by simpa using h2
            have q := k H3 S13
            rw [key, h2] at q
            exact iteYes (by rw [h2]; rfl) q
        · have h1 : srcD kt d0 d1 = false := by simpa using h1
          have q := k H2 S12
          rw [key, h1] at q
          exact iteYes (by rw [h1]; rfl) (iteYes rfl q)
    · have hb : tupD 5 5 d = false := by simpa using hb
      refine iteYes (by rw [hb]; rfl) ?_
      have q := k H1 S1
      have e : testD kt d = false := by simp only [testD, hb, Bool.false_and]
      rw [e] at q
      exact q
/-! ### looks -/
theorem pe_fldB {X : Cx} {e : Expr} {f : Str} {pos : Pos} {ta : TE} (K : PySem.W.Frag) (hK : X.K = K) (he : PE X e ta) (hb : attributeBase e f X.env (eval e X.env) = eval e X.env) : PE X (.Attribute e f pos) (tFld K ta f) := by
  rw [← hK]
  exact pe_fld he hb
theorem pi_tupB {X : Cx} {tg l : Expr} {tl : TE} (K : PySem.W.Frag) (hK : X.K = K) (he : PE X l tl) : PI X tg l (iTup K tl) := by
  rw [← hK]
  exact pi_tup he
theorem tup_turns {K : PySem.W.Frag} {a : Addr} {xs : List V} {body : (Hp → Prop) → V → Hp → Prop} {Hs : Hp} {Qd : Hp → Prop} (Pv : Nat → Hp → Prop) (h0 : Pv 0 Hs) (hl : ∀ i H, i ≤ xs.length → Pv i H → SqT K H a xs)
    (hs : ∀ i x H, xs[i]? = some x → Pv i H → body (Pv (i + 1)) x H) (hd : ∀ H, Pv xs.length H → Qd H) :
    ∃ W : Nat → Nat → Hp → Prop, (∃ m, W 0 m Hs) ∧ ∀ i m H, W i m H →
      ((Itt K a).stop i H ∧ Qd H) ∨ ((Itt K a).go i H ∧ ∃ Nx : Hp → Prop, (∀ H', Nx H' → ∃ m', m' < m ∧ W (i + 1) m' H') ∧ ∀ x H', (Itt K a).yld i H x H' → body Nx x H') := by
  refine ⟨fun i m H => m = xs.length - i ∧ i ≤ xs.length ∧ Pv i H, ⟨xs.length, by simp, Nat.zero_le _, h0⟩, ?_⟩
  rintro i m H ⟨rfl, hi, p⟩
  have q := hl i H hi p
  by_cases hlt : i < xs.length
  · refine .inr ⟨⟨xs, xs[i], q, by simp [hlt]⟩, Pv (i + 1), fun H' p' => ⟨xs.length - (i + 1), by omega, rfl, hlt, p'⟩, fun x H' y => ?_⟩
    obtain ⟨e, y⟩ := y
    subst e
    exact hs i x _ (y xs q) p
  · have e : i = xs.length := by omega
    subst e
    exact .inl ⟨⟨xs, q, Nat.le_refl _⟩, hd H p⟩
def rowB (k : Kit) (d : PyData) : List Bool := (itemsD d).map (formsD k)
theorem rows_len {k : Kit} : ∀ {ds : List PyData}, smAll ds = true → (ds.flatMap (rowB k)).length ≤ 1000 * ds.length
  | [], _ => Nat.le_refl _
  | d :: ds, h => by
    have h' := Bool.and_eq_true_iff.mp (show (smB d && smAll ds) = true from h)
    rw [List.flatMap_cons, List.length_append, List.length_cons]
    have q := rows_len (k := k) h'.2
    have r : (rowB k d).length ≤ 1000 := by
      unfold rowB
      rw [List.length_map]
      cases d with
      | tuple es => exact sm_len h'.1
      | _ => exact Nat.zero_le _
    omega
theorem sm_take : ∀ {ds : List PyData} (i : Nat), smAll ds = true → smAll (ds.take i) = true
  | [], _, _ => by
    rw [List.take_nil]
    rfl
  | _ :: _, 0, _ => rfl
  | d :: ds, i + 1, h => by
    have h' := Bool.and_eq_true_iff.mp (show (smB d && smAll ds) = true from h)
    show (smB d && smAll (ds.take i)) = true
    rw [h'.1, sm_take i h'.2]
    rfl
theorem rows_all {k : Kit} : ∀ {ds : List PyData}, ds.all isTupD = true → (ds.flatMap (rowB k)).all id = ds.all (allD (formsD k))
  | [], _ => rfl
  | d :: ds, h => by
    have h' := Bool.and_eq_true_iff.mp (show (isTupD d && ds.all isTupD) = true from h)
    obtain ⟨es, rfl⟩ := isT_of h'.1
    rw [List.flatMap_cons, List.all_append, rows_all h'.2, List.all_cons]
    show ((es.map (formsD k)).all id && _) = (es.all (formsD k) && _)
    rw [List.all_map]
    rfl
theorem scLooks : FnScope ["house", "thing", "row", "forms"] ["house", "thing"] (defScope sAreLooks) := ⟨rfl, rfl, rfl, by decide +kernel, rfl, by decide +kernel, by decide +kernel⟩
theorem ok_looks {f g1 g2 : Addr} {fd gd1 gd2 : FuncData} (F : Fun K "are_looks" "are_looks" sAreLooks f fd) (T : TxtB mg) (TH : TxtH K C) (G1 : FnOk P w K mg base CX0 1 g1 gd1 ["thing", "low", "high"] (spTest2 tupD)) (c1 : Cal K mg "is_tuple_of" g1 gd1 ["thing", "low", "high"])
    (G2 : FnOk P w K mg base CX0 3 g2 gd2 ["house", "thing"] (spHs C formsD)) (c2 : Cal K mg "are_forms" g2 gd2 ["house", "thing"]) : FnOk P w K mg base CX0 4 f fd ["house", "thing"] (spHs C looksD) := by
  refine F.ok scLooks (fun vs H Q E h => ?_) (fun cdv A outer s H vs Q E hr h => ?_)
  · obtain ⟨hv, v, d, kt, rfl, _⟩ := h
    rfl
  · obtain ⟨hv, v, d, kt, rfl, hh, hd, sm, k⟩ := h
    have hr1 : Room 1 _ := hr.mono (by decide)
    refine ⟨_, pss_cons (ps_if (pt_not (pt_val (pe_call G1 hr1 (by rfl) c1.m c1.k c1.b .nil pass0 (pa_cons (pv 1) (pa_cons (pe_fld (pv 0) (by rfl)) (pa_cons (pe_fld (pv 0) (by rfl)) pa_nil)))))) (pss_one (ps_ret pe_bl)) pss_nil)
      (pss_cons (ps_if (pt_not (pt_val (pe_callB (cr_all rfl) (by rfl) T.all (by decide +kernel) (pa_cons (pe_lc (own := [("row", 2)]) (g := gName 2) (tt := tYes) rfl scLooks.nd (pi_tup (pv 1)) (blkOk_by (N := ["house", "thing", "row", "forms"]) (sc := defScope sAreLooks) (by decide +kernel)) (fun _ _ _ _ _ => pg_name (i := 2) scLooks.nd rfl (.inl rfl)) (fun _ _ _ _ _ => pts_nil)
          (fun _ _ _ _ _ => pe_call G1 hr1 (by rfl) c1.m c1.k c1.b .nil pass0 (pa_cons (pv 2) (pa_cons (pe_fldB K rfl (pv 0) (by rfl)) (pa_cons (pe_fldB K rfl (pv 0) (by rfl)) pa_nil))))) pa_nil)))) (pss_one (ps_ret pe_bl)) pss_nil)
      (pss_one (ps_ret (pe_callB (cr_all rfl) (by rfl) T.all (by decide +kernel) (pa_cons (pe_lc2 (own := [("row", 2), ("forms", 3)]) (vs1 := [3]) (g := gName 2) (tt := tYes) (g1 := gName 3) (tt1 := tYes) rfl scLooks.nd (pi_tup (pv 1)) (blkOk_by (N := ["house", "thing", "row", "forms"]) (sc := defScope sAreLooks) (by decide +kernel)) (by decide) (fun _ _ _ _ _ => pg_name (i := 2) scLooks.nd rfl (.inl rfl)) (fun _ _ _ _ _ => pts_nil)
          (fun _ _ _ _ _ => pi_tupB K rfl (pv 2)) (fun _ _ _ _ _ => pg_name (i := 3) scLooks.nd rfl (.inl rfl)) (fun _ _ _ _ _ => pts_nil)
          (fun _ _ _ _ _ => pe_call G2 hr (by rfl) c2.m c2.k c2.b .nil pass0 (pa_cons (pv 0) (pa_cons (pv 3) pa_nil)))) pa_nil))))), ?_⟩
    obtain ⟨a, dx, fs, rfl, ha, hpe, hpl, _⟩ := hh.ex
    refine ⟨_, rfl, _, rfl, a, C, dx, fs, _, rfl, ha, TH.c, TH.people, hpe, _, rfl, a, C, dx, fs, _, rfl, ha, TH.c, TH.people, hpe, v, d, kt.pe, kt.pe, rfl, hd, sm, fun H1 S1 => ⟨_, rfl, ?_⟩⟩
    by_cases hb : tupD kt.pe kt.pe d = true
    · refine iteNo (by rw [hb]; rfl) ?_
      obtain ⟨ds, rfl, l1, l2⟩ := tup_of hb
      cases hd with
      | @tup b ys _ e hda =>
        refine ⟨_, rfl, b, rfl, ⟨_, SqT.of (S1 _ _ e)⟩, fun D nD => ?_⟩
        refine lc_tup (K := K) (a := b) (xs := ys) (fun i H2 => MadeTo H1 D (((ds.take i).map (tupD kt.pl kt.pl)).map V.bl) H2) ⟨same_new nD, upd_same⟩ (fun i H2 _ M => SqT.of (M.1 _ _ (S1 _ _ e))) ?_ ?_
        · rintro i x H2 hx M
          obtain ⟨d', hd', hq⟩ := DqAll.at hda hx
          have S2 := S1.trans M.1
          exact ⟨rfl, _, rfl, _, rfl, a, C, dx, fs, _, rfl, S2 _ _ ha, TH.c, TH.places, hpl, _, rfl, a, C, dx, fs, _, rfl, S2 _ _ ha, TH.c, TH.places, hpl, x, d', kt.pl, kt.pl, rfl, Dq.same S2 d' x hq, sm_at (sm_all sm) hd', fun H3 S3 => M.turn nD S3 (sm_len sm) hd'⟩
        · rintro H2 M
          rw [hda.len, List.take_length] at M
          refine ⟨D, _, rfl, SqL.of M.2, _, rfl, ?_⟩
          rw [allD_map]
          have S2 := S1.trans M.1
          by_cases h1 : allD (tupD kt.pl kt.pl) (.tuple ds) = true
          · refine iteNo (by rw [h1]; rfl) ?_
            have hT : ds.all isTupD = true := by
              rw [List.all_eq_true]
              intro d' hd'
              obtain ⟨es, rfl, _⟩ := tup_of (List.all_eq_true.mp (show ds.all (tupD kt.pl kt.pl) = true from h1) d' hd')
              rfl
            refine ⟨_, rfl, b, rfl, ⟨_, SqT.of (S2 _ _ e)⟩, fun B nB => ?_⟩
            refine tup_turns (K := K) (a := b) (xs := ys) (fun i H3 => MadeTo H2 B (((ds.take i).flatMap (rowB kt)).map V.bl) H3) ⟨same_new nB, upd_same⟩ (fun i H3 _ M3 => SqT.of (M3.1 _ _ (S2 _ _ e))) ?_ ?_
            · rintro i x H3 hx M3
              obtain ⟨d', hd', hq⟩ := DqAll.at hda hx
              have hi : i < ds.length := (List.getElem?_eq_some_iff.mp hd').1
              obtain ⟨es, rfl⟩ := isT_of (List.all_eq_true.mp hT d' (List.mem_of_getElem? hd'))
              cases hq with
              | @tup rb rxs _ re rda =>
                refine ⟨rfl, _, rfl, rb, rfl, ⟨_, SqT.of (M3.1 _ _ (S2 _ _ re))⟩, ?_⟩
                have hsm : smB (.tuple es) = true := sm_at (sm_all sm) hd'
                have base0 : (ds.take (i + 1)).flatMap (rowB kt) = (ds.take i).flatMap (rowB kt) ++ es.map (formsD kt) := by
                  rw [List.take_add_one, hd', List.flatMap_append]
                  show _ ++ (rowB kt (.tuple es) ++ []) = _
                  rw [List.append_nil]
                  rfl
                refine tup_turns (K := K) (a := rb) (xs := rxs) (fun j H4 => MadeTo H2 B (((ds.take i).flatMap (rowB kt) ++ (es.take j).map (formsD kt)).map V.bl) H4) (by rw [List.take_zero, List.map_nil, List.append_nil]; exact M3) (fun j H4 _ M4 => SqT.of (M4.1 _ _ (S2 _ _ re))) ?_ ?_
                · rintro j y H4 hy M4
                  obtain ⟨d2, hd2, hq2⟩ := DqAll.at rda hy
                  refine ⟨rfl, _, rfl, y, rfl, V.ref a, y, d2, kt, rfl, hh.same (S2.trans M4.1), Dq.same (S2.trans M4.1) d2 y hq2, sm_at (sm_all hsm) hd2, fun H5 S5 => ?_⟩
                  have m := M4.more (.bl (formsD kt d2)) nB S5
                  refine ⟨_, m.1, ?_, ?_⟩
                  · rw [List.length_map, List.length_append, List.length_map, List.length_take]
                    have z1 := rows_len (k := kt) (sm_take i (sm_all sm))
                    rw [List.length_take] at z1
                    have z2 := sm_len sm
                    have z3 := sm_len hsm
                    rw [sizeLine_eq]
                    have z4 : 1000 * min i ds.length ≤ 1000 * 1000 := Nat.mul_le_mul_left _ (by omega)
                    omega
                  · rw [take_map hd2, ← List.append_assoc, List.map_append]
                    exact m.2
                · rintro H4 M4
                  rw [rda.len, List.take_length] at M4
                  rw [base0]
                  exact M4
            · rintro H3 M3
              rw [hda.len, List.take_length] at M3
              refine ⟨B, _, rfl, SqL.of M3.2, ?_⟩
              have q := k H3 (S2.trans M3.1)
              have e : looksD kt (.tuple ds) = (ds.flatMap (rowB kt)).all id := by
                rw [rows_all hT]
                simp only [looksD, hb, h1, Bool.true_and]
                rfl
              rw [e] at q
              exact q
          · refine iteYes (by simpa using h1) ?_
            have h1 : allD (tupD kt.pl kt.pl) (.tuple ds) = false := by simpa using h1
            have q := k H2 S2
            have e : looksD kt (.tuple ds) = false := by simp only [looksD, hb, h1, Bool.true_and, Bool.false_and]
            rw [e] at q
            exact q
    · have hb : tupD kt.pe kt.pe d = false := by simpa using hb
      refine iteYes (by rw [hb]; rfl) ?_
      have q := k H1 S1
      have e : looksD kt d = false := by simp only [looksD, hb, Bool.false_and]
      rw [e] at q
      exact q
end
end KL
set_option Elab.async false
set_option linter.all false
set_option maxRecDepth 100000
set_option maxHeartbeats 4000000
namespace PySem
namespace KX
open PySem.W PySem.Calls PyProof.Rows
abbrev excB : List Value := [.type "Exception", .type "BaseException", .type "object"]
/-! ### a call of an error's class with keywords alone -/
section
variable {M : Model} {A : Around} {E : Value → Shared → Prop} {h : Heap} {g : Array GenState} {d : Drawn} {t : Nat} {os : OsState}
variable {nm q : Str} {C N : Addr} {bs bm bmB : List Value} {hdct : Bool} {sn : List Str} {sub : List Value} {ab : Bool} {col : Option Bool} {dd : Option Addr} {k0 k1 k2 k3 k5 : Option Value} {B newId initId : String}
theorem newCheckK (F : ExcBaseFacts B newId initId bmB) (hT : ∀ X : String, bm.contains (.type X) = bmB.contains (.type X)) {kw : List (Str × Value)} {Q : Unit → Shared → Prop}
    (hC : h.get? C = some (excClassObj nm q C N bs bm hdct sn sub ab col dd k0 k1 k2 k3 k5 newId)) (hq : Q () ⟨h, g, d, t, os⟩) : wpAny M A (checkBuiltinCall newId ⟨[.ref C], kw⟩) Q E ⟨h, g, d, t, os⟩ := by
  have z1 : (Value.ref C :: bm).contains (.type B) = true := by
    rw [List.contains_cons, hT, F.hasB, Bool.or_true]
  have z2 := F.noStar
  simp only [checkBuiltinCall, F.newKind, F.newSplit, F.newRow]
  repeat (first
    | refine wpAny_loadPart_at hC ?_
    | (refine wpAny_isSubtype_exc hC ?_
       rw [z1])
    | refine wpAny_staticBase_exc hC ?_
    | refine wpAny_madeBy_exc hC ?_
    | simp only [bne_self_eq_false, Bool.false_eq_true, if_false]
    | wp_step)
  exact hq
end
section
variable {prog : Program} {w : World} {A : Around} {E : Value → Shared → Prop} {R : Result → Shared → Prop} {h : Heap} {g : Array GenState} {d : Drawn} {t : Nat} {os : OsState}
variable {nm q : Str} {C N : Addr} {bs bm bmB : List Value} {hdct : Bool} {sn : List Str} {sub : List Value} {ab : Bool} {col : Option Bool} {dd : Option Addr} {k0 k1 k2 k3 k5 : Option Value} {B newId initId : String}
/-- the heap behind: empty args, the object -/
abbrev madeH (h : Heap) (C : Addr) : Heap := (h.push (kdv_tup [])).push (PX.excO C h.objs.size)
theorem newK (F : ExcBaseFacts B newId initId bmB) (hT : ∀ X : String, bm.contains (.type X) = bmB.contains (.type X)) {kw : List (Str × Value)}
    (hC : h.get? C = some (excClassObj nm q C N bs bm hdct sn sub ab col dd k0 k1 k2 k3 k5 newId)) (hq : R (.ok (.ret (.ref (h.objs.size + 1)))) ⟨madeH h C, g, d, t, os⟩) :
    codeAny (model prog w) A (.builtin newId ⟨[.ref C], kw⟩) R ⟨h, g, d, t, os⟩ := by
  have z0 := F.ends
  have z1 : (Value.ref C :: bm).contains (.type B) = true := by
    rw [List.contains_cons, hT, F.hasB, Bool.or_true]
  have z2 : (Value.ref C :: bm).contains (.type "AttributeError") = false := by
    rw [List.contains_cons, hT, F.noAttr]
    rfl
  have z3 : (Value.ref C :: bm).contains (.type "NameError") = false := by
    rw [List.contains_cons, hT, F.noName]
    rfl
  refine codeAny_builtinAt F.entry ?_
  unfold Builtin.«BaseException.__new__»
  refine wpAt_bind ?_
  show wpAt _ _ _ (stack >>= _) _ _ _
  refine wpAt_bind (wpAt_stack fun p below => wpAt_of_wpAny ?_)
  wp_walk
  refine wpAt_of_wpAny ?_
  rw [F.owner]
  repeat (first
    | with_reducible refine wpAny_madeHere_exc F.canon hC ?_
    | with_reducible refine wpAny_loadPart_at hC ?_
    | (with_reducible refine wpAny_isSubtype_exc hC ?_
       first
         | rw [z1]
         | rw [z2]
         | rw [z3])
    | wp_step)
  show R _ _
  rw [Heap.size_push]
  exact hq
theorem typeCallK (F : ExcBaseFacts B newId initId bmB) (hT : ∀ X : String, bm.contains (.type X) = bmB.contains (.type X)) {kw : List (Str × Value)} {fI : Addr} {Q : Fin → Shared → Prop}
    (hC : h.get? C = some (excClassObj nm q C N bs bm hdct sn sub ab col dd k0 k1 k2 k3 k5 newId)) (hi : Looks (model prog w) h (typeLookup (.ref C) "__init__") (some (.ref fI))) (hb : ∀ self, Looks (model prog w) h (bindSpecial (.ref fI) self) (.ref fI, [self]))
    (hq : codeAny (model prog w) A (.call (.ref fI) ⟨[.ref (h.objs.size + 1)], kw⟩) (fun r s' => match r with
      | .ok (.ret v) => v = .none ∧ Q (.done (.ret (.ref (h.objs.size + 1)))) s'
      | .ok _ => False
      | .error e => E e s') ⟨madeH h C, g, d, t, os⟩) : wpAny (model prog w) A (Builtin.«type.__call__» ⟨[.ref C], kw⟩) Q E ⟨h, g, d, t, os⟩ := by
  repeat (first
    | with_reducible refine wpAny_loadPart_at hC ?_
    | with_reducible refine wpAny_madeBy_exc hC ?_
    | wp_step)
  refine codeAny_call_builtin_code (Code.quiet_builtin _ F.quiet) (newCheckK F hT hC ?_)
  refine newK F hT hC ?_
  show wpAny _ _ _ _ _ _
  have k : ∀ b o, h.get? b = some o → (madeH h C).get? b = some o := fun b o e => Heap.get?_push_of_some _ (Heap.get?_push_of_some _ e)
  have hC1 := k _ _ hC
  have hg1 : (madeH h C).get? (h.objs.size + 1) = some (PX.excO C h.objs.size) := by heap_get
  have z : (Value.ref C :: bm).contains (.ref C) = true := by simp
  have i1 := hi.keeps k
  have b1 := (hb (.ref (h.objs.size + 1))).keeps k
  unfold isInstance
  repeat (first
    | with_reducible refine wpAny_loadPart_at hg1 ?_
    | (with_reducible refine wpAny_isSubtype_exc hC1 ?_
       rw [z])
    | wp_step)
  show wpAny _ _ (typeLookup (.ref C) _) _ _ _
  refine i1.at ?_
  refine wpAny_holding (wpAny_bind (b1.at ?_))
  refine wpAny_bind (wpAny_call (codeAny_mono hq fun r s' y => ?_))
  rcases r with e | (v | _ | _ | _) <;> first | exact y | exact y.elim | skip
  obtain ⟨rfl, y⟩ := y
  first
    | exact wpAny_pure (wpAny_pure y)
    | (wp_walk
       exact y)
theorem typeCheckK {M : Model} {E : Value → Shared → Prop} {kw : List (Str × Value)} {Q : Unit → Shared → Prop} (hC : h.get? C = some (excClassObj nm q C N bs bm hdct sn sub ab col dd k0 k1 k2 k3 k5 newId)) (hq : Q () ⟨h, g, d, t, os⟩) :
    wpAny M A (checkBuiltinCall "type.__call__" ⟨[.ref C], kw⟩) Q E ⟨h, g, d, t, os⟩ := by
  have y1 := tc_sub
  have y2 : (⟨h, g, d, t, os⟩ : Shared).TypeIs (.ref C) "type" := ⟨_, hC, rfl⟩
  simp only [checkBuiltinCall, tc_kind, tc_split]
  repeat (any_goals (first
    | assumption
    | with_reducible refine wpAny_loadPart_at hC ?_
    | with_reducible refine wpAny_onRaise ?_
    | with_reducible refine wpAny_map ?_
    | wp_step))
theorem callK (F : ExcBaseFacts B newId initId bmB) (hT : ∀ X : String, bm.contains (.type X) = bmB.contains (.type X)) {kw : List (Str × Value)} {fI : Addr}
    (hC : h.get? C = some (excClassObj nm q C N bs bm hdct sn sub ab col dd k0 k1 k2 k3 k5 newId)) (hi : Looks (model prog w) h (typeLookup (.ref C) "__init__") (some (.ref fI))) (hb : ∀ self, Looks (model prog w) h (bindSpecial (.ref fI) self) (.ref fI, [self]))
    (hq : codeAny (model prog w) (A.under (.builtin "type.__call__" ⟨[.ref C], kw⟩)) (.call (.ref fI) ⟨[.ref (h.objs.size + 1)], kw⟩) (InitBack (h.objs.size + 1) R) ⟨madeH h C, g, d, t, os⟩) :
    codeAny (model prog w) A (.call (.ref C) ⟨[], kw⟩) R ⟨h, g, d, t, os⟩ := by
  have y1 := tc_lookup
  have y2 := tc_bind (.ref C)
  have y3 : (⟨h, g, d, t, os⟩ : Shared).TypeIs (.ref C) "type" := ⟨_, hC, rfl⟩
  refine codeAny_of_tree ?_
  show wpAny _ _ (callAny (.ref C) _) _ _ _
  repeat (any_goals (first
    | assumption
    | with_reducible refine wpAny_loadPart_at hC ?_
    | wp_step))
  refine ⟨rfl, ?_⟩
  refine codeAny_call_builtin_at (Code.quiet_builtin _ (by decide +kernel)) entry_typeCall (typeCheckK hC (typeCallK F hT hC hi hb ?_))
  refine codeAny_mono hq fun r s' y => ?_
  rcases r with e | (v | _ | _ | _) <;> exact y
end
end KX
end PySem
set_option Elab.async false
set_option linter.all false
set_option maxRecDepth 100000
set_option maxHeartbeats 4000000
namespace PySem
namespace KX
open PySem.W PySem.Calls PyProof.Rows PySem.HandSPX
def iA (fl : Str) (p1 p2 : Pos) : Arguments := { posonlyargs := [], args := [{ arg := "self", annotation := none, pos := p1 }, { arg := fl, annotation := none, pos := p2 }], vararg := none, kwonlyargs := [], kw_defaults := [], kwarg := none, defaults := [] }
def iB (fl : Str) (q1 q2 q3 q4 : Pos) : List Stmt := [.Assign [.Attribute (.Name "self" q1) fl q2] (.Name fl q3) q4]
def iS (fl : Str) : Scope := { kind := .function, names := [(PySem.Str.ofString "self", .local), (fl, .local)], isGenerator := false, isCoroutine := false, more := [] }
/-- the fields of the errors -/
def IsFl (fl : Str) : Prop := fl = "part" ∨ fl = "line" ∨ fl = "index" ∨ fl = "paper" ∨ fl = "deed" ∨ fl = "thing" ∨ fl = "tries"
/-- what the written part says of an error's class at C -/
structure EC (K : Frag) (C : Addr) : Prop where
  ini : excInitIn K C excB "Exception.__new__" = true
  sa : findIn K (.ref C) "__setattr__" = some (some (.builtin "object.__setattr__"))
  ov : excOver K C excB = true
  hd : hasDictIn K C = true
  kp : keepIn K (.ref C) = true
  is : L2.ExcC K C
/-- .. and of its field and its __init__ -/
structure EI (K : Frag) (C fI : Addr) (fl qual : Str) : Prop where
  c : EC K C
  fls : IsFl fl
  nf : findIn K (.ref C) fl = some none
  iC : findIn K (.ref C) "__init__" = some (some (.ref fI))
  fn : ∃ (od : Option Addr) (doc pm : Value) (an : Option Addr) (cdv ct : Value) (osl : Array (Option Value)) (p1 p2 q1 q2 q3 q4 : Pos),
    K.lookup fI = some ⟨.type "function", od, .func (fnOf "__init__" qual (iA fl p1 p2) (iB fl q1 q2 q3 q4) (iS fl) .none .none doc pm an cdv ct), osl⟩ ∧ codeIn K cdv qual = true
/-- a made error: at e, its dict at d -/
structure Made (h h' : Heap) (e C d : Addr) (fl : Str) (v : Value) : Prop where
  keep : ∀ b o, h.get? b = some o → h'.get? b = some o
  new : h.objs.size ≤ e
  obj : ∃ t1 : Addr, h'.get? e = some { cls := .ref C, dict := some d, data := .fields #[.ref t1, .none, .none, .none, .bool false, .none] }
  dbig : h.objs.size ≤ d
  dne : d ≠ e
  ns : h'.Ns1 d (fun y => if y = fl then some v else none)
section
variable {prog : Program} {w : World} {A : Around} {E : Value → Shared → Prop} {R : Result → Shared → Prop} {s : Shared} {K : Frag} {C fI : Addr} {fl qual : Str}
theorem nameAt {M : Model} {s : Shared} {name : Str} {scope : Scope} {L a : Addr} {cd : Value} {m : Str → Option Value} {x : Str} {pos : Pos} {v : Value} {Q : Value → Shared → Prop} (hn : s.heap.Ns L m) (hv : m x = some v) (h : Q v s)
    (hk : scope.kind = .function) (hl : (envOfC name scope L a cd).kindOf x = some .local) (hd : (x == ("__debug__" : Str)) = false) : wpAny M A (eval (.Name x pos) (envOfC name scope L a cd)) Q E s :=
  wpAny_Name (wpAny_loadName_local hk hl hn hv h) hd
/-- self.fl = v on a fresh error -/
theorem storeE {x t0 : Addr} {tk : Tok} {v : Value} (T : EC K C) (nf : findIn K (.ref C) fl = some none) (X : K.In s.heap) (hx : s.heap.get? x = some (PX.excO C t0))
    (hq : ∀ h' tk' dx, (∀ b o, b ≠ x → s.heap.get? b = some o → h'.get? b = some o) → s.heap.objs.size ≤ dx → dx ≠ x → h'.get? x = some { cls := .ref C, dict := some dx, data := .fields #[.ref t0, .none, .none, .none, .bool false, .none] } →
      h'.Ns1 dx (fun y => if y = fl then some v else none) → R (.ok (.ret .none)) { s with heap := h', toks := tk' }) : codeAny (model prog w) A (.call (.builtin "object.__setattr__") ⟨[.ref x, .str fl tk, v], []⟩) R s := by
  refine osa_openX (od := none) F.store_Exception X ⟨hx, rfl, rfl, trivial⟩ T.ov (show takerIn K C fl = some none by unfold takerIn; rw [nf]; rfl) fun b => ?_
  obtain ⟨cd, hc, hd'⟩ := any_some T.hd
  have hxs : x ≠ s.heap.objs.size := Nat.ne_of_lt (Heap.lt_size hx)
  refine wpAny_bind (wpAny_pure (wpAny_bind (instanceDict_exc hx (looks_clsIn X hc) hd' ?_)))
  show wpAny _ _ (Builtin.ObjectAttr.storeInDict s.heap.objs.size (.str fl tk) fl v) _ _ _
  refine PX.store_in_new ?_ fun h' tk' hn' hs => ?_
  · exact ⟨_, #[], _, (Heap.get?_update_ne _ _ _ _ hxs.symm).trans (Heap.get?_push_at rfl rfl), rfl, fun e he => absurd he (by simp), fun _ => rfl⟩
  · have hx1 := Heap.get?_push_of_some (dictOf [] 0) hx
    refine hq h' tk' s.heap.objs.size (fun b o hb ho => ?_) (Nat.le_refl _) hxs.symm ?_ hn'
    · exact (hs.2 b (Nat.ne_of_lt (Heap.lt_size ho))).trans ((Heap.get?_update_ne _ _ _ _ hb).trans (Heap.get?_push_of_some _ ho))
    · exact (hs.2 x hxs).trans (Heap.get?_update_self _ hx1 rfl)
/-- the run of __init__ -/
theorem initRun (T : EI K C fI fl qual) {x t0 : Addr} {v : Value} {as : Args} (X : K.In s.heap) (hlim : s.heap.NoLimit) (hx : s.heap.get? x = some (PX.excO C t0)) (hroom : A.depth < recursionLimit)
    (has : as = ⟨[.ref x, v], []⟩ ∨ as = ⟨[.ref x], [(fl, v)]⟩)
    (hq : ∀ h' tk dx, (∀ b o, b ≠ x → s.heap.get? b = some o → h'.get? b = some o) → s.heap.objs.size ≤ dx → dx ≠ x → h'.get? x = some { cls := .ref C, dict := some dx, data := .fields #[.ref t0, .none, .none, .none, .bool false, .none] } →
      h'.Ns1 dx (fun y => if y = fl then some v else none) → R (.ok (.ret .none)) { s with heap := h', toks := tk }) : codeAny (model prog w) A (.call (.ref fI) as) R s := by
  obtain ⟨od, doc, pm, an, cdv, ct, osl, p1, p2, q1, q2, q3, q4, ho, hcd⟩ := T.fn
  have bd : BindsTo s (fnOf "__init__" qual (iA fl p1 p2) (iB fl q1 q2 q3 q4) (iS fl) .none .none doc pm an cdv ct) as [("self", .ref x), (fl, v)] := by
    rcases T.fls with e | e | e | e | e | e | e <;> subst e <;> rcases has with e | e <;> subst e <;> exact .of_eq (by first | rfl | with_unfolding_all rfl)
  have kd : ([(("self" : Str), Value.ref x), (fl, v)].all fun y => (iS fl).names.lookup y.1 == some .local || (iS fl).names.lookup y.1 == some .cell) = true := by
    rcases T.fls with e | e | e | e | e | e | e <;> subst e <;> first | rfl | with_unfolding_all rfl
  refine Att.call_fn X hlim ho hcd hroom bd kd (fun s₁ IC => ?_) rfl rfl rfl
  obtain ⟨h₁, tk₁, rfl⟩ := IC.toInCall.same
  have k : ∀ b o, s.heap.get? b = some o → h₁.get? b = some o := IC.toInCall.keep
  have hn := IC.toInCall.ns
  have X₁ : K.In h₁ := X.keeps k
  have hx₁ := k _ _ hx
  have z : s.heap.objs.size < h₁.objs.size := hn.lt
  show wpAny _ _ (execs _ _) _ _ _
  refine wpAny_execs_cons (plainObj_wpAny_Assign_Attribute ?_)
  have n1 : ∀ {a : Addr} {cd : Value}, (envOfC qual (iS fl) s.heap.objs.size a cd).kindOf fl = some .local := fun {a cd} => by
    rcases T.fls with e | e | e | e | e | e | e <;> subst e <;> first | rfl | with_unfolding_all rfl
  have n2 : ∀ {a : Addr} {cd : Value}, (envOfC qual (iS fl) s.heap.objs.size a cd).kindOf "self" = some .local := fun {a cd} => by
    rcases T.fls with e | e | e | e | e | e | e <;> subst e <;> first | rfl | with_unfolding_all rfl
  have n3 : (fl == ("__debug__" : Str)) = false := by
    rcases T.fls with e | e | e | e | e | e | e <;> subst e <;> decide +kernel
  refine nameAt (v := v) hn ?_ (nameAt (v := .ref x) hn ?_ ?_ rfl n2 (by decide +kernel)) rfl n1 n3
  · rcases T.fls with e | e | e | e | e | e | e <;> subst e <;> first | rfl | with_unfolding_all rfl | kernel_rfl
  · rcases T.fls with e | e | e | e | e | e | e <;> subst e <;> first | rfl | with_unfolding_all rfl | kernel_rfl
  refine set_plain X₁ (ox := PX.excO C t0) (od := none) ⟨hx₁, rfl, rfl, trivial⟩ T.c.sa ?_
  refine storeE T.c T.nf X₁ hx₁ fun h₃ tk₃ dx k₃ dn dne hx₃ hn₃ => ?_
  show wpAny _ _ (execs _ _) _ _ _
  exact wpAny_execs_nil (hq h₃ tk₃ dx (fun b o hb e => k₃ b o hb (k b o e)) (Nat.le_of_lt (Nat.lt_of_lt_of_le z dn)) dne hx₃ hn₃)
end
end KX
end PySem
set_option Elab.async false
set_option linter.all false
set_option maxRecDepth 100000
set_option maxHeartbeats 4000000
namespace PySem
namespace KX
open PySem.W PySem.Calls PyProof.Rows PySem.HandSPX
section
variable {prog : Program} {w : World} {A : Around} {E : Value → Shared → Prop} {R : Result → Shared → Prop} {s : Shared} {K : Frag} {C fI : Addr} {fl qual : Str}
theorem exMade (T : EI K C fI fl qual) {v : Value} {as : Args} (has : as = ⟨[v], []⟩ ∨ as = ⟨[], [(fl, v)]⟩) (X : K.In s.heap) (hlim : s.heap.NoLimit) (hroom : A.depth + 1 < recursionLimit)
    (hq : ∀ h' tk e d, Made s.heap h' e C d fl v → R (.ok (.ret (.ref e))) { s with heap := h', toks := tk }) : codeAny (model prog w) A (.call (.ref C) as) R s := by
  obtain ⟨nm, N, q, bs, bm, hdct, sn, sub, ab, col, dd, k0, k1, k2, k3, k5, hC, hT⟩ := excInit_of X T.c.ini
  obtain ⟨od, doc, pm, an, cdv, ct, osl, p1, p2, q1, q2, q3, q4, ho, hcd⟩ := T.fn
  obtain ⟨hp, g, dr, tk, os⟩ := s
  have hfI := X _ _ ho
  have fin : ∀ (pos : List Value) (c : Code) (as' : Args), (as' = ⟨[.ref (hp.objs.size + 1), v], []⟩ ∨ as' = ⟨[.ref (hp.objs.size + 1)], [(fl, v)]⟩) → (A.under c).depth = A.depth + 1 →
      codeAny (model prog w) (A.under c) (.call (.ref fI) as') (InitBack (hp.objs.size + 1) R) ⟨(hp.push (kdv_tup pos)).push (PX.excO C hp.objs.size), g, dr, tk, os⟩ := fun pos c as' ha hdp => by
    have k : ∀ b o, hp.get? b = some o → ((hp.push (kdv_tup pos)).push (PX.excO C hp.objs.size)).get? b = some o := fun b o e => Heap.get?_push_of_some _ (Heap.get?_push_of_some _ e)
    have hget : ((hp.push (kdv_tup pos)).push (PX.excO C hp.objs.size)).get? (hp.objs.size + 1) = some (PX.excO C hp.objs.size) := by heap_get
    refine initRun (s := ⟨(hp.push (kdv_tup pos)).push (PX.excO C hp.objs.size), g, dr, tk, os⟩) T (X.keeps k) (hlim.keeps k) hget ?_ ha fun h' tk' dx k' dn dne hx hns => ?_
    · rw [hdp]
      exact hroom
    · have z : hp.objs.size + 1 + 1 ≤ dx := by
        have q := dn
        rw [Heap.size_push, Heap.size_push] at q
        exact q
      exact ⟨rfl, hq h' tk' (hp.objs.size + 1) dx ⟨fun b o e => k' b o (Nat.ne_of_lt (Nat.lt_succ_of_lt (Heap.lt_size e))) (k b o e), Nat.le_succ _, ⟨_, hx⟩, Nat.le_trans (Nat.le_trans (Nat.le_succ _) (Nat.le_succ _)) z, dne, hns⟩⟩
  rcases has with rfl | rfl
  · refine PX.call_own F.excBase_Exception hT hC (looks_findIn X T.iC) (fun self => exc_bind hfI rfl self) (by show 1 ≤ sizeLine; rw [sizeLine_eq]; omega) (fin [v] _ _ (.inl rfl) ?_)
    first | rfl | simp [Around.under, Code.weight, Code.isCreation, Code.isGuard, Code.isCaller, Code.frames, Code.isFrame, guardIds]
  · refine callK F.excBase_Exception hT hC (looks_findIn X T.iC) (fun self => exc_bind hfI rfl self) (fin [] _ _ (.inr rfl) ?_)
    first | rfl | simp [Around.under, Code.weight, Code.isCreation, Code.isGuard, Code.isCaller, Code.frames, Code.isFrame, guardIds]
end
end KX
end PySem
namespace KL
open PySem L2 PySem.KX PySem.Spec PyProof.Rows
section
variable {X : Cx} {pins : List (Addr × Obj)} {σ : L2.St} {H : Hp} {s : Shared}
theorem invTwo {h' : Heap} {tk : Nat} {a C d : Addr} {fl : Str} {v : V} {u : Value} (I : Inv X pins σ H s) (M : Made s.heap h' a C d fl u) (rv : RelV v u) :
    H a = none ∧ H d = none ∧ Inv X pins σ (upd (upd H d (exd d [(fl, v)])) a (exo a C (some d))) { s with heap := h', toks := tk } := by
  have na : H a = none := I.hok.fresh M.new
  have nd : H d = none := I.hok.fresh M.dbig
  have fa : ∀ {b : Addr} {o : Obj}, s.heap.get? b = some o → b ≠ a := fun q => Nat.ne_of_lt (Nat.lt_of_lt_of_le (Heap.lt_size q) M.new)
  have fd : ∀ {b : Addr} {o : Obj}, s.heap.get? b = some o → b ≠ d := fun q => Nat.ne_of_lt (Nat.lt_of_lt_of_le (Heap.lt_size q) M.dbig)
  have S : Same H (upd (upd H d (exd d [(fl, v)])) a (exo a C (some d))) := fun b o e => by
    rw [upd_ne (ne_of_none e na), upd_ne (ne_of_none e nd)]
    exact e
  refine ⟨na, nd, I.un { keep := fun b o q _ _ _ => M.keep b o q, slot := fun b o q _ _ _ => ⟨o.slots, M.keep b o q⟩, free := fun b o q n _ => ?_, there := fun b o q _ => ⟨o, M.keep b o q⟩, tups := fun b xs q => S _ _ q, frzs := fun b o u q => S _ _ q, tbls := fun b ps q => ⟨#[], by rw [S _ _ q]; simp⟩ } fun b o e => ?_⟩
  · rw [upd_ne (fa q), upd_ne (fd q)]
    exact n
  · by_cases hb : b = a
    · subst hb
      rw [upd_same] at e
      cases e
      obtain ⟨t1, ho⟩ := M.obj
      exact exo_ok ho
    · rw [upd_ne hb] at e
      by_cases hd : b = d
      · subst hd
        rw [upd_same] at e
        cases e
        refine exd_ok M.ns fun f => ?_
        rw [lookup_put]
        by_cases hf : f = fl
        · rw [if_pos hf, if_pos hf]
          exact rv
        · rw [if_neg hf, if_neg hf]
          exact True.intro
      · rw [upd_ne hd] at e
        exact (I.hok b o e).stay (fun c w _ q => M.keep c w q) (fun c q => S _ _ q) fun c xs q => S _ _ q
end
/-- C(e) or C(fl = e) -/
def tEx (C : Addr) (fl : Str) (ta : TA) : TE := fun σ H Q => ta σ H fun vs H1 => ∃ v, vs = [v] ∧ ∀ a d, H1 a = none → H1 d = none → d ≠ a → Q (.ref a) (upd (upd H1 d (exd d [(fl, v)])) a (exo a C (some d)))
section
variable {X : Cx} {C fI : Addr} {fl qual x : Str} {p pos kpos : Pos} {e : Expr} {te : TE} {ta : TA}
theorem pe_ex (T : EI X.K C fI fl qual) (gC : X.mg x = some (.ref C)) (hr : Room 1 X.A) (hg : Gl X x) (ha : PA X [e] ta) (hdb : (x == ("__debug__" : Str)) = false := by decide) (he : starEach (e :: []) X.env = (false, eval e X.env) :: starEach [] X.env := by rfl)
    (hpl : (backTo pos (starEach [] X.env)).any (·.1) = false := by rfl) : PE X (.Call (.Name x p) [e] [] pos) (tEx C fl ta) := by
  refine ⟨fun pins s σ H Q I h => ?_⟩
  refine wpAny_Call_Name_kw (ld_glob I hg gC ?_ hdb)
  refine PySem.W.callWith_K (h₀ := X.base) I.ok.mod.kin T.c.kp (thn (ha.run pos pins s σ H _ I h) fun us s1 ⟨vs, H1, I1, r, v, ev, q⟩ => ⟨I1.kIn, ?_⟩) he hpl
  subst ev
  cases r with
  | cons rv rn =>
    cases rn
    rename_i u
    refine wpAny_call (exMade T (.inl rfl) I1.kIn I1.nolimit (by have := hr.dp; omega) fun h' tk a d M => ?_)
    obtain ⟨n1, n2, J⟩ := invTwo (tk := tk) I1 M rv
    exact ⟨.ref a, _, J, rfl, q a d n1 n2 M.dne⟩
theorem pe_exK (T : EI X.K C fI fl qual) (gC : X.mg x = some (.ref C)) (hr : Room 1 X.A) (hg : Gl X x) (ha : PE X e te) (hdb : (x == ("__debug__" : Str)) = false := by decide)
    (hall : (backToKw pos (keywordEach [⟨some fl, e, kpos⟩] X.env)).all (·.1.isSome) = true := by rfl) (hks : (backToKw pos (keywordEach [⟨some fl, e, kpos⟩] X.env)).filterMap (·.1) = [fl] := by rfl)
    (hpl : ((backTo pos (starEach [] X.env)).any (·.1) || (backToKw pos (keywordEach [⟨some fl, e, kpos⟩] X.env)).any (·.1.isNone)) = false := by rfl) :
    PE X (.Call (.Name x p) [] [⟨some fl, e, kpos⟩] pos) (tEx C fl (tCons te tNil)) := by
  refine ⟨fun pins s σ H Q I h => ?_⟩
  refine wpAny_Call_Name_kw (ld_glob I hg gC ?_ hdb)
  refine PySem.W.callWith_KW0 (h₀ := X.base) I.ok.mod.kin T.c.kp hall ?_ hpl
  refine thn ((pk_cons ha pk_nil).run pos pins s σ H _ I h) fun us s1 ⟨vs, H1, I1, r, v, ev, q⟩ => ⟨I1.kIn, ?_⟩
  rw [hks]
  subst ev
  cases r with
  | cons rv rn =>
    cases rn
    rename_i u
    refine wpAny_call (exMade T (.inr rfl) I1.kIn I1.nolimit (by have := hr.dp; omega) fun h' tk a d M => ?_)
    obtain ⟨n1, n2, J⟩ := invTwo (tk := tk) I1 M rv
    exact ⟨.ref a, _, J, rfl, q a d n1 n2 M.dne⟩
end
end KL
set_option Elab.async false
set_option linter.all false
set_option maxRecDepth 100000
set_option maxHeartbeats 4000000
namespace KL
open PySem L2 PySem.KX PySem.Spec PyProof.Rows
/-- an error's class without an __init__ -/
structure EB (K : PySem.W.Frag) (C : Addr) : Prop where
  c : EC K C
  ex : PySem.W.excIn K C excB "Exception.__new__" = true
/-- C() -/
def tEx0 (C : Addr) : TE := fun _ H Q => ∀ a, H a = none → Q (.ref a) (upd H a (exo a C none))
/-- e.f of an error -/
def tExAt (K : PySem.W.Frag) (f : Str) (te : TE) : TE := fun σ H Q => te σ H fun x H1 => ∃ (a C d : Addr) (fs : List (Str × V)) (v : V), x = .ref a ∧ EC K C ∧ PySem.W.findIn K (.ref C) f = some none ∧ H1 a = some (exo a C (some d)) ∧ H1 d = some (exd d fs) ∧ fs.lookup f = some v ∧ Q v H1
/-- an error stands at a -/
def ErrAt (H : Hp) (a C : Addr) : Prop := H a = some (exo a C none) ∨ ∃ d fs, H a = some (exo a C (some d)) ∧ H d = some (exd d fs)
/-- isinstance(e, c) -/
def rExIs (K : PySem.W.Frag) : List V → Hp → VK → Prop := fun xs H Q => ∃ (a C : Addr) (c : V) (cv : Value) (b : Bool), xs = [.ref a, c] ∧ EC K C ∧ ErrAt H a C ∧ ClsV c cv ∧ PySem.W.kitOne K (.ref C) cv = some b ∧ Q (.bl b) H
section
variable {X : Cx}
theorem pe_ex0 {C : Addr} {x : Str} {p pos : Pos} (T : EB X.K C) (gC : X.mg x = some (.ref C)) (hg : Gl X x) (hdb : (x == ("__debug__" : Str)) = false := by decide) : PE X (.Call (.Name x p) [] [] pos) (tEx0 C) := by
  refine ⟨fun pins s σ H Q I h => ?_⟩
  refine wpAny_Call_Name_kw (ld_glob I hg gC ?_ hdb)
  refine PySem.W.callWith_K0 I.kIn T.c.kp ?_
  obtain ⟨bm, N, nm, qn, bs, hdct, sn, sub, ab, col, dd, k0, k1, k2, k3, k5, mN, hC, hN, hni, O⟩ := exc_obj I.kIn T.ex
  obtain ⟨hp, g, dr, tk, os⟩ := s
  refine wpAny_call_exc_subT F.excBase_Exception O hC hN hni (fun h' a hm => ?_) (Nat.zero_le _)
  have hn : H a = none := I.hok.gone hm.new
  obtain ⟨t, ht, _, _⟩ := hm.there
  exact ⟨.ref a, upd H a (exo a C none), I.laidN (t' := tk) hm.keeps hm.new hn (exo_ok ht), rfl, h a hn⟩
theorem pe_exAt {e : Expr} {f : Str} {te : TE} {pos : Pos} (he : PE X e te) (hb : attributeBase e f X.env (eval e X.env) = eval e X.env := by rfl) : PE X (.Attribute e f pos) (tExAt X.K f te) := by
  refine ⟨fun pins s σ H Q I h => ?_⟩
  refine attr_of hb (thn (he.run pins s σ H _ I h) fun u s1 ⟨x, H1, I1, rx, a, C, d, fs, v, ex, T, nf, ha, hd, l, q⟩ => ?_)
  subst ex
  obtain rfl : u = Value.ref a := rx
  obtain ⟨t1, ho⟩ := exo_at I1.hok ha
  obtain ⟨mA, hns, hr⟩ := exd_at I1.hok hd
  obtain ⟨od, hod, hl⟩ := lookIn_ns hns
  obtain ⟨u, hu, ru⟩ := RelO.some_of (v := v) (o := mA f) (by rw [← l]; exact hr f)
  exact PySem.PX.exc_get I1.kIn ⟨ho, rfl, rfl, hod⟩ T.is.hg T.is.hk T.is.hs (PySem.W.findObj_own T.hd nf rfl (by rw [hl, hu])) (handed_of ru) ⟨v, H1, I1.tok _, ru, q⟩
theorem call_exIs : CallR X (.builtin "isinstance") (rExIs X.K) := by
  intro pins s σ H xs us Q I r h
  obtain ⟨a, C, c, cv, b, rfl, T, ea, kc, e, q⟩ := h
  obtain ⟨u1, u2, rfl, r1, r2⟩ := vals2 r
  have e2 := kc.eq r2
  subst e2
  cases (show u1 = Value.ref a from r1)
  have hcl : (PySem.W.clsIn X.K C).isSome = true := by
    obtain ⟨cd, hc, _⟩ := PySem.W.any_some T.hd
    rw [hc]
    rfl
  have go : ∀ {ox : Obj} {od : Option Obj}, PySem.W.InstAt s.heap a ox C od → wpAny (model X.prog X.w) X.A (call (.builtin "isinstance") [.ref a, u2]) (EP X pins σ Q) X.xe s := fun {ox od} J =>
    PySem.W.kia_one (PySem.W.kitx_exc hcl T.is.hg T.is.hk T.is.hs T.is.ha T.is.hn T.is.ht T.is.hm) I.kIn J e (fun z => nomatch z) fun tk => ⟨.bl b, H, I.tok tk, rfl, q⟩
  rcases ea with ea | ⟨d, fs, ea, ed⟩
  · obtain ⟨t1, ho⟩ := exo_at I.hok ea
    exact go (od := none) ⟨ho, rfl, rfl, trivial⟩
  · obtain ⟨t1, ho⟩ := exo_at I.hok ea
    obtain ⟨mA, hns, hr⟩ := exd_at I.hok ed
    obtain ⟨od, hod, hl⟩ := lookIn_ns hns
    exact go (od := some od) ⟨ho, rfl, rfl, hod⟩
end
end KL
set_option Elab.async false
set_option linter.all false
set_option maxRecDepth 100000
set_option maxHeartbeats 4000000
namespace KL
open PySem L2 PySem.KX PySem.Spec PyProof.Rows
/-- a def's promise where no guard stands around its call -/
structure FnG (P : Program) (w : World) (K : PySem.W.Frag) (mg : Str → Option Value) (base : Heap) (CX : CXT) (k : Nat) (f : Addr) (fd : FuncData) (ps : List Str) (sp : Sp) : Prop where
  len : ∀ vs H Q E, sp vs H Q E → vs.length = ps.length
  run : ∀ (A : Around) (outer : List Env) (s : Shared) (H : Hp) (args : Args) (us : List Value) (vs : List V) (Q : VK) (E : XK), A.guards = some [] → Room k A → Env0 P w K mg base A outer s H → BindsTo s fd args (ps.zip us) → Vals vs us → sp vs H Q E →
    codeAny (model P w) A (.call (.ref f) args) (CR CX outer P w H s Q E) s
section
variable {P : Program} {w : World} {K : PySem.W.Frag} {mg : Str → Option Value} {base : Heap}
theorem fnG {CX : CXT} {k : Nat} {f : Addr} {qual x : Str} {st : Stmt} {N ps : List Str} {sp : Sp} {fd : FuncData} (F : Fun K x qual st f fd) (S : FnScope N ps (defScope st)) (len : ∀ vs H Q E, sp vs H Q E → vs.length = ps.length)
    (hbody : ∀ (cdv : Value) (A : Around) (outer : List Env) (s : Shared) (H : Hp) (vs : List V) (Q : VK) (E : XK), A.guards = some [] → Room k (A.deeper (envOfC qual (defScope st) s.heap.objs.size f cdv)) → sp vs H Q E →
      ∃ t, PSs (cxOf CX P w K mg base N qual (defScope st) f cdv A outer s H E) (defBody st) t ∧ t { nx := fun _ H' => Q .non H', rt := Q } (start N vs) H) : FnG P w K mg base CX (k + 1) f fd ps sp := by
  obtain ⟨oc, od, kV, doc, pm, an, cdv, ct, osl, rfl, lk, hcd⟩ := F.ex
  refine ⟨len, fun A outer s H args us vs Q E hg hr e0 hb r hs => ?_⟩
  have hl := len _ _ _ _ hs
  have KX := e0.mod.kin.keeps fun b o e => (e0.bs b o e).1
  have lim := e0.mod.nolimit.keeps fun b o e => (e0.bs b o e).1
  have hk : ∀ y ∈ ps.zip us, (defScope st).names.lookup y.1 = some .local ∨ ((defScope st).names.lookup y.1 = some .cell ∧ ((cellsFrom (s.heap.objs.size + 1) (defScope st).names []).lookup y.1).isSome = true) := by
    rintro ⟨n, v⟩ hy
    rcases S.par n (List.of_mem_zip hy).1 with q | q
    · exact Or.inl q
    · exact Or.inr ⟨q, PySem.W.cellsFrom_some _ _ _ (Or.inl q)⟩
  refine codeAny_call_function hr.depth (KX _ _ lk) rfl S.co S.gen rfl (PySem.W.codeRec_of KX hcd) (hb _ _ _ _ ?_)
  refine wpAny_newFunctionEnv_cells S.kind hk fun env he s1 z => ?_
  subst he
  refine ⟨lim.keeps z.toInCall.keep, codeAny_func ?_⟩
  obtain ⟨t, ht, hq⟩ := hbody cdv A outer s H vs Q E hg (hr.deeper _) hs
  have J0 := inv_start (CX := CX) (E := E) S hr.hd e0 hl r z
  refine wpAny_mono (ht.run [] s1 (start N vs) H _ J0 hq) (fun fl s' y => ?_) fun e s' y => y
  match fl, y with
  | .ret u, ⟨v, σ', H', J, rv, q⟩ => exact ⟨v, H', J.os, J.bare, J.base, J.hok, rv, q⟩
  | .next, ⟨σ', H', J, q⟩ => exact ⟨V.non, H', J.os, J.bare, J.base, J.hok, rfl, q⟩
  | .brk, ⟨_, _, _, q⟩ => exact q.elim
  | .cont, ⟨_, _, _, q⟩ => exact q.elim
end
section
variable {X : Cx} {CX : CXT} {k : Nat} {f : Addr} {fd : FuncData} {ps : List Str} {sp : Sp} {E : XK} {x : Str} {p pos : Pos} {e : Expr} {es : List Expr} {t : TA}
theorem pe_callG (F : FnG X.prog X.w X.K X.mg X.base CX k f fd ps sp) (hG : X.A.guards = some []) (hr : Room k X.A) (hg : Gl X x) (hm : X.mg x = some (.ref f)) (hk : PySem.W.keepIn X.K (.ref f) = true) (hb : L2.Binds X.K fd ps []) (hx : Passes CX X E)
    (ha : PA X (e :: es) t) (hdb : (x == ("__debug__" : Str)) = false := by decide) (he : starEach (e :: es) X.env = (false, eval e X.env) :: starEach es X.env := by rfl) (hpl : (backTo pos (starEach es X.env)).any (·.1) = false := by rfl) :
    PE X (.Call (.Name x p) (e :: es) [] pos) (tCall sp [] E t) := by
  refine ⟨fun pins s σ H Q I h => ?_⟩
  refine wpAny_Call_Name_kw (ld_glob I hg hm ?_ hdb)
  refine PySem.W.callWith_K (h₀ := X.base) I.ok.mod.kin hk (thn (ha.run pos pins s σ H _ I h) fun us s1 ⟨vs, H1, I1, r, q⟩ => ⟨I1.kIn, ?_⟩) he hpl
  have q' : sp vs H1 Q E := by
    have z : sp (vs ++ []) H1 Q E := q
    rwa [List.append_nil] at z
  have hl : (us ++ []).length = ps.length := by
    rw [List.append_nil, ← r.length]
    exact F.len _ _ _ _ q'
  have bd := hb s1 us I1.kIn hl
  rw [List.append_nil] at bd
  refine wpAny_call (codeAny_mono (F.run X.A X.stack s1 H1 ⟨us, []⟩ us vs Q E hG hr I1.env0 bd r q') fun res s' y => ?_)
  match res, y with
  | .error er, y => exact hx pins σ H1 s1 er s' I1 y
  | .ok (.ret u), y => exact I1.after y
  | .ok .next, y => exact False.elim y
  | .ok .brk, y => exact False.elim y
  | .ok .cont, y => exact False.elim y
end
section
variable {P : Program} {w : World} {K : PySem.W.Frag} {mg mb : Str → Option Value} {CX : CXT} {k : Nat} {fa a : Addr} {fd : FuncData} {x : Str} {sp : Sp} {s1 : Shared} {vs : List Value} {ns : List Int}
/-- the law's call, from a heap in which the script alone may be tracked -/
theorem law_core (KX : K.In s1.heap) (hns : s1.heap.Ns mainGlobals mg) (hb : s1.heap.Ns builtinsNs mb) (hbb : ∀ x : Str, x ≠ "__name__" → mb x = bootBuiltins x) (hlim : s1.heap.NoLimit) (hg : s1.gens = #[])
    (ha : s1.heap.get? a = some { cls := .type "list", data := .seq vs.toArray }) (hr : Room k PySem.callerA)
    (F : ∀ base : Heap, K.In base → base.Ns mainGlobals mg → FnG P w K mg base CX k fa fd [x] sp) (hbind : ∀ (s : Shared) (u : Value), BindsTo s fd ⟨[u], []⟩ [(x, u)])
    (hCX : ∀ H e s', CX [] H s1 (fun _ _ _ => False) e s' → False) (H : Hp) (hO : Only H) (q0 : sp [.ref a] H (fun v _ => v = .bl true) fun _ _ _ => False) (hok : HOk P w H s1.heap) (hA : ∀ b, H b ≠ none → b = a) (hK : H a ≠ none → K.lookup a = none) :
    codeAny (model P w) PySem.callerA (.call (.ref fa) ⟨[.ref a], []⟩) (fun r s' => r = .ok (.ret (.bool true)) ∧ OldK s1.heap s'.heap ∧ s'.os = s1.os ∧ AllBare s'.gens) s1 := by
  have only_a : ∀ {b : Addr} {u : HO}, H b = some u → b = a := fun {b u} q => hA b (by rw [q]; simp)
  have dict_free : ∀ {b : Addr} {o : Obj} {es : Array DictEntry} {ep : Nat}, s1.heap.get? b = some o → o.data = .dict es ep → H b = none := fun {b o es ep} e d => by
    cases q : H b with
    | none => rfl
    | some u =>
      have z := only_a q
      subst z
      rw [ha] at e
      cases e
      have d' : Data.seq vs.toArray _ = Data.dict es ep := d
      cases d'
  have up : ∀ {b : Addr} {m : Str → Option Value}, s1.heap.Ns b m → (hidT s1.heap H).Ns b m := fun {b m} ⟨o, es, ep, e, d, r⟩ => ⟨o, es, ep, hidT_get e (dict_free e d), d, r⟩
  have kIn : K.In (hidT s1.heap H) := fun b o e => by
    refine hidT_get (KX b o e) ?_
    cases q : H b with
    | none => rfl
    | some u =>
      have z := only_a q
      subst z
      rw [hK (by rw [q]; simp)] at e
      cases e
  have M : Mod K mg (hidT s1.heap H) := ⟨kIn, up hns, ⟨mb, up hb, hbb⟩, let ⟨mc, y1, y2⟩ := hlim; ⟨mc, up y1, y2⟩⟩
  have nil : ∀ b : Addr, b ∉ ([] : List Addr) := fun b z => by simp at z
  have e0 : Env0 P w K mg (hidT s1.heap H) PySem.callerA [] s1 H := ⟨rfl, M, fun b o e => of_hidT e, Nat.le_of_eq (hidT_size _ _), trivial, fun b z => absurd z (nil b), hok, .of_eq hg⟩
  refine codeAny_mono ((F _ kIn (up hns)).run PySem.callerA [] s1 H ⟨[.ref a], []⟩ [.ref a] [.ref a] _ _ rfl hr e0 (hbind s1 (.ref a)) (.cons rfl .nil) q0) fun r s' y => ?_
  match r, y with
  | .error e, y => exact (hCX H e s' y).elim
  | .ok .next, y => exact y.elim
  | .ok .brk, y => exact y.elim
  | .ok .cont, y => exact y.elim
  | .ok (.ret u), ⟨v, H', os, bare, un, hok', rv, q⟩ =>
    have q' : v = .bl true := q
    subst q'
    have eu : u = Value.bool true := rv
    subst eu
    refine ⟨rfl, OldK.of_keep fun b o e => ?_, os, bare⟩
    cases q : H b with
    | none => exact un.keep b o e q (nil b) (nil b)
    | some u =>
      rcases hO b with z | ⟨ob, xs, z⟩
      · rw [q] at z
        cases z
      · have e1 := (hok b _ z).1
        have e2 := (hok' b _ (un.frzs b ob _ z)).1
        rw [e] at e1
        cases e1
        exact e2
theorem law_callG (KX : K.In s1.heap) (hns : s1.heap.Ns mainGlobals mg) (hb : s1.heap.Ns builtinsNs mb) (hbb : ∀ x : Str, x ≠ "__name__" → mb x = bootBuiltins x) (hlim : s1.heap.NoLimit) (hg : s1.gens = #[])
    (ha : s1.heap.get? a = some { cls := .type "list", data := .seq vs.toArray }) (hi : IntsAre vs ns) (hl : ns.length ≤ sizeLine) (hr : Room k PySem.callerA)
    (F : ∀ base : Heap, K.In base → base.Ns mainGlobals mg → FnG P w K mg base CX k fa fd [x] sp) (hbind : ∀ (s : Shared) (u : Value), BindsTo s fd ⟨[u], []⟩ [(x, u)])
    (hsp : ∀ H : Hp, Only H → SqL K H a (ns.map V.int) → sp [.ref a] H (fun v _ => v = .bl true) fun _ _ _ => False) (hCX : ∀ H e s', CX [] H s1 (fun _ _ _ => False) e s' → False) :
    codeAny (model P w) PySem.callerA (.call (.ref fa) ⟨[.ref a], []⟩) (fun r s' => r = .ok (.ret (.bool true)) ∧ OldK s1.heap s'.heap ∧ s'.os = s1.os ∧ AllBare s'.gens) s1 := by
  have rv := vals_ints hi
  have lenV := hi.length
  cases hk : K.lookup a with
  | some o =>
    have e := KX a o hk
    rw [ha] at e
    cases e
    have hO : Only (fun _ => none) := fun _ => .inl rfl
    refine law_core KX hns hb hbb hlim hg ha hr F hbind hCX (fun _ => none) hO (hsp _ hO (.inr ⟨_, vs.toArray, _, hk, rfl, rfl, rfl, by rw [List.size_toArray, lenV]; exact hl, by simpa using rv⟩)) (fun b u z => ?_) (fun b z => absurd rfl z) fun z => absurd rfl z
    have z' : (none : Option HO) = some u := z
    cases z'
  | none =>
    let T : Hp := fun b => if b = a then some (.frz { cls := .type "list", data := .seq vs.toArray } (.lst (ns.map V.int))) else none
    have Ta : T a = some (.frz { cls := .type "list", data := .seq vs.toArray } (.lst (ns.map V.int))) := if_pos rfl
    have Tb : ∀ b, b ≠ a → T b = none := fun b hb => if_neg hb
    have hO : Only T := fun b => by
      by_cases z : b = a
      · exact .inr ⟨_, _, by rw [z]; exact Ta⟩
      · exact .inl (Tb b z)
    refine law_core KX hns hb hbb hlim hg ha hr F hbind hCX T hO (hsp T hO (.inl (.inr ⟨_, Ta⟩))) (fun b u z => ?_) (fun b z => ?_) fun _ => hk
    · by_cases y : b = a
      · subst y
        have z' := Ta.symm.trans z
        cases z'
        exact ⟨ha, by rw [List.length_map]; exact hl, vs, _, rv, ha⟩
      · have z' := (Tb b y).symm.trans z
        cases z'
    · by_cases y : b = a
      · exact y
      · exact absurd (Tb b y) z
end
/-- the goal that the head leaves, from the law's promise -/
theorem walkG {l : PySem.W.OpenLaw} {n k : Nat} {q : Program} {loose : List Str} {XP : (Str → Option Value) → Heap → Prop} {YP : World → Heap → Prop} {d : DefRec} {K : Params → PySem.W.Frag} {CX : World → CXT} {sp : World → Sp} {x : Str}
    (hn : l.most = some n) (hn2 : n ≤ sizeLine) (hdf : d.params.defaults = []) (hr : Room k PySem.callerA) (hY : ∀ (w : World) (h : Heap), YP w h → (K w.params).In h)
    (F : ∀ (w : World) (mg : Str → Option Value) (fa : Addr) (h : Heap), (K w.params).In h → h.Ns mainGlobals mg → mg d.name = some (.ref fa) →
      ∃ fd : FuncData, (∀ (s : Shared) (u : Value), BindsTo s fd ⟨[u], []⟩ [(x, u)]) ∧ ∀ base : Heap, (K w.params).In base → base.Ns mainGlobals mg → FnG l.prog w (K w.params) mg base (CX w) k fa fd [x] (sp w))
    (hsp : ∀ (w : World) (H : Hp) (a : Addr) (ns : List Int), ns.length ≤ n → Only H → SqL (K w.params) H a (ns.map V.int) → sp w [.ref a] H (fun v _ => v = .bl true) fun _ _ _ => False)
    (hCX : ∀ (w : World) (H : Hp) (s : Shared) (e : Value) (s' : Shared), CX w [] H s (fun _ _ _ => False) e s' → False) : PySem.W.WalkO q loose XP YP l.row.toRowW d [] (fun f vs => PySem.call f vs) := by
  refine Att.attach_call hn hdf fun w s0 s1 mg mb fa o pm cd doc a vs ns G Y ho hd hcd hmg hobj hints hlen hg => ?_
  have KX := hY w _ Y
  obtain ⟨fd, hb, hF⟩ := F w mg fa _ KX G.T.g hmg
  exact law_callG KX G.T.g G.T.b G.T.builtins G.T.nolimit hg hobj hints (Nat.le_trans hlen hn2) hr hF hb (fun H hO hS => hsp w H a ns hlen hO hS) fun H e s' => hCX w H s1 e s'
end KL
set_option Elab.async false
set_option linter.all false
set_option maxRecDepth 100000
set_option maxHeartbeats 4000000
namespace KL
open PySem L2 PySem.KX PySem.Spec PyProof.Rows
theorem fnG0 {P : Program} {w : World} {K : PySem.W.Frag} {mg : Str → Option Value} {base : Heap} {k : Nat} {f : Addr} {qual x : Str} {st : Stmt} {N ps : List Str} {sp : Sp} {fd : FuncData} (F : Fun K x qual st f fd) (S : FnScope N ps (defScope st)) (len : ∀ vs H Q E, sp vs H Q E → vs.length = ps.length)
    (hbody : ∀ (cdv : Value) (A : Around) (outer : List Env) (s : Shared) (H : Hp) (vs : List V) (Q : VK) (E : XK), A.guards = some [] → Room k (A.deeper (envOfC qual (defScope st) s.heap.objs.size f cdv)) → sp vs H Q E →
      ∃ t, PSs (cxOf CX0 P w K mg base N qual (defScope st) f cdv A outer s H E).nox (defBody st) t ∧ t { nx := fun _ H' => Q .non H', rt := Q } (start N vs) H) : FnG P w K mg base CX0 (k + 1) f fd ps sp :=
  fnG F S len fun cdv A outer s H vs Q E hg hr hs => by
    obtain ⟨t, ht, hq⟩ := hbody cdv A outer s H vs Q E hg hr hs
    exact ⟨t, ht.nox, hq⟩
/-- what a raised error leaves to be wished for -/
def tMkX (C : Addr) (fl : Str) (ta : TA) : L2.St → Hp → XK → Prop := fun σ H Q => ta σ H fun vs H1 => ∃ v, vs = [v] ∧ ∀ d, H1 d = none → Q (.ref C) (some d) (upd H1 d (.xd [(fl, v)]))
section
variable {X : Cx} {C fI : Addr} {fl qual x : Str} {p pos kpos : Pos} {e : Expr} {te : TE} {ta : TA}
theorem mkpOf {pins : List (Addr × Obj)} {σ : L2.St} {H : Hp} {s : Shared} {h' : Heap} {tk : Nat} {a d : Addr} {v : V} {u : Value} {Q : XK} (I : Inv X pins σ H s) (M : Made s.heap h' a C d fl u) (rv : RelV v u) (hR : Raises X (.ref C)) (q : ∀ d, H d = none → Q (.ref C) (some d) (upd H d (.xd [(fl, v)]))) :
    MkP X pins σ Q (.ref a) { s with heap := h', toks := tk } := by
  have nd : H d = none := I.hok.fresh M.dbig
  have na : H a = none := I.hok.fresh M.new
  obtain ⟨G, g1, g2⟩ := restrict h' fun b => decide (b ≠ a)
  have gk : ∀ b, b ≠ a → G.get? b = h'.get? b := fun b hb => g1 b (decide_eq_true hb)
  have ga : G.get? a = none := g2 a (by simp)
  have gs : ∀ b o, G.get? b = some o → h'.get? b = some o := fun b o e => by
    by_cases hb : b = a
    · rw [hb, ga] at e
      cases e
    · rw [← gk b hb]
      exact e
  obtain ⟨o, es, ep, y1, y2⟩ := M.ns
  have new : ObjOk X.prog X.w (upd H d (.xd [(fl, v)])) G d (.xd [(fl, v)]) := by
    refine ⟨_, ⟨o, es, ep, (gk d M.dne).trans y1, y2⟩, fun f => ?_⟩
    rw [lookup_put]
    by_cases hf : f = fl
    · rw [if_pos hf, if_pos hf]
      exact rv
    · rw [if_neg hf, if_neg hf]
      exact True.intro
  have J := I.laid (t' := tk) (a := d) (o := .xd [(fl, v)]) (h' := G) (fun b o e => (gk b (Nat.ne_of_lt (Nat.lt_of_lt_of_le (Heap.lt_size e) M.new))).trans (M.keep b o e)) M.dbig new
  obtain ⟨t1, ho⟩ := M.obj
  exact ⟨a, _, _, { s with heap := G, toks := tk }, _, .ref C, some d, rfl, J, gs, ga, ho, ⟨rfl, rfl⟩, rfl, rfl, by rw [upd_ne M.dne.symm]; exact na, rfl, I.bare, hR, q d nd⟩
theorem pmk_ex (T : EI X.K C fI fl qual) (tC : PySem.W.typeIn X.K (.ref C) = some (.type "type")) (gC : X.mg x = some (.ref C)) (hr : Room 1 X.A) (hg : Gl X x) (ha : PA X [e] ta) (hdb : (x == ("__debug__" : Str)) = false := by decide) (he : starEach (e :: []) X.env = (false, eval e X.env) :: starEach [] X.env := by rfl)
    (hpl : (backTo pos (starEach [] X.env)).any (·.1) = false := by rfl) : PMk X (.Call (.Name x p) [e] [] pos) (tMkX C fl ta) := by
  intro pins s σ H Q I h
  refine wpAny_Call_Name_kw (ld_glob I hg gC ?_ hdb)
  refine PySem.W.callWith_K (h₀ := X.base) I.ok.mod.kin T.c.kp (thn (ha.run pos pins s σ H _ I h) fun us s1 ⟨vs, H1, I1, r, v, ev, q⟩ => ⟨I1.kIn, ?_⟩) he hpl
  subst ev
  cases r with
  | cons rv rn =>
    cases rn
    exact wpAny_call (exMade T (.inl rfl) I1.kIn I1.nolimit (by have := hr.dp; omega) fun h' tk a d M => mkpOf I1 M rv (raises_own T.c.is.hs tC) q)
theorem pmk_exK (T : EI X.K C fI fl qual) (tC : PySem.W.typeIn X.K (.ref C) = some (.type "type")) (gC : X.mg x = some (.ref C)) (hr : Room 1 X.A) (hg : Gl X x) (ha : PE X e te) (hdb : (x == ("__debug__" : Str)) = false := by decide)
    (hall : (backToKw pos (keywordEach [⟨some fl, e, kpos⟩] X.env)).all (·.1.isSome) = true := by rfl) (hks : (backToKw pos (keywordEach [⟨some fl, e, kpos⟩] X.env)).filterMap (·.1) = [fl] := by rfl)
    (hpl : ((backTo pos (starEach [] X.env)).any (·.1) || (backToKw pos (keywordEach [⟨some fl, e, kpos⟩] X.env)).any (·.1.isNone)) = false := by rfl) : PMk X (.Call (.Name x p) [] [⟨some fl, e, kpos⟩] pos) (tMkX C fl (tCons te tNil)) := by
  intro pins s σ H Q I h
  refine wpAny_Call_Name_kw (ld_glob I hg gC ?_ hdb)
  refine PySem.W.callWith_KW0 (h₀ := X.base) I.ok.mod.kin T.c.kp hall ?_ hpl
  refine thn ((pk_cons ha pk_nil).run pos pins s σ H _ I h) fun us s1 ⟨vs, H1, I1, r, v, ev, q⟩ => ⟨I1.kIn, ?_⟩
  rw [hks]
  subst ev
  cases r with
  | cons rv rn =>
    cases rn
    exact wpAny_call (exMade T (.inr rfl) I1.kIn I1.nolimit (by have := hr.dp; omega) fun h' tk a d M => mkpOf I1 M rv (raises_own T.c.is.hs tC) q)
/-- isinstance of the error that the suite holds -/
def rIsX (K : PySem.W.Frag) (a : Addr) (cls : Value) (d : Option Addr) : List V → Hp → VK → Prop := fun xs H Q => ∃ (D dd : Addr) (fs : List (Str × V)) (c : V) (cv : Value) (b : Bool), xs = [.ref a, c] ∧ cls = .ref D ∧ d = some dd ∧ H dd = some (.xd fs) ∧ EC K D ∧ ClsV c cv ∧ PySem.W.kitOne K (.ref D) cv = some b ∧ Q (.bl b) H
theorem call_isX {a : Addr} {oe : Obj} {cls : Value} {d : Option Addr} {pn : List (Addr × Obj)} (hz : Zc cls d oe) (hf : ∃ vs, oe.data = .fields vs) : CallR (X.suite a ((a, oe) :: pn)) (.builtin "isinstance") (rIsX X.K a cls d) := by
  intro pins s σ H xs us Q I r h
  obtain ⟨D, dd, fs, c, cv, b, rfl, rfl, rfl, hd, T, kc, e, q⟩ := h
  obtain ⟨u1, u2, rfl, r1, r2⟩ := vals2 r
  have e2 := kc.eq r2
  subst e2
  cases (show u1 = Value.ref a from r1)
  obtain ⟨ha, _⟩ := I.pin (a, oe) (List.mem_append_left _ List.mem_cons_self)
  obtain ⟨vs, hv⟩ := hf
  have hx : ObjOk X.prog X.w H s.heap dd (.xd fs) := I.hok dd _ hd
  obtain ⟨mA, hns, _⟩ := hx
  obtain ⟨od, hod, _⟩ := lookIn_ns hns
  have J : PySem.W.InstAt s.heap a oe D (some od) := ⟨ha, hz.1, by unfold PySem.W.notCls; rw [hv] <;> rfl, by rw [hz.2]; exact hod⟩
  have hcl : (PySem.W.clsIn X.K D).isSome = true := by
    obtain ⟨cd, hc, _⟩ := PySem.W.any_some T.hd
    rw [hc]
    rfl
  exact PySem.W.kia_one (PySem.W.kitx_exc hcl T.is.hg T.is.hk T.is.hs T.is.ha T.is.hn T.is.ht T.is.hm) I.kIn J e (fun z => nomatch z) fun tk => ⟨.bl b, H, I.kept (t' := tk) fun _ _ z => z, rfl, q⟩
end
end KL
set_option Elab.async false
set_option linter.all false
set_option maxRecDepth 100000
set_option maxHeartbeats 2000000
namespace KL
open PySem L2 PySem.Spec PyProof.Rows
/-- d[t] = v in a comprehension, t a tuple of ints and texts -/
theorem dt_put {X : Cx} {pins : List (Addr × Obj)} {σ : L2.St} {H : Hp} {s : Shared} {A : Around} {E : Value → Shared → Prop} {D b : Addr} {kvs : List (List Key × V)} {k : List Key} {v : V} {r : Value} {Q : Unit → Shared → Prop} (hu : A.units < cLine) (I : Inv X pins σ H s)
    (hD : H D = some (.dT kvs)) (hz : kvs.length < sizeLine) (hb : H b = some (.tup (k.map kV))) (rv : RelV v r) (q : ∀ t, Inv X pins σ (upd H D (.dT (putK kvs k v))) t → Q () t) : wpAny (model X.prog X.w) A (dictSet D (.ref b) r) Q E s := by
  obtain ⟨z, hd, xs, rel, dd⟩ := dt_of I.hok hD
  have lx : xs.length ≤ sizeLine := (Paired.length rel) ▸ z
  have lp : (putK kvs k v).length ≤ sizeLine := Nat.le_trans (length_putK kvs k v) hz
  refine wpAny_dictSet_heap (hsz := lx) (show (tupleKind (mixKind X.prog X.w)).room A from hu) (key_of I.hok hb) dd fun h2 d2 same2 => q _ ?_
  obtain ⟨o, es, ep, q1, q2, q3, q4, _, q5⟩ := d2
  refine d_write I (by rw [hD]; exact True.intro) same2 ⟨o, q1⟩ ⟨lp, hd, _, (rel.put k hb rv).keeps fun c ys ec => ?_, o, es, ep, q1, q2, q3, q4, q5⟩
  rw [upd_ne (ne_of ec hD (fun z => nomatch z)), ec]
section
variable {B : Cx} {kx vx tg iter : Expr} {scope : Scope} {pos : Pos} {g : TG} {tk tv : TE} {vs : List Nat} {σ0 : L2.St} {J : It} {fp : List Addr} {it D : Addr} {tn : Nat → Heap → Prop} {W : Nat → Nat → Hp → Prop} {Fin : Hp → Prop} {R : Result → Shared → Prop}
/-- the turns of {k: v for target in iter}, keys tuples -/
theorem dt_loop (hc : B.calm = true) (hu : B.A.units < cLine) (T : Turn B.prog B.w B.K tg J fp it tn) (own : ∀ (σ' : L2.St) (H' : Hp) (s' : Shared), Inv B [] σ' H' s' → (∀ b ∈ fp, H' b = none) → ∀ b ∈ fp, FpOk B [] H' b)
    (gq : PG B tg g) (kq : PE B kx tk) (vq : PE B vx tv)
    (turns : ∀ i m H, W i m H → (J.stop i H ∧ Fin H) ∨ (J.go i H ∧ ∃ Nx : Hp → Prop, (∀ H', Nx H' → ∃ m', m' < m ∧ W (i + 1) m' H') ∧ ∀ x H', J.yld i H x H' → g x σ0 H' fun σ2 H2 => wipe σ2 vs = σ0 ∧
      tk σ2 H2 fun y H4 => tv σ2 H4 fun z H5 => ∃ (kvs : List (List Key × V)) (k : List Key) (b : Addr), y = .ref b ∧ H5 b = some (.tup (k.map kV)) ∧ H5 D = some (.dT kvs) ∧ kvs.length < sizeLine ∧ Nx (upd H5 D (.dT (putK kvs k z)))))
    (fin : ∀ s' H', Inv B [] σ0 H' s' → Fin H' → R (.ok .next) s') {m0 : Nat} {H0 : Hp} {s0 : Shared} (I0 : Inv B [] σ0 H0 s0) (t0 : tn 0 s0.heap) (n0 : ∀ b ∈ fp, H0 b = none) (w0 : W 0 m0 H0)
    (hxe : ∀ e s, B.xe e s → False) : codeAny (model B.prog B.w) B.A (.compLoop (.DictComp kx vx [⟨tg, iter, [], 0⟩] scope pos) 0 (.ref it) (.ref D) B.env) R s0 := by
  refine compLoop_anyD (fun n s' => ∃ i H', Inv B [] σ0 H' s' ∧ tn i s'.heap ∧ (∀ b ∈ fp, H' b = none) ∧ W i n H') ?_ m0 ⟨0, H0, I0, t0, n0, w0⟩
  rintro n s1 ⟨i, H1, I1, t1, n1, w1⟩
  have out : ∀ {α : Type} {m : Sem α} {Q Q' : α → Shared → Prop} {E' : Value → Shared → Prop} {s : Shared}, wpAny (model B.prog B.w) B.A m Q B.xe s → (∀ a s', Q a s' → Q' a s') → wpAny (model B.prog B.w) B.A m Q' E' s := fun h f => wpAny_mono h f fun e s' z => (hxe e s' z).elim
  have out0 : ∀ {α : Type} {m : Sem α} {Q Q' : α → Shared → Prop} {E' : Value → Shared → Prop} {s : Shared}, wpAny (model B.prog B.w) B.A m Q (fun _ _ => False) s → (∀ a s', Q a s' → Q' a s') → wpAny (model B.prog B.w) B.A m Q' E' s := fun h f => wpAny_mono h f fun _ _ z => z.elim
  rcases turns i n H1 w1 with ⟨st, fq⟩ | ⟨go, Nx, hN, step⟩
  · refine out0 (T.done B rfl rfl rfl hc i [] s1 _ H1 _ I1 (own _ _ _ I1 n1) t1 st) fun r s2 hr => ?_
    obtain ⟨rfl, I2⟩ := hr
    exact fin s2 H1 I2 fq
  · refine out0 (T.item B rfl rfl rfl hc i [] s1 _ H1 _ I1 (own _ _ _ I1 n1) t1 go) fun r s2 hr => ?_
    obtain ⟨u, rfl, h2⟩ := hr
    refine out0 h2 fun _ s3 h3 => ?_
    obtain ⟨x, H3, I3, r3, y3, t3, n3⟩ := h3
    have P3 := I3.pinned (own _ _ _ I3 n3) (T.obj _ _ t3)
    refine out (gq.run _ s3 _ H3 x u _ P3 r3 (step x H3 y3)) fun _ s4 h4 => ?_
    obtain ⟨σ4, H4, I4, w4, q4⟩ := h4
    show wpAny _ _ (forIn ([] : List Expr) true _) _ _ _
    refine wpAny_pure ?_
    rw [if_pos rfl]
    refine out (kq.run _ s4 σ4 H4 _ I4 q4) fun uk s5 h5 => ?_
    obtain ⟨yk, H5, I5, r5, q5⟩ := h5
    refine out (vq.run _ s5 σ4 H5 _ I5 q5) fun uv s6 h6 => ?_
    obtain ⟨yv, H6, I6, r6, kvs, k, b, ek, hb, hD, hz, nx⟩ := h6
    subst ek
    cases (show uk = Value.ref b from r5)
    refine dt_put hu I6 hD hz hb r6 fun s7 I7 => ?_
    obtain ⟨m', hm, w'⟩ := hN _ nx
    have pin : ∀ c ∈ fp, ∀ o, s3.heap.get? c = some o → s7.heap.get? c = some o ∧ upd H6 D (.dT (putK kvs k yv)) c = none := fun c hcf o e => by
      have z := I7.pin (c, o) (List.mem_append_right _ (List.mem_append_right _ (mem_pinsAt hcf e)))
      exact ⟨z.1, z.2.1⟩
    have l4 : σ0.length = σ4.length := by rw [← w4, wipe_length]
    refine ⟨m', hm, i + 1, _, (I7.unpinned (pins := [])).weak l4 (fun j v e => ?_), T.keep _ _ _ t3 fun c hcf o e => (pin c hcf o e).1, fun c hcf => ?_, w'⟩
    · rw [← w4] at e
      exact (wipe_some e).1
    · obtain ⟨o, e, _⟩ := T.obj _ _ t3 c hcf
      exact (pin c hcf o e).2
end
end KL
set_option Elab.async false
set_option linter.all false
set_option maxRecDepth 100000
set_option maxHeartbeats 2000000
namespace KL
open PySem L2 PySem.Spec PyProof.Rows
/-- {t: v for target in iter}, keys tuples of ints and texts -/
def tDcT (wi : TI) (g : TG) (tk tv : TE) (vs : List Nat) : TE := fun σ H Q => wi σ H fun J H1 => ∀ D, H1 D = none → ∃ W : Nat → Nat → Hp → Prop, (∃ m, W 0 m (upd H1 D (.dT []))) ∧ ∀ i m H, W i m H →
  (J.stop i H ∧ Q (.ref D) H) ∨ (J.go i H ∧ ∃ Nx : Hp → Prop, (∀ H', Nx H' → ∃ m', m' < m ∧ W (i + 1) m' H') ∧ ∀ x H', J.yld i H x H' → g x (wipe σ vs) H' fun σ2 H2 => wipe σ2 vs = wipe σ vs ∧
    tk σ2 H2 fun y H4 => tv σ2 H4 fun z H5 => ∃ (kvs : List (List Key × V)) (k : List Key) (b : Addr), y = .ref b ∧ H5 b = some (.tup (k.map kV)) ∧ H5 D = some (.dT kvs) ∧ kvs.length < sizeLine ∧ Nx (upd H5 D (.dT (putK kvs k z))))
section
variable {X : Cx}
theorem dt_core {pins : List (Addr × Obj)} {σ : L2.St} {H : Hp} {s : Shared} {Q : VK} {us : Option (Value → Sem Unit)} {Qz : Value → Shared → Prop} {pos2 : Pos} {kx vx tg iter : Expr} {scope : Scope} {own : List (Str × Nat)} {pos : Pos} {wi : TI} {g : TG} {tk tv : TE} (hc : X.calm = true) (hu : X.A.units < cLine) (hN : X.N.Nodup) (hi : PI X tg iter wi) (ok : BlkOk X.N X.env.scope scope own)
    (gq : ∀ (s : Shared) (H : Hp) (C : Addr) (cs : List (Str × Addr)) (fp : List Addr), PG (X.blk s H scope (compEnvC scope cs C X.env) fp) tg g)
    (kq : ∀ (s : Shared) (H : Hp) (C : Addr) (cs : List (Str × Addr)) (fp : List Addr), PE (X.blk s H scope (compEnvC scope cs C X.env) fp) kx tk)
    (vq : ∀ (s : Shared) (H : Hp) (C : Addr) (cs : List (Str × Addr)) (fp : List Addr), PE (X.blk s H scope (compEnvC scope cs C X.env) fp) vx tv) (fold : ∀ x, foldedSetIterable iter X.env x = pure x) (I : Inv X pins σ H s) (h : tDcT wi g tk tv (own.map (·.2)) σ H Q)
    (post : ∀ D C s' m H', Inv X pins σ H' s' → Q (.ref D) H' → s'.heap.Ns C m → FpOk X pins H' C → compPost (model X.prog X.w) X.A X.xe us Qz (.ref D) C (.ok .next) s') :
    wpAny (model X.prog X.w) X.A (comprehension (.DictComp kx vx [⟨tg, iter, [], 0⟩] scope pos) scope X.env pos2 newDict false (eval iter X.env) us) Qz X.xe s := by
  have has : ∀ y ∈ scope.names, y.2 = .free → ∃ c, X.env.cells.lookup y.1 = some c := fun y hy e => (ok.free y hy e).elim (fun k => I.ok.has _ (.inl k)) fun k => I.ok.has _ (.inr k)
  refine wpAny_comprehension_free rfl fold (closure_ok has) ok.kind (fun y hy e => (ok.uniq y hy).trans (congrArg some e)) (thn (hi.run pins s σ H _ I h) fun xv s1 hx => thn hx fun itv s2 h2 => ?_)
  obtain ⟨it, fp, tn, J, H2, rfl, I2, T, t2, f2, q⟩ := h2
  refine wpAny_newObj_type (newEnv_comp ?_)
  have nD : H2 s2.heap.objs.size = none := I2.hok.fresh (Nat.le_refl _)
  obtain ⟨W, ⟨m0, w0⟩, turns⟩ := q _ nD
  -- the dict is there
  let s3 : Shared := { s2 with heap := s2.heap.push { cls := .type "dict", data := .dict #[] } }
  have I3 : Inv X pins σ (upd H2 s2.heap.objs.size (.dT [])) s3 := I2.laid (t' := s2.toks) (fun b o e => Heap.get?_push_of_some _ e) (Nat.le_refl _) (dt_empty s2.heap I2.big)
  have f3 : ∀ b ∈ fp, FpOk X pins (upd H2 s2.heap.objs.size (.dT [])) b ∧ b < s3.heap.objs.size := fun b hb => by
    obtain ⟨o, e, _⟩ := T.obj _ _ t2 b hb
    have lt := Heap.lt_size e
    obtain ⟨z, r⟩ := f2 b hb
    refine ⟨⟨(upd_ne (Nat.ne_of_lt lt)).trans z, r⟩, ?_⟩
    show b < (s2.heap.push _).objs.size
    rw [Heap.size_push]
    exact Nat.lt_succ_of_lt lt
  have t3 : tn 0 s3.heap := T.keep _ _ _ t2 fun b _ o e => Heap.get?_push_of_some _ e
  have I4 := block_start I3 ok hN f3
  have gq := gq s3 (upd H2 s2.heap.objs.size (.dT [])) s3.heap.objs.size (cellsFrom (s3.heap.objs.size + 1) scope.names (cloFrom X.env.cells scope.names [])) fp
  have kq := kq s3 (upd H2 s2.heap.objs.size (.dT [])) s3.heap.objs.size (cellsFrom (s3.heap.objs.size + 1) scope.names (cloFrom X.env.cells scope.names [])) fp
  have vq := vq s3 (upd H2 s2.heap.objs.size (.dT [])) s3.heap.objs.size (cellsFrom (s3.heap.objs.size + 1) scope.names (cloFrom X.env.cells scope.names [])) fp
  have t4 : tn 0 (pushCells (s3.heap.push { cls := .type "dict", data := .dict #[] }) scope.names) := T.keep _ _ _ t3 fun b _ o e => pushCells_keeps _ _ _ _ (Heap.get?_push_of_some _ e)
  have loop := dt_loop (B := X.blk s3 (upd H2 s2.heap.objs.size (.dT [])) scope (compEnvC scope (cellsFrom (s3.heap.objs.size + 1) scope.names (cloFrom X.env.cells scope.names [])) s3.heap.objs.size X.env) fp) (iter := iter) (pos := pos) (scope := scope)
    (R := compPost (model X.prog X.w) X.A X.xe us Qz (.ref s2.heap.objs.size) s3.heap.objs.size) (vs := own.map (·.2)) (σ0 := wipe σ (own.map (·.2))) (D := s2.heap.objs.size) (Fin := fun H => Q (.ref s2.heap.objs.size) H) hc hu T
    (fun σ' H' s' I' hn b hb => ⟨hn b hb, (I'.ok.exf b hb).1, I'.ok.exfs b hb, .inl hb, fun x c e => (I'.ok.exf b hb).2 x c e, fun p hp => absurd hp (by simp)⟩)
    gq kq vq turns (fun s5 H5 I5 fq => ?_) I4 t4 (fun b hb => (f3 b hb).1.1) w0 (fun _ _ z => z)
  · exact codeAny_compStart_dict loop (T.self X.A 0 _ _ _ t4 loop)
  · have I6 : Inv X pins σ H5 s5 := I3.call' (ch := fp) I5.os I5.base I5.hok I5.bare fun b hb => by
      obtain ⟨_, z1, _, z3, z4, z5⟩ := (f3 b hb).1
      exact ⟨z3, z1, z4, z5⟩
    have nC : H5 s3.heap.objs.size = none := I5.free
    obtain ⟨m, hn, _⟩ := I5.loc
    exact post _ _ s5 m H5 I6 fq hn (I3.fpOk (Nat.le_refl _) nC)
theorem pe_dcT {kx vx tg iter : Expr} {scope : Scope} {own : List (Str × Nat)} {pos : Pos} {wi : TI} {g : TG} {tk tv : TE} (hc : X.calm = true) (hu : X.A.units < cLine) (hN : X.N.Nodup) (hi : PI X tg iter wi) (ok : BlkOk X.N X.env.scope scope own)
    (gq : ∀ (s : Shared) (H : Hp) (C : Addr) (cs : List (Str × Addr)) (fp : List Addr), PG (X.blk s H scope (compEnvC scope cs C X.env) fp) tg g)
    (kq : ∀ (s : Shared) (H : Hp) (C : Addr) (cs : List (Str × Addr)) (fp : List Addr), PE (X.blk s H scope (compEnvC scope cs C X.env) fp) kx tk)
    (vq : ∀ (s : Shared) (H : Hp) (C : Addr) (cs : List (Str × Addr)) (fp : List Addr), PE (X.blk s H scope (compEnvC scope cs C X.env) fp) vx tv) (fold : ∀ x, foldedSetIterable iter X.env x = pure x := by intro _; rfl) :
    PE X (.DictComp kx vx [⟨tg, iter, [], 0⟩] scope pos) (tDcT wi g tk tv (own.map (·.2))) := by
  refine ⟨fun pins s σ H Q I h => ?_⟩
  rw [arm_eval_DictComp]
  refine dt_core hc hu hN hi ok gq kq vq fold I h fun D C s5 m H5 I6 fq hn f => ⟨m, hn, fun h6 sb => ?_⟩
  obtain ⟨z0, z1, z2, z3, z4, z5⟩ := f
  exact ⟨.ref _, H5, I6.turned (t' := s5.toks) (fun b o hb e => (sb.2 b hb).trans e) z0 z1 z3 z4 z5, rfl, fq⟩
/-- y = {t: v for target in iter} -/
theorem ps_setDcT {i : Nat} {y : Str} {py spos : Pos} {kx vx tg iter : Expr} {scope : Scope} {own : List (Str × Nat)} {pos : Pos} {wi : TI} {g : TG} {tk tv : TE} (hy : X.N[i]? = some y) (hyl : X.env.scope.names.lookup y = some .local) (sw : swapsWith (.DictComp kx vx [⟨tg, iter, [], 0⟩] scope pos) (some (.Name y py)) spos.line X.env = pure true) (hc : X.calm = true) (hu : X.A.units < cLine) (hN : X.N.Nodup) (hi : PI X tg iter wi) (ok : BlkOk X.N X.env.scope scope own)
    (gq : ∀ (s : Shared) (H : Hp) (C : Addr) (cs : List (Str × Addr)) (fp : List Addr), PG (X.blk s H scope (compEnvC scope cs C X.env) fp) tg g)
    (kq : ∀ (s : Shared) (H : Hp) (C : Addr) (cs : List (Str × Addr)) (fp : List Addr), PE (X.blk s H scope (compEnvC scope cs C X.env) fp) kx tk)
    (vq : ∀ (s : Shared) (H : Hp) (C : Addr) (cs : List (Str × Addr)) (fp : List Addr), PE (X.blk s H scope (compEnvC scope cs C X.env) fp) vx tv) (fold : ∀ x, foldedSetIterable iter X.env x = pure x := by intro _; rfl) :
    PS X (.Assign [.Name y py] (.DictComp kx vx [⟨tg, iter, [], 0⟩] scope pos) spos) (tAsg (tDcT wi g tk tv (own.map (·.2))) (gName i)) := by
  refine ⟨fun pins s σ H D I h => ?_⟩
  rw [exec_Assign_Name_used _ _ _ _ sw, arm_evalThenUse_DictComp]
  have h : tDcT wi g tk tv (own.map (·.2)) σ H (fun x H1 => gName i x σ H1 D.nx) := h
  refine wpAny_bind (wpAny_standAt (wpAny_bind (wpAny_bind (thn (dt_core (Qz := fun _ t => SP X pins D .next t) hc hu hN hi ok gq kq vq fold I h fun L C s5 m H5 I6 fq hn f => ?_) fun _ t hq => wpAny_pure (wpAny_pure hq)))))
  show wpAny _ _ (assign (.Name y py) X.env (.ref L)) _ _ _
  refine wpAny_assign_Name (store_ok2 (v := V.ref L) I6 hN hy (.inl hyl) rfl (fun s2 I2 ⟨a, sb, ha⟩ => ?_) (.inr hyl))
  obtain ⟨z0, z1, z2, z3, z4, z5⟩ := f
  have nC : C ≠ a := ha.elim (fun z => z ▸ z1) fun z e => z4 y a z e.symm
  exact ⟨m, hn.sameBut sb nC, fun h6 sb6 => ⟨_, H5, I2.turned (t' := s2.toks) (fun b o hb e => (sb6.2 b hb).trans e) z0 z1 z3 z4 z5, fq⟩⟩
end
end KL
set_option Elab.async false
set_option linter.all false
set_option maxRecDepth 100000
set_option maxHeartbeats 2000000
namespace KL
open PySem L2 PySem.KX PySem.Spec PyProof.Rows
/-- a def that may raise -/
theorem fnX {P : Program} {w : World} {K : PySem.W.Frag} {mg : Str → Option Value} {base : Heap} {x qual : Str} {st : Stmt} {f : Addr} {fd : FuncData} {N ps : List Str} {k : Nat} {sp : Sp} (F : Fun K x qual st f fd) (S : FnScope N ps (defScope st)) (len : ∀ vs H Q E, sp vs H Q E → vs.length = ps.length)
    (hbody : ∀ (cdv : Value) (A : Around) (outer : List Env) (s : Shared) (H : Hp) (vs : List V) (Q : VK) (E : XK), Room k (A.deeper (envOfC qual (defScope st) s.heap.objs.size f cdv)) → sp vs H Q E →
      Takes (cxOf (L2.CX P w) P w K mg base N qual (defScope st) f cdv A outer s H E) (fun cls d _ H' => E cls d H') →
      PassesOwn (model P w) (A.deeper (envOfC qual (defScope st) s.heap.objs.size f cdv)) (envOfC qual (defScope st) s.heap.objs.size f cdv) (cxOf (L2.CX P w) P w K mg base N qual (defScope st) f cdv A outer s H E).xe →
      ∃ t, PSs (cxOf (L2.CX P w) P w K mg base N qual (defScope st) f cdv A outer s H E) (defBody st) t ∧ t { nx := fun _ H' => Q .non H', rt := Q } (start N vs) H) : FnOk P w K mg base (L2.CX P w) (k + 1) f fd ps sp := by
  obtain ⟨oc, od, kV, doc, pm, an, cdv, ct, osl, rfl, lk, hcd⟩ := F.ex
  exact fn_of lk hcd S len fun A outer s H vs Q E hr hs => hbody cdv A outer s H vs Q E hr hs (takes_of rfl rfl rfl rfl) (passes_of rfl)
structure TxtE (K : PySem.W.Frag) (mg : Str → Option Value) (CB IB : Addr) : Prop where
  ei : EI K CB IB "part" "BadHouse.__init__"
  ty : PySem.W.typeIn K (.ref CB) = some (.type "type")
  m : mg "BadHouse" = some (.ref CB)
def cut2 : PyData → PyData
  | .tuple ds => .tuple (ds.take 2)
  | d => d
def badOf (ok : Bool) (word : Str) : Option PyData := if ok = true then none else some (.str word)
def chkA (k : Kit) (d : PyData) : Option PyData :=
  if isTupD d = true then ((itemsD d).find? fun x => !arrowD k x).or (badOf (ascD ((itemsD d).map cut2)) "arrows") else some (.str "arrows")
def spChk (C CB : Addr) (f : Kit → PyData → Option PyData) : Sp := fun vs H Q E => ∃ (hv v : V) (d : PyData) (kt : Kit), vs = [hv, v] ∧ Hs H hv C kt ∧ Dq H v d ∧ smB d = true ∧ (f kt d = none → ∀ H', Same H H' → Q .non H') ∧
  ∀ it, f kt d = some it → ∀ H' dd v', Same H H' → Dq H' v' it → H' dd = some (.xd [("part", v')]) → E (.ref CB) (some dd) H'
theorem find_at {p : PyData → Bool} : ∀ {ds : List PyData} {i : Nat} {d : PyData}, (ds.take i).all p = true → ds[i]? = some d → p d = false → (ds.find? fun x => !p x) = some d
  | [], _, _, _, e, _ => by simp at e
  | x :: ds, 0, d, _, e, h => by
    simp at e
    subst e
    rw [List.find?_cons_of_pos]
    simp [h]
  | x :: ds, i + 1, d, a, e, h => by
    have a' := Bool.and_eq_true_iff.mp (show (p x && (ds.take i).all p) = true from a)
    rw [List.find?_cons_of_neg (by simp [a'.1])]
    exact find_at a'.2 (by simpa using e) h
theorem find_none {p : PyData → Bool} {ds : List PyData} (a : ds.all p = true) : (ds.find? fun x => !p x) = none := by
  rw [List.find?_eq_none]
  intro x hx
  simp [List.all_eq_true.mp a x hx]
theorem take_all {p : PyData → Bool} {ds : List PyData} {i : Nat} {d : PyData} (a : (ds.take i).all p = true) (e : ds[i]? = some d) (h : p d = true) : (ds.take (i + 1)).all p = true := by
  rw [List.take_add_one, e, List.all_append, a]
  simp [h]
/-- a comprehension that has made these data so far, some of them new -/
def MadeN (H0 : Hp) (D : Addr) (es : List PyData) (H : Hp) : Prop := ∃ (J : Hp) (ys : List V), Same H0 J ∧ J D = none ∧ Same J H ∧ H D = some (.lst ys) ∧ DqAll J ys es
theorem MadeN.start {H0 : Hp} {D : Addr} (nD : H0 D = none) : MadeN H0 D [] (upd H0 D (.lst [])) := ⟨H0, [], Same.refl _, nD, same_new nD, upd_same, .nil⟩
theorem MadeN.same {H0 H : Hp} {D : Addr} {es : List PyData} (M : MadeN H0 D es H) : Same H0 H := by
  obtain ⟨J, ys, S0, _, S1, _⟩ := M
  exact S0.trans S1
theorem MadeN.turn {H0 H : Hp} {D p : Addr} {es ds : List PyData} {us : List V} (M : MadeN H0 D es H) (np : H p = none) (q : DqAll H0 us ds) :
    ∃ acc, upd H p (.tup us) D = some (.lst acc) ∧ acc.length = es.length ∧ MadeN H0 D (es ++ [.tuple ds]) (upd (upd H p (.tup us)) D (.lst (acc ++ [.ref p]))) := by
  obtain ⟨J, ys, S0, nD, S1, hD, hq⟩ := M
  have pD : p ≠ D := fun z => by
    rw [z, hD] at np
    cases np
  have nJ : J p = none := by
    cases e : J p with
    | none => rfl
    | some o =>
      rw [S1 _ _ e] at np
      cases np
  have SJ := same_new (o := .tup us) nJ
  refine ⟨ys, by rw [upd_ne pD.symm]; exact hD, hq.len, upd J p (.tup us), ys ++ [.ref p], S0.trans SJ, by rw [upd_ne pD.symm]; exact nD, fun b o e => ?_, upd_same, ?_⟩
  · have bD : b ≠ D := fun z => by
      rw [z, upd_ne pD.symm, nD] at e
      cases e
    rw [upd_ne bD]
    by_cases bp : b = p
    · subst bp
      rw [upd_same] at e ⊢
      exact e
    · rw [upd_ne bp] at e ⊢
      exact S1 _ _ e
  · exact (DqAll.same SJ _ _ hq).snoc (.tup upd_same (DqAll.same (S0.trans SJ) _ _ q))
theorem DqAll.take {H : Hp} : ∀ {ds : List PyData} {xs : List V} (n : Nat), DqAll H xs ds → DqAll H (xs.take n) (ds.take n)
  | [], _, n, h => by
    cases h
    simp
    exact .nil
  | _ :: _, _, 0, h => .nil
  | _ :: _, _, n + 1, h => by
    cases h with
    | cons q r => exact .cons q (DqAll.take n r)
theorem cut_two (xs : List V) (h : 2 ≤ xs.length) : cutV xs none (some 2) = xs.take 2 := by
  unfold cutV
  rw [HT.sIx_none, show HT.sIx xs.length xs.length (some 2) = min 2 xs.length from HT.sIx_nat xs.length xs.length 2]
  rw [List.drop_zero, Nat.sub_zero, Nat.min_eq_left h]
theorem not_whole (xs : List V) (h : 2 < xs.length) : ¬ (HT.sIx xs.length 0 none = 0 ∧ HT.sIx xs.length xs.length (some 2) = xs.length) := fun z => by
  have q := z.2
  rw [show HT.sIx xs.length xs.length (some 2) = min 2 xs.length from HT.sIx_nat xs.length xs.length 2] at q
  omega
theorem in_letters {n : Int} {dd : List PyData} {d : PyData} (h : deedsD n (.tuple dd) = true) (q : inD (dd.map (itemD 0)) d = true) : ∃ x, d = .str x ∧ letS x = true := by
  simp only [deedsD, Bool.and_eq_true] at h
  have h2 : dd.all (deedD n) = true := h.2.1
  obtain ⟨e, he, q⟩ := List.any_eq_true.mp (show (dd.map (itemD 0)).any (fun e => strIs e d) = true from q)
  obtain ⟨a, ha, rfl⟩ := List.mem_map.mp he
  obtain ⟨x, i, rfl, hx, _⟩ := deed_of (List.all_eq_true.mp h2 a ha)
  cases d with
  | str y =>
    have q : (x == y) = true := q
    exact ⟨y, rfl, by rw [← eq_of_beq q]; exact hx⟩
  | _ => exact absurd q (by simp [itemD, strIs, isStrD])
theorem arrow_of {k : Kit} {d : PyData} (hk : deedsD k.pe (.tuple k.dd) = true) (h : arrowD k d = true) : ∃ i x t f m, d = .tuple [.int i, .str x, .int t, f, m] ∧ letS x = true := by
  simp only [arrowD, Bool.and_eq_true] at h
  obtain ⟨h1, h2, h3, _⟩ := h
  obtain ⟨ds, rfl, l1, l2⟩ := tup_of h1
  obtain ⟨a, b, c, f, m, rfl⟩ := five l1 l2
  have h2 := Bool.and_eq_true_iff.mp (show (betD 0 (k.pl - 1) a && inD (k.dd.map (itemD 0)) b) = true from h2)
  obtain ⟨i, rfl, _⟩ := bet_of h2.1
  obtain ⟨x, rfl, hx⟩ := in_letters hk h2.2
  obtain ⟨t, rfl, _⟩ := bet_of (show betD 0 (k.pl - 1) c = true from h3)
  exact ⟨i, x, t, f, m, rfl, hx⟩
theorem lay_cuts {k : Kit} (hk : deedsD k.pe (.tuple k.dd) = true) : ∀ {ds : List PyData}, ds.all (arrowD k) = true → PyData.canLayAll0 (ds.map cut2) = true ∧ PyData.depthAll (ds.map cut2) ≤ 1
  | [], _ => ⟨rfl, Nat.zero_le _⟩
  | d :: ds, h => by
    have h' := Bool.and_eq_true_iff.mp (show (arrowD k d && ds.all (arrowD k)) = true from h)
    obtain ⟨q1, q2⟩ := lay_cuts hk h'.2
    obtain ⟨i, x, t, f, m, rfl, hx⟩ := arrow_of hk h'.1
    refine ⟨?_, ?_⟩
    · show ((true && (PyData.strOk x && true)) && PyData.canLayAll0 (ds.map cut2)) = true
      rw [(letS_ok hx).1, q1]
      rfl
    · show max 1 (PyData.depthAll (ds.map cut2)) ≤ 1
      omega
theorem cmp_cuts {k : Kit} {ds : List PyData} (hk : deedsD k.pe (.tuple k.dd) = true) (h : ds.all (arrowD k) = true) (i : Nat) (hi : i + 1 < (ds.map cut2).length) : cmpD ((ds.map cut2).getD i .none) ((ds.map cut2).getD (i + 1) .none) = true := by
  rw [List.length_map] at hi
  rw [getD_map (by omega), getD_map hi]
  obtain ⟨i1, x1, t1, f1, m1, e1, _⟩ := arrow_of hk (all_at (f := arrowD k) h (show i < ds.length by omega))
  obtain ⟨i2, x2, t2, f2, m2, e2, _⟩ := arrow_of hk (all_at (f := arrowD k) h hi)
  rw [e1, e2]
  rfl
section
variable {P : Program} {w : World} {K : PySem.W.Frag} {mg : Str → Option Value} {base : Heap} {C CB IB : Addr}
theorem scChkA : FnScope ["house", "arrows", "item", "arrow"] ["house", "arrows"] (defScope sChkArrows) := ⟨rfl, rfl, rfl, by decide +kernel, rfl, by decide +kernel, by decide +kernel⟩
theorem ok_chkA {f g1 g2 : Addr} {fd gd1 gd2 : FuncData} (F : Fun K "check_arrows" "check_arrows" sChkArrows f fd) (T : TxtB mg) (TE : TxtE K mg CB IB) (G1 : FnOk P w K mg base CX0 4 g1 gd1 ["house", "thing"] (spHs C arrowD)) (c1 : Cal K mg "is_arrow" g1 gd1 ["house", "thing"])
    (G2 : FnOk P w K mg base CX0 1 g2 gd2 ["items"] spAsc) (c2 : Cal K mg "is_ascending" g2 gd2 ["items"]) : FnOk P w K mg base (L2.CX P w) 5 f fd ["house", "arrows"] (spChk C CB chkA) := by
  refine fnX F scChkA (fun vs H Q E h => ?_) (fun cdv A outer s H vs Q E hr h tk po => ?_)
  · obtain ⟨hv, v, d, kt, rfl, _⟩ := h
    rfl
  · obtain ⟨hv, v, d, kt, rfl, hh, hd, sm, k, kE⟩ := h
    have hr1 : Room 1 _ := hr.mono (by decide)
    refine ⟨_, pss_cons (ps_if (pt_not (pt_val (pe_callB call_isD (by rfl) T.isi (by decide +kernel) (pa_cons (pv 1) (pa_cons (pe_bltn (v := .ty "tuple") (by rfl) T.tuple (by decide +kernel) rfl) pa_nil))))) (pss_one (ps_raise rfl tk (pmk_ex TE.ei TE.ty TE.m hr1 (by rfl) (pa_cons pe_str pa_nil)))) pss_nil)
      (pss_cons (ps_for po rfl (pi_tup (pv 1)) (pg_name (i := 2) scChkA.nd rfl (.inl rfl)) (pss_one (ps_if (pt_not (pt_val (pe_call G1 hr (by rfl) c1.m c1.k c1.b .nil pass0 (pa_cons (pv 0) (pa_cons (pv 2) pa_nil))))) (pss_one (ps_raise rfl tk (pmk_ex TE.ei TE.ty TE.m hr1 (by rfl) (pa_cons (pv 2) pa_nil)))) pss_nil)))
      (pss_one (ps_if (pt_not (pt_val (pe_call G2 hr1 (by rfl) c2.m c2.k c2.b .nil pass0 (pa_cons (pe_lc (own := [("arrow", 3)]) (g := gName 3) (tt := tYes) rfl scChkA.nd (pi_tup (pv 1)) (blkOk_by (N := ["house", "arrows", "item", "arrow"]) (sc := defScope sChkArrows) (by decide +kernel)) (fun _ _ _ _ _ => pg_name (i := 3) scChkA.nd rfl (.inl rfl)) (fun _ _ _ _ _ => pts_nil)
        (fun _ _ _ _ _ => pe_slice (r := rSlT K) sl_tup (pv 3) po_none (po_some pe_int))) pa_nil)))) (pss_one (ps_raise rfl tk (pmk_ex TE.ei TE.ty TE.m hr1 (by rfl) (pa_cons pe_str pa_nil)))) pss_nil))), ?_⟩
    have no : isTupD d = false → ∀ dd, H dd = none → E (.ref CB) (some dd) (upd H dd (.xd [("part", .str "arrows")])) := fun z dd nd => by
      refine kE (.str "arrows") ?_ _ dd _ (same_new nd) (.str _) upd_same
      unfold chkA
      rw [z]
      rfl
    refine ⟨_, rfl, v, d, "tuple", rfl, by decide, hd, _, rfl, ?_⟩
    cases hd with
    | @tup b xs ds e hda =>
      have hD : isTupD (.tuple ds) = true := rfl
      have kD : chkA kt (.tuple ds) = (ds.find? fun x => !arrowD kt x).or (badOf (ascD (ds.map cut2)) "arrows") := rfl
      refine iteNo rfl ?_
      refine ⟨_, rfl, b, rfl, ⟨_, SqT.of e⟩, for_tup (K := K) (a := b) (xs := xs) (fun i σ H1 => Same H H1 ∧ (ds.take i).all (arrowD kt) = true ∧ ∃ o, σ = [some hv, some (.ref b), o, none]) ⟨Same.refl _, rfl, none, rfl⟩ (fun i σ H1 _ P => SqT.of (P.1 _ _ e)) ?_ ?_⟩
      · rintro i x σ H1 hx ⟨S1, a1, o, rfl⟩
        obtain ⟨d', hd', hq⟩ := DqAll.at hda hx
        refine ⟨_, rfl, x, rfl, hv, x, d', kt, rfl, hh.same S1, Dq.same S1 _ _ hq, sm_at (sm_all sm) hd', fun H2 S2 => ⟨_, rfl, ?_⟩⟩
        by_cases ha : arrowD kt d' = true
        · refine iteNo (by rw [ha]; rfl) ?_
          exact ⟨S1.trans S2, take_all a1 hd' ha, some x, rfl⟩
        · have ha : arrowD kt d' = false := by simpa using ha
          refine iteYes (by rw [ha]; rfl) ?_
          refine ⟨x, rfl, x, rfl, fun dd nd => ?_⟩
          refine kE d' ?_ _ dd x (S1.trans (S2.trans (same_new nd))) (Dq.same (S1.trans (S2.trans (same_new nd))) _ _ hq) upd_same
          rw [kD, find_at a1 hd' ha]
          rfl
      · rintro σ H1 ⟨S1, a1, o, rfl⟩
        rw [hda.len, List.take_length] at a1
        have kF : (ds.find? fun x => !arrowD kt x) = none := find_none a1
        refine ⟨_, rfl, b, rfl, ⟨_, SqT.of (S1 _ _ e)⟩, fun D nD => ?_⟩
        refine lc_tup (K := K) (a := b) (xs := xs) (fun i H2 => MadeN H1 D ((ds.take i).map cut2) H2) (MadeN.start nD) (fun i H2 _ M => SqT.of (M.same _ _ (S1 _ _ e))) ?_ ?_
        · rintro i x H2 hx M
          obtain ⟨d', hd', hq⟩ := DqAll.at hda hx
          obtain ⟨i1, x1, t1, f1, m1, rfl, _⟩ := arrow_of hh.dd (List.all_eq_true.mp a1 d' (List.mem_of_getElem? hd'))
          cases hq with
          | @tup c zs _ e' hza =>
            have hl : zs.length = 5 := hza.len
            refine ⟨rfl, _, rfl, _, rfl, c, zs, rfl, SqT.of (M.same _ _ (S1 _ _ e')), not_whole zs (by omega), fun p np => ?_⟩
            rw [cut_two zs (by omega)]
            obtain ⟨acc, h1, h2, h3⟩ := M.turn np (DqAll.same S1 _ _ (hza.take 2))
            refine ⟨acc, h1, ?_, ?_⟩
            · rw [h2, List.length_map, List.length_take]
              have := sm_len sm
              rw [sizeLine_eq]
              omega
            · rw [take_map hd']
              exact h3
        · rintro H2 M
          rw [hda.len, List.take_length] at M
          obtain ⟨J, ys, S2, _, S3, hy, hq⟩ := M
          have S12 := S1.trans (S2.trans S3)
          obtain ⟨z1, z2⟩ := lay_cuts hh.dd a1
          refine ⟨D, ys, ds.map cut2, rfl, .inl hy, DqAll.same S3 _ ys hq, by rw [List.length_map]; exact sm_len sm, z1, Nat.le_trans z2 (by decide), cmp_cuts hh.dd a1, fun H3 S4 => ⟨_, rfl, ?_⟩⟩
          by_cases hA : ascD (ds.map cut2) = true
          · refine iteNo (by rw [hA]; rfl) ?_
            refine k ?_ H3 (S12.trans S4)
            rw [kD, kF, hA]
            rfl
          · have hA : ascD (ds.map cut2) = false := by simpa using hA
            refine iteYes (by rw [hA]; rfl) ?_
            refine ⟨_, rfl, fun dd nd => ?_⟩
            refine kE (.str "arrows") ?_ _ dd _ (S12.trans (S4.trans (same_new nd))) (.str _) upd_same
            rw [kD, kF, hA]
            rfl
    | non => exact iteYes rfl ⟨_, rfl, no rfl⟩
    | bl _ => exact iteYes rfl ⟨_, rfl, no rfl⟩
    | int _ => exact iteYes rfl ⟨_, rfl, no rfl⟩
    | str _ => exact iteYes rfl ⟨_, rfl, no rfl⟩
    | lst _ _ => exact iteYes rfl ⟨_, rfl, no rfl⟩
    | dct0 _ => exact iteYes rfl ⟨_, rfl, no rfl⟩
    | dct1 _ => exact iteYes rfl ⟨_, rfl, no rfl⟩
end
end KL
set_option Elab.async false
set_option linter.all false
set_option maxRecDepth 100000
set_option maxHeartbeats 2000000
namespace KL
open PySem L2 PySem.KX PySem.Spec PyProof.Rows
def keyD : PyData → List Key
  | .tuple (.int i :: .str x :: _) => [Sum.inl i, Sum.inr x]
  | _ => []
def hasK (ks : List (List Key)) (k : List Key) : Bool := ks.any fun j => decide (j = k)
def takenD (as : List PyData) (d : PyData) : Bool := hasK (as.map keyD) (keyD d)
def testT (k : Kit) (as : List PyData) (d : PyData) : Bool := testD k d && takenD as d
def chkT (k : Kit) (as : List PyData) (d : PyData) : Option PyData :=
  if isTupD d = true then ((itemsD d).find? fun x => !testT k as x).or (badOf (ascD (itemsD d)) "tests") else some (.str "tests")
/-- the arrows of a house -/
structure HsA (H : Hp) (v : V) (C : Addr) (as : List PyData) : Prop where
  ex : ∃ a dx fs q xs, v = .ref a ∧ H a = some (.ins C dx fs) ∧ fs.lookup ("arrows" : Str) = some (.ref q) ∧ H q = some (.tup xs) ∧ DqAll H xs as
theorem HsA.same {H H' : Hp} {v : V} {C : Addr} {as : List PyData} (h : HsA H v C as) (S : Same H H') : HsA H' v C as := by
  obtain ⟨a, dx, fs, q, xs, e, ha, h1, h2, h3⟩ := h
  exact ⟨a, dx, fs, q, xs, e, S _ _ ha, h1, S _ _ h2, DqAll.same S _ _ h3⟩
def spChkT (C CB : Addr) : Sp := fun vs H Q E => ∃ (hv v : V) (d : PyData) (kt : Kit) (as : List PyData), vs = [hv, v] ∧ Hs H hv C kt ∧ HsA H hv C as ∧ as.all (arrowD kt) = true ∧ as.length ≤ 1000 ∧ Dq H v d ∧ smB d = true ∧ (chkT kt as d = none → ∀ H', Same H H' → Q .non H') ∧
  ∀ it, chkT kt as d = some it → ∀ H' dd v', Same H H' → Dq H' v' it → H' dd = some (.xd [("part", v')]) → E (.ref CB) (some dd) H'
theorem test_of {k : Kit} {d : PyData} (hk : deedsD k.pe (.tuple k.dd) = true) (h : testD k d = true) : ∃ i x fs lo hi, d = .tuple [.int i, .str x, .tuple fs, .int lo, .int hi] ∧ letS x = true ∧ fs.all intD = true := by
  simp only [testD, Bool.and_eq_true] at h
  obtain ⟨h1, h2, h3, h4, h5, _⟩ := h
  obtain ⟨ds, rfl, l1, l2⟩ := tup_of h1
  obtain ⟨a, b, c, f, m, rfl⟩ := five l1 l2
  have h2 := Bool.and_eq_true_iff.mp (show (betD 0 (k.pl - 1) a && inD (k.dd.map (itemD 0)) b) = true from h2)
  obtain ⟨i, rfl, _⟩ := bet_of h2.1
  obtain ⟨x, rfl, hx⟩ := in_letters hk h2.2
  obtain ⟨lo, rfl⟩ := int_of (show intD f = true from h4)
  obtain ⟨hi, rfl⟩ := int_of (show intD m = true from h5)
  have h3 : formD k.n c = true := h3
  cases c with
  | tuple fs => exact ⟨i, x, fs, lo, hi, rfl, hx, (Bool.and_eq_true_iff.mp h3).2⟩
  | _ => cases h3
theorem lay_nums : ∀ {ds : List PyData}, ds.all intD = true → PyData.canLayAll0 ds = true ∧ PyData.depthAll ds = 0
  | [], _ => ⟨rfl, rfl⟩
  | d :: ds, h => by
    have h' := Bool.and_eq_true_iff.mp (show (intD d && ds.all intD) = true from h)
    obtain ⟨i, rfl⟩ := int_of h'.1
    obtain ⟨q1, q2⟩ := lay_nums h'.2
    refine ⟨?_, ?_⟩
    · show (true && PyData.canLayAll0 ds) = true
      rw [q1]
      rfl
    · show max 0 (PyData.depthAll ds) = 0
      rw [q2]
      rfl
theorem lay_tests {k : Kit} (hk : deedsD k.pe (.tuple k.dd) = true) : ∀ {ds : List PyData}, ds.all (testD k) = true → PyData.canLayAll0 ds = true ∧ PyData.depthAll ds ≤ 2
  | [], _ => ⟨rfl, Nat.zero_le _⟩
  | d :: ds, h => by
    have h' := Bool.and_eq_true_iff.mp (show (testD k d && ds.all (testD k)) = true from h)
    obtain ⟨q1, q2⟩ := lay_tests hk h'.2
    obtain ⟨i, x, fs, lo, hi, rfl, hx, hf⟩ := test_of hk h'.1
    obtain ⟨f1, f2⟩ := lay_nums hf
    refine ⟨?_, ?_⟩
    · show ((true && (PyData.strOk x && (PyData.canLayAll0 fs && (true && (true && true))))) && PyData.canLayAll0 ds) = true
      rw [(letS_ok hx).1, q1, f1]
      rfl
    · show max (max 0 (max 0 (max (PyData.depthAll fs + 1) (max 0 (max 0 0)))) + 1) (PyData.depthAll ds) ≤ 2
      rw [f2]
      omega
theorem cmp_nums : ∀ {xs ys : List PyData}, xs.all intD = true → ys.all intD = true → cmpAll xs ys = true
  | [], ys, _, _ => by
    cases ys <;> rfl
  | _ :: _, [], _, _ => rfl
  | x :: xs, y :: ys, h1, h2 => by
    have h1' := Bool.and_eq_true_iff.mp (show (intD x && xs.all intD) = true from h1)
    have h2' := Bool.and_eq_true_iff.mp (show (intD y && ys.all intD) = true from h2)
    obtain ⟨i, rfl⟩ := int_of h1'.1
    obtain ⟨j, rfl⟩ := int_of h2'.1
    show (true && cmpAll xs ys) = true
    rw [cmp_nums h1'.2 h2'.2]
    rfl
theorem cmp_tests {k : Kit} {ds : List PyData} (hk : deedsD k.pe (.tuple k.dd) = true) (h : ds.all (testD k) = true) (i : Nat) (hi : i + 1 < ds.length) : cmpD (ds.getD i .none) (ds.getD (i + 1) .none) = true := by
  obtain ⟨i1, x1, f1, l1, h1, e1, _, a1⟩ := test_of hk (all_at (f := testD k) h (show i < ds.length by omega))
  obtain ⟨i2, x2, f2, l2, h2, e2, _, a2⟩ := test_of hk (all_at (f := testD k) h hi)
  rw [e1, e2]
  show (true && (true && (cmpAll f1 f2 && (true && (true && true))))) = true
  rw [cmp_nums a1 a2]
  rfl
/-- keys so far -/
def MadeT (H0 : Hp) (D : Addr) (ks : List (List Key)) (H : Hp) : Prop := Same H0 H ∧ ∃ kvs : List (List Key × V), H D = some (.dT kvs) ∧ kvs.length ≤ ks.length ∧ ∀ k, (valV kvs k).isSome = hasK ks k
theorem MadeT.turn {H0 H : Hp} {D p : Addr} {ks : List (List Key)} {k : List Key} {v : V} (M : MadeT H0 D ks H) (nD : H0 D = none) (np : H p = none) (hl : ks.length < 1000) :
    ∃ (kvs : List (List Key × V)) (k' : List Key) (b : Addr), V.ref p = .ref b ∧ upd H p (.tup (k.map kV)) b = some (.tup (k'.map kV)) ∧ upd H p (.tup (k.map kV)) D = some (.dT kvs) ∧ kvs.length < sizeLine ∧ MadeT H0 D (ks ++ [k]) (upd (upd H p (.tup (k.map kV))) D (.dT (putK kvs k' v))) := by
  obtain ⟨S0, kvs, hD, hn, hk⟩ := M
  have pD : p ≠ D := fun z => by
    rw [z, hD] at np
    cases np
  refine ⟨kvs, k, p, rfl, upd_same, by rw [upd_ne pD.symm]; exact hD, by rw [sizeLine_eq]; omega, fun b o e => ?_, _, upd_same, ?_, fun j => ?_⟩
  · have bD : b ≠ D := fun z => by
      rw [z, nD] at e
      cases e
    rw [upd_ne bD, upd_ne (ne_of_none (S0 _ _ e) np)]
    exact S0 _ _ e
  · have := length_putK kvs k v
    rw [List.length_append]
    exact Nat.le_trans this (Nat.succ_le_succ hn)
  · rw [valV_put]
    by_cases e : j = k
    · rw [if_pos e]
      simp [hasK, e]
    · rw [if_neg e, hk]
      have e' : ¬ k = j := fun z => e z.symm
      simp [hasK, e']
section
variable {P : Program} {w : World} {K : PySem.W.Frag} {mg : Str → Option Value} {base : Heap} {C CB IB : Addr}
theorem scChkT : FnScope ["house", "tests", "taken", "item", "arrow"] ["house", "tests"] (defScope sChkTests) := ⟨rfl, rfl, rfl, by decide +kernel, rfl, by decide +kernel, by decide +kernel⟩
theorem ok_chkT {f g1 g2 : Addr} {fd gd1 gd2 : FuncData} (F : Fun K "check_tests" "check_tests" sChkTests f fd) (T : TxtB mg) (TH : TxtH K C) (TE : TxtE K mg CB IB) (G1 : FnOk P w K mg base CX0 4 g1 gd1 ["house", "thing"] (spHs C testD)) (c1 : Cal K mg "is_test" g1 gd1 ["house", "thing"])
    (G2 : FnOk P w K mg base CX0 1 g2 gd2 ["items"] spAsc) (c2 : Cal K mg "is_ascending" g2 gd2 ["items"]) : FnOk P w K mg base (L2.CX P w) 5 f fd ["house", "tests"] (spChkT C CB) := by
  refine fnX F scChkT (fun vs H Q E h => ?_) (fun cdv A outer s H vs Q E hr h tk po => ?_)
  · obtain ⟨hv, v, d, kt, as, rfl, _⟩ := h
    rfl
  · obtain ⟨hv, v, d, kt, as, rfl, hh, hA, aA, lA, hd, sm, k, kE⟩ := h
    have hr1 : Room 1 _ := hr.mono (by decide)
    refine ⟨_, pss_cons (ps_if (pt_not (pt_val (pe_callB call_isD (by rfl) T.isi (by decide +kernel) (pa_cons (pv 1) (pa_cons (pe_bltn (v := .ty "tuple") (by rfl) T.tuple (by decide +kernel) rfl) pa_nil))))) (pss_one (ps_raise rfl tk (pmk_ex TE.ei TE.ty TE.m hr1 (by rfl) (pa_cons pe_str pa_nil)))) pss_nil)
      (pss_cons (ps_setDcT (i := 2) (own := [("arrow", 4)]) (g := gName 4) rfl rfl (by rfl) rfl (Nat.lt_of_le_of_lt (Nat.le_add_right _ 64) hr.units) scChkT.nd (pi_tup (pe_fld (pv 0) (by rfl))) (blkOk_by (N := ["house", "tests", "taken", "item", "arrow"]) (sc := defScope sChkTests) (by decide +kernel)) (fun _ _ _ _ _ => pg_name (i := 4) scChkT.nd rfl (.inl rfl))
        (fun _ _ _ _ _ => pe_slice (r := rSlT K) sl_tup (pv 4) po_none (po_some pe_int)) (fun _ _ _ _ _ => pe_bl))
      (pss_cons (ps_for po rfl (pi_tup (pv 1)) (pg_name (i := 3) scChkT.nd rfl (.inl rfl)) (pss_one (ps_if (PW.pt (pw_or (pt_not (pt_val (pe_call G1 hr (by rfl) c1.m c1.k c1.b .nil pass0 (pa_cons (pv 0) (pa_cons (pv 3) pa_nil))))) (pw_or1 (pt_cmp (pc_dnotin (hu_of hr) (pe_slice (r := rSlT K) sl_tup (pv 3) po_none (po_some pe_int)) (pv 2)))))) (pss_one (ps_raise rfl tk (pmk_ex TE.ei TE.ty TE.m hr1 (by rfl) (pa_cons (pv 3) pa_nil)))) pss_nil)))
      (pss_one (ps_if (pt_not (pt_val (pe_call G2 hr1 (by rfl) c2.m c2.k c2.b .nil pass0 (pa_cons (pv 1) pa_nil)))) (pss_one (ps_raise rfl tk (pmk_ex TE.ei TE.ty TE.m hr1 (by rfl) (pa_cons pe_str pa_nil)))) pss_nil)))), ?_⟩
    have no : isTupD d = false → ∀ dd, H dd = none → E (.ref CB) (some dd) (upd H dd (.xd [("part", .str "tests")])) := fun z dd nd => by
      refine kE (.str "tests") ?_ _ dd _ (same_new nd) (.str _) upd_same
      unfold chkT
      rw [z]
      rfl
    refine ⟨_, rfl, v, d, "tuple", rfl, by decide, hd, _, rfl, ?_⟩
    cases hd with
    | @tup b xs ds e hda =>
      have kD : chkT kt as (.tuple ds) = (ds.find? fun x => !testT kt as x).or (badOf (ascD ds) "tests") := rfl
      refine iteNo rfl ?_
      obtain ⟨a, dx, fs, q, zs, rfl, ha, h1, h2, h3⟩ := hA.ex
      refine ⟨_, rfl, a, C, dx, fs, _, rfl, ha, TH.c, TH.arrows, h1, q, rfl, ⟨_, SqT.of h2⟩, fun D nD => ?_⟩
      refine tup_turns (K := K) (a := q) (xs := zs) (fun i H1 => MadeT H D ((as.take i).map keyD) H1) ⟨same_new nD, [], upd_same, Nat.zero_le _, fun _ => rfl⟩ (fun i H1 _ M => SqT.of (M.1 _ _ h2)) ?_ ?_
      · rintro i x H1 hx M
        obtain ⟨d', hd', hq⟩ := DqAll.at h3 hx
        obtain ⟨i1, x1, t1, f1, m1, rfl, _⟩ := arrow_of hh.dd (List.all_eq_true.mp aA d' (List.mem_of_getElem? hd'))
        have hi : i < as.length := (List.getElem?_eq_some_iff.mp hd').1
        cases hq with
        | @tup c ys _ e' hza =>
          have hl : ys.length = 5 := hza.len
          refine ⟨rfl, _, rfl, _, rfl, c, ys, rfl, SqT.of (M.1 _ _ e'), not_whole ys (by omega), fun p np => ?_⟩
          rw [cut_two ys (by omega)]
          have e2 : ys.take 2 = ([Sum.inl i1, Sum.inr x1] : List Key).map kV := by
            cases hza with
            | cons q1 r1 =>
              cases q1
              cases r1 with
              | cons q2 r2 =>
                cases q2
                rfl
          rw [e2, take_map hd']
          exact M.turn nD np (by rw [List.length_map, List.length_take]; omega)
      · rintro H1 M
        rw [h3.len, List.take_length] at M
        obtain ⟨S1, kvs, hD, _, hk⟩ := M
        refine ⟨_, rfl, b, rfl, ⟨_, SqT.of (S1 _ _ e)⟩, for_tup (K := K) (a := b) (xs := xs) (fun i σ H2 => Same H1 H2 ∧ (ds.take i).all (testT kt as) = true ∧ ∃ o, σ = [some (.ref a), some (.ref b), some (.ref D), o, none]) ⟨Same.refl _, rfl, none, rfl⟩ (fun i σ H2 _ P => SqT.of (P.1 _ _ (S1 _ _ e))) ?_ ?_⟩
        · rintro i x σ H2 hx ⟨S2, a1, o, rfl⟩
          obtain ⟨d', hd', hq⟩ := DqAll.at hda hx
          have S12 := S1.trans S2
          have bad : ∀ {H3 : Hp}, Same H2 H3 → testT kt as d' = false → ∃ v', [x] = [v'] ∧ ∀ dd, H3 dd = none → E (.ref CB) (some dd) (upd H3 dd (.xd [("part", v')])) := fun {H3} S3 hz => ⟨x, rfl, fun dd nd => by
            refine kE d' ?_ _ dd x (S12.trans (S3.trans (same_new nd))) (Dq.same (S12.trans (S3.trans (same_new nd))) _ _ hq) upd_same
            rw [kD, find_at a1 hd' hz]
            rfl⟩
          refine ⟨_, rfl, x, rfl, .ref a, x, d', kt, rfl, hh.same S12, Dq.same S12 _ _ hq, sm_at (sm_all sm) hd', fun H3 S3 => ⟨_, rfl, ?_⟩⟩
          by_cases ht : testD kt d' = true
          · refine iteNo (by rw [ht]; rfl) ?_
            obtain ⟨i1, x1, f1, l1, m1, rfl, _⟩ := test_of hh.dd ht
            have hq' := hq
            cases hq' with
            | @tup c ys _ e' hza =>
              have hl : ys.length = 5 := hza.len
              refine ⟨_, rfl, _, rfl, c, ys, rfl, SqT.of ((S12.trans S3) _ _ e'), not_whole ys (by omega), fun p np => ?_⟩
              rw [cut_two ys (by omega)]
              have e2 : ys.take 2 = ([Sum.inl i1, Sum.inr x1] : List Key).map kV := by
                cases hza with
                | cons q1 r1 =>
                  cases q1
                  cases r1 with
                  | cons q2 r2 =>
                    cases q2
                    rfl
              rw [e2]
              have S4 := same_new (o := .tup (([Sum.inl i1, Sum.inr x1] : List Key).map kV)) np
              refine ⟨_, rfl, D, _, rfl, DGet.t ((S2.trans (S3.trans S4)) _ _ hD) upd_same, _, rfl, ?_⟩
              rw [hk]
              have hTT : testT kt as (.tuple [.int i1, .str x1, .tuple f1, .int l1, .int m1]) = hasK (as.map keyD) [Sum.inl i1, Sum.inr x1] := by
                unfold testT
                rw [ht]
                rfl
              by_cases hm : hasK (as.map keyD) [Sum.inl i1, Sum.inr x1] = true
              · refine iteNo (by rw [hm]; rfl) ?_
                exact ⟨S2.trans (S3.trans S4), take_all a1 hd' (by rw [hTT, hm]), _, rfl⟩
              · have hm : hasK (as.map keyD) [Sum.inl i1, Sum.inr x1] = false := by simpa using hm
                refine iteYes (by rw [hm]; rfl) ?_
                exact ⟨_, rfl, bad (S3.trans S4) (by rw [hTT, hm])⟩
          · have ht : testD kt d' = false := by simpa using ht
            refine iteYes (by rw [ht]; rfl) (iteYes rfl ?_)
            exact ⟨_, rfl, bad S3 (by unfold testT; rw [ht]; rfl)⟩
        · rintro σ H2 ⟨S2, a1, o, rfl⟩
          rw [hda.len, List.take_length] at a1
          have kF : (ds.find? fun x => !testT kt as x) = none := find_none a1
          have aT : ds.all (testD kt) = true := by
            rw [List.all_eq_true] at a1 ⊢
            exact fun d' hd' => (Bool.and_eq_true_iff.mp (a1 d' hd')).1
          have S12 := S1.trans S2
          obtain ⟨z1, z2⟩ := lay_tests hh.dd aT
          refine ⟨_, rfl, b, xs, ds, rfl, .inr (S12 _ _ e), DqAll.same S12 _ _ hda, sm_len sm, z1, Nat.le_trans z2 (by decide), cmp_tests hh.dd aT, fun H3 S3 => ⟨_, rfl, ?_⟩⟩
          by_cases hA : ascD ds = true
          · refine iteNo (by rw [hA]; rfl) ?_
            refine k ?_ H3 (S12.trans S3)
            rw [kD, kF, hA]
            rfl
          · have hA : ascD ds = false := by simpa using hA
            refine iteYes (by rw [hA]; rfl) ?_
            refine ⟨_, rfl, fun dd nd => ?_⟩
            refine kE (.str "tests") ?_ _ dd _ (S12.trans (S3.trans (same_new nd))) (.str _) upd_same
            rw [kD, kF, hA]
            rfl
    | non => exact iteYes rfl ⟨_, rfl, no rfl⟩
    | bl _ => exact iteYes rfl ⟨_, rfl, no rfl⟩
    | int _ => exact iteYes rfl ⟨_, rfl, no rfl⟩
    | str _ => exact iteYes rfl ⟨_, rfl, no rfl⟩
    | lst _ _ => exact iteYes rfl ⟨_, rfl, no rfl⟩
    | dct0 _ => exact iteYes rfl ⟨_, rfl, no rfl⟩
    | dct1 _ => exact iteYes rfl ⟨_, rfl, no rfl⟩
end
end KL
set_option Elab.async false
set_option linter.all false
set_option maxRecDepth 100000
set_option maxHeartbeats 4000000
namespace KL
open PySem L2 PySem.KX PySem.Spec PyProof.Rows
abbrev sInit : Stmt := inClass (top 70) 0
def numD : PyData → Int
  | .int i => i
  | _ => 0
def kitOf (p d st pl lo : PyData) : Kit := ⟨numD p, numD pl, numD lo, itemsD d, (itemsD st).length⟩
def dueD (p d st pl en lo ar te lk : PyData) : Option PyData :=
  (badOf (betD 1 3 p) "people").or ((badOf (deedsD (numD p) d) "deeds").or ((badOf (startD st) "start").or ((badOf (betD 1 3 pl) "places").or ((badOf (endsD (numD pl) en) "ends").or ((badOf (betD 0 2 lo) "logs").or
    ((chkA (kitOf p d st pl lo) ar).or ((chkT (kitOf p d st pl lo) (itemsD ar) te).or (badOf (looksD (kitOf p d st pl lo) lk) "looks"))))))))
/-- a whole house -/
def fsOf (v0 v1 v2 v3 v4 v5 v6 v7 v8 : V) (fs : List (Str × V)) : Prop :=
  fs.lookup ("people" : Str) = some v0 ∧ fs.lookup ("deeds" : Str) = some v1 ∧ fs.lookup ("start" : Str) = some v2 ∧ fs.lookup ("places" : Str) = some v3 ∧ fs.lookup ("ends" : Str) = some v4 ∧ fs.lookup ("logs" : Str) = some v5 ∧ fs.lookup ("arrows" : Str) = some v6 ∧ fs.lookup ("tests" : Str) = some v7 ∧ fs.lookup ("looks" : Str) = some v8
def spInit (C CB : Addr) : Sp := fun vs H Q E => ∃ (H0 : Hp) (x dx : Addr) (v0 v1 v2 v3 v4 v5 v6 v7 v8 : V) (d0 d1 d2 d3 d4 d5 d6 d7 d8 : PyData), vs = [.ref x, v0, v1, v2, v3, v4, v5, v6, v7, v8] ∧ Same H0 H ∧ H0 x = none ∧ H x = some (.ins C dx []) ∧
  Dq H0 v0 d0 ∧ Dq H0 v1 d1 ∧ Dq H0 v2 d2 ∧ Dq H0 v3 d3 ∧ Dq H0 v4 d4 ∧ Dq H0 v5 d5 ∧ Dq H0 v6 d6 ∧ Dq H0 v7 d7 ∧ Dq H0 v8 d8 ∧
  (smB d0 && smB d1 && smB d2 && smB d3 && smB d4 && smB d5 && smB d6 && smB d7 && smB d8) = true ∧
  (dueD d0 d1 d2 d3 d4 d5 d6 d7 d8 = none → ∀ H' fs, Same H0 H' → H' x = some (.ins C dx fs) → fsOf v0 v1 v2 v3 v4 v5 v6 v7 v8 fs → Q .non H') ∧
  ∀ it, dueD d0 d1 d2 d3 d4 d5 d6 d7 d8 = some it → ∀ H' dd v', Same H0 H' → Dq H' v' it → H' dd = some (.xd [("part", v')]) → E (.ref CB) (some dd) H'
theorem bool_ft (b : Bool) : b = false ∨ b = true := by cases b <;> simp
theorem same_put {H0 H : Hp} {x : Addr} {o : HO} (S : Same H0 H) (n : H0 x = none) : Same H0 (upd H x o) := fun b u e => by
  rw [upd_ne (ne_of_none e n)]
  exact S _ _ e
section
variable {P : Program} {w : World} {K : PySem.W.Frag} {mg : Str → Option Value} {base : Heap} {C CB IB : Addr}
theorem scInit : FnScope ["self", "people", "deeds", "start", "places", "ends", "logs", "arrows", "tests", "looks"] ["self", "people", "deeds", "start", "places", "ends", "logs", "arrows", "tests", "looks"] (defScope sInit) := ⟨rfl, rfl, rfl, by decide +kernel, rfl, by decide +kernel, by decide +kernel⟩
theorem start_of {d : PyData} (h : startD d = true) : ∃ ds, d = .tuple ds ∧ 1 ≤ ds.length ∧ ds.length ≤ 3 := by
  obtain ⟨ds, rfl, l1, l2⟩ := tup_of (Bool.and_eq_true_iff.mp h).1
  exact ⟨ds, rfl, by omega, by omega⟩
theorem deeds_of {n : Int} {d : PyData} (h : deedsD n d = true) : ∃ ds, d = .tuple ds := by
  obtain ⟨ds, rfl, _⟩ := tup_of (Bool.and_eq_true_iff.mp h).1
  exact ⟨ds, rfl⟩
theorem chkA_none {k : Kit} {d : PyData} (h : chkA k d = none) : ∃ ds, d = .tuple ds ∧ ds.all (arrowD k) = true := by
  unfold chkA at h
  by_cases t : isTupD d = true
  · obtain ⟨ds, rfl⟩ := isT_of t
    rw [if_pos t] at h
    refine ⟨ds, rfl, ?_⟩
    have q : (ds.find? fun x => !arrowD k x) = none := (Option.or_eq_none_iff.mp h).1
    rw [List.find?_eq_none] at q
    rw [List.all_eq_true]
    intro x hx
    have := q x hx
    simpa using this
  · rw [if_neg t] at h
    cases h
/-- one of the parts is a wrong one: what is raised -/
theorem ok_init {f : Addr} {fd : FuncData} (F : Fun K "__init__" "House.__init__" sInit f fd) (TH : TxtH K C) (TE : TxtE K mg CB IB)
    {g1 g2 g3 g4 g5 g6 g7 g8 g9 : Addr} {gd1 gd2 gd3 gd4 gd5 gd6 gd7 gd8 gd9 : FuncData}
    (G1 : FnOk P w K mg base CX0 3 g1 gd1 ["thing"] (spTest (betD 1 3))) (c1 : Cal K mg "is_people" g1 gd1 ["thing"])
    (G2 : FnOk P w K mg base CX0 4 g2 gd2 ["thing", "people"] (spTest1 deedsD)) (c2 : Cal K mg "are_deeds" g2 gd2 ["thing", "people"])
    (G3 : FnOk P w K mg base CX0 2 g3 gd3 ["thing"] (spTest startD)) (c3 : Cal K mg "is_start" g3 gd3 ["thing"])
    (G4 : FnOk P w K mg base CX0 3 g4 gd4 ["thing"] (spTest (betD 1 3))) (c4 : Cal K mg "is_places" g4 gd4 ["thing"])
    (G5 : FnOk P w K mg base CX0 3 g5 gd5 ["thing", "places"] (spTest1 endsD)) (c5 : Cal K mg "are_ends" g5 gd5 ["thing", "places"])
    (G6 : FnOk P w K mg base CX0 3 g6 gd6 ["thing"] (spTest (betD 0 2))) (c6 : Cal K mg "is_logs" g6 gd6 ["thing"])
    (G7 : FnOk P w K mg base (L2.CX P w) 5 g7 gd7 ["house", "arrows"] (spChk C CB chkA)) (c7 : Cal K mg "check_arrows" g7 gd7 ["house", "arrows"])
    (G8 : FnOk P w K mg base (L2.CX P w) 5 g8 gd8 ["house", "tests"] (spChkT C CB)) (c8 : Cal K mg "check_tests" g8 gd8 ["house", "tests"])
    (G9 : FnOk P w K mg base CX0 4 g9 gd9 ["house", "thing"] (spHs C looksD)) (c9 : Cal K mg "are_looks" g9 gd9 ["house", "thing"]) :
    FnOk P w K mg base (L2.CX P w) 6 f fd ["self", "people", "deeds", "start", "places", "ends", "logs", "arrows", "tests", "looks"] (spInit C CB) := by
  refine fnX F scInit (fun vs H Q E h => ?_) (fun cdv A outer s H vs Q E hr h tk po => ?_)
  · obtain ⟨H0, x, dx, v0, v1, v2, v3, v4, v5, v6, v7, v8, d0, d1, d2, d3, d4, d5, d6, d7, d8, rfl, _⟩ := h
    rfl
  · obtain ⟨H0, x, dx, v0, v1, v2, v3, v4, v5, v6, v7, v8, d0, d1, d2, d3, d4, d5, d6, d7, d8, rfl, S0, nx, hx, q0, q1, q2, q3, q4, q5, q6, q7, q8, sm, k, kE⟩ := h
    simp only [Bool.and_eq_true] at sm
    obtain ⟨⟨⟨⟨⟨⟨⟨⟨m0, m1⟩, m2⟩, m3⟩, m4⟩, m5⟩, m6⟩, m7⟩, m8⟩ := sm
    have hr1 : Room 1 _ := hr.mono (by decide)
    have hr2 : Room 2 _ := hr.mono (by decide)
    have hr3 : Room 3 _ := hr.mono (by decide)
    have hr4 : Room 4 _ := hr.mono (by decide)
    have ps := passes_call tk (E := E) fun _ _ _ _ z => z
    refine ⟨_, pss_cons (ps_if (pt_not (pt_val (pe_call G1 hr3 (by rfl) c1.m c1.k c1.b .nil pass0 (pa_cons (pv 1) pa_nil)))) (pss_one (ps_raise rfl tk (pmk_ex TE.ei TE.ty TE.m hr1 (by rfl) (pa_cons pe_str pa_nil)))) pss_nil)
      (pss_cons (ps_if (pt_not (pt_val (pe_call G2 hr4 (by rfl) c2.m c2.k c2.b .nil pass0 (pa_cons (pv 2) (pa_cons (pv 1) pa_nil))))) (pss_one (ps_raise rfl tk (pmk_ex TE.ei TE.ty TE.m hr1 (by rfl) (pa_cons pe_str pa_nil)))) pss_nil)
      (pss_cons (ps_if (pt_not (pt_val (pe_call G3 hr2 (by rfl) c3.m c3.k c3.b .nil pass0 (pa_cons (pv 3) pa_nil)))) (pss_one (ps_raise rfl tk (pmk_ex TE.ei TE.ty TE.m hr1 (by rfl) (pa_cons pe_str pa_nil)))) pss_nil)
      (pss_cons (ps_if (pt_not (pt_val (pe_call G4 hr3 (by rfl) c4.m c4.k c4.b .nil pass0 (pa_cons (pv 4) pa_nil)))) (pss_one (ps_raise rfl tk (pmk_ex TE.ei TE.ty TE.m hr1 (by rfl) (pa_cons pe_str pa_nil)))) pss_nil)
      (pss_cons (ps_if (pt_not (pt_val (pe_call G5 hr3 (by rfl) c5.m c5.k c5.b .nil pass0 (pa_cons (pv 5) (pa_cons (pv 4) pa_nil))))) (pss_one (ps_raise rfl tk (pmk_ex TE.ei TE.ty TE.m hr1 (by rfl) (pa_cons pe_str pa_nil)))) pss_nil)
      (pss_cons (ps_if (pt_not (pt_val (pe_call G6 hr3 (by rfl) c6.m c6.k c6.b .nil pass0 (pa_cons (pv 6) pa_nil)))) (pss_one (ps_raise rfl tk (pmk_ex TE.ei TE.ty TE.m hr1 (by rfl) (pa_cons pe_str pa_nil)))) pss_nil)
      (pss_cons (ps_fld (pv 0) (pv 1) (by rfl)) (pss_cons (ps_fld (pv 0) (pv 2) (by rfl)) (pss_cons (ps_fld (pv 0) (pv 3) (by rfl)) (pss_cons (ps_fld (pv 0) (pv 4) (by rfl)) (pss_cons (ps_fld (pv 0) (pv 5) (by rfl)) (pss_cons (ps_fld (pv 0) (pv 6) (by rfl))
      (pss_cons (ps_expr (pe_call G7 hr (by rfl) c7.m c7.k c7.b .nil ps (pa_cons (pv 0) (pa_cons (pv 7) pa_nil)))) (pss_cons (ps_fld (pv 0) (pv 7) (by rfl))
      (pss_cons (ps_expr (pe_call G8 hr (by rfl) c8.m c8.k c8.b .nil ps (pa_cons (pv 0) (pa_cons (pv 8) pa_nil)))) (pss_cons (ps_fld (pv 0) (pv 8) (by rfl))
      (pss_cons (ps_if (pt_not (pt_val (pe_call G9 hr4 (by rfl) c9.m c9.k c9.b .nil pass0 (pa_cons (pv 0) (pa_cons (pv 9) pa_nil))))) (pss_one (ps_raise rfl tk (pmk_ex TE.ei TE.ty TE.m hr1 (by rfl) (pa_cons pe_str pa_nil)))) pss_nil)
      (pss_one (ps_fld (pv 0) (pv 9) (by rfl))))))))))))))))))), ?_⟩
    have bad : ∀ {H1 : Hp} (wd : Str), Same H0 H1 → dueD d0 d1 d2 d3 d4 d5 d6 d7 d8 = some (.str wd) → ∃ v, [V.str wd] = [v] ∧ ∀ dd, H1 dd = none → E (.ref CB) (some dd) (upd H1 dd (.xd [("part", v)])) := fun {H1} wd S1 hz => ⟨_, rfl, fun dd nd => kE _ hz _ dd _ (S1.trans (same_new nd)) (.str _) upd_same⟩
    refine ⟨_, rfl, v0, d0, rfl, Dq.same S0 _ _ q0, m0, fun H1 S1 => ⟨_, rfl, ?_⟩⟩
    have T1 := S0.trans S1
    rcases bool_ft (betD 1 3 d0) with b0 | b0
    · refine iteYes (by rw [b0]; rfl) (bad "people" T1 ?_)
      simp only [dueD, badOf, b0, if_true, Bool.false_eq_true, if_false, Option.none_or, Option.some_or]
    refine iteNo (by rw [b0]; rfl) ?_
    obtain ⟨n0, e0, l0, u0⟩ := bet_of b0
    have w0 : v0 = .int n0 := by
      rw [e0] at q0
      cases q0
      rfl
    have x0 : numD d0 = n0 := by rw [e0]; rfl
    refine ⟨_, rfl, _, rfl, v1, d1, n0, by rw [w0]; rfl, Dq.same T1 _ _ q1, m1, fun H2 S2 => ⟨_, rfl, ?_⟩⟩
    rw [← x0]
    have T2 := T1.trans S2
    rcases bool_ft (deedsD (numD d0) d1) with b1 | b1
    · refine iteYes (by rw [b1]; rfl) (bad "deeds" T2 ?_)
      simp only [dueD, badOf, b0, b1, if_true, Bool.false_eq_true, if_false, Option.none_or, Option.some_or]
    refine iteNo (by rw [b1]; rfl) ?_
    refine ⟨_, rfl, v2, d2, rfl, Dq.same T2 _ _ q2, m2, fun H3 S3 => ⟨_, rfl, ?_⟩⟩
    have T3 := T2.trans S3
    rcases bool_ft (startD d2) with b2 | b2
    · refine iteYes (by rw [b2]; rfl) (bad "start" T3 ?_)
      simp only [dueD, badOf, b0, b1, b2, if_true, Bool.false_eq_true, if_false, Option.none_or, Option.some_or]
    refine iteNo (by rw [b2]; rfl) ?_
    refine ⟨_, rfl, v3, d3, rfl, Dq.same T3 _ _ q3, m3, fun H4 S4 => ⟨_, rfl, ?_⟩⟩
    have T4 := T3.trans S4
    rcases bool_ft (betD 1 3 d3) with b3 | b3
    · refine iteYes (by rw [b3]; rfl) (bad "places" T4 ?_)
      simp only [dueD, badOf, b0, b1, b2, b3, if_true, Bool.false_eq_true, if_false, Option.none_or, Option.some_or]
    refine iteNo (by rw [b3]; rfl) ?_
    obtain ⟨n3, e3, l3, u3⟩ := bet_of b3
    have w3 : v3 = .int n3 := by
      rw [e3] at q3
      cases q3
      rfl
    have x3 : numD d3 = n3 := by rw [e3]; rfl
    refine ⟨_, rfl, _, rfl, v4, d4, n3, by rw [w3]; rfl, Dq.same T4 _ _ q4, m4, fun H5 S5 => ⟨_, rfl, ?_⟩⟩
    rw [← x3]
    have T5 := T4.trans S5
    rcases bool_ft (endsD (numD d3) d4) with b4 | b4
    · refine iteYes (by rw [b4]; rfl) (bad "ends" T5 ?_)
      simp only [dueD, badOf, b0, b1, b2, b3, b4, if_true, Bool.false_eq_true, if_false, Option.none_or, Option.some_or]
    refine iteNo (by rw [b4]; rfl) ?_
    refine ⟨_, rfl, v5, d5, rfl, Dq.same T5 _ _ q5, m5, fun H6 S6 => ⟨_, rfl, ?_⟩⟩
    have T6 := T5.trans S6
    rcases bool_ft (betD 0 2 d5) with b5 | b5
    · refine iteYes (by rw [b5]; rfl) (bad "logs" T6 ?_)
      simp only [dueD, badOf, b0, b1, b2, b3, b4, b5, if_true, Bool.false_eq_true, if_false, Option.none_or, Option.some_or]
    refine iteNo (by rw [b5]; rfl) ?_
    obtain ⟨n5, e5, l5, u5⟩ := bet_of b5
    have w5 : v5 = .int n5 := by
      rw [e5] at q5
      cases q5
      rfl
    obtain ⟨ds1, e1⟩ := deeds_of b1
    obtain ⟨ds2, e2, la2, lb2⟩ := start_of b2
    have hx6 : H6 x = some (.ins C dx []) := S6 _ _ (S5 _ _ (S4 _ _ (S3 _ _ (S2 _ _ (S1 _ _ hx)))))
    refine ⟨_, rfl, _, rfl, x, C, dx, _, rfl, hx6, TH.c, TH.people, (by show 0 < 1000; decide), ?_⟩
    have f7 : (upd H6 x (.ins C dx (putF "people" v0 []))) x = some (.ins C dx (putF "people" v0 [])) := upd_same
    have T7 : Same H0 (upd H6 x (.ins C dx (putF "people" v0 []))) := same_put T6 nx
    revert f7 T7
    generalize upd H6 x (.ins C dx (putF "people" v0 [])) = H7
    intro f7 T7
    refine ⟨_, rfl, _, rfl, x, C, dx, _, rfl, f7, TH.c, TH.deeds, (by show 1 < 1000; decide), ?_⟩
    have f8 : (upd H7 x (.ins C dx (putF "deeds" v1 (putF "people" v0 [])))) x = some (.ins C dx (putF "deeds" v1 (putF "people" v0 []))) := upd_same
    have T8 : Same H0 (upd H7 x (.ins C dx (putF "deeds" v1 (putF "people" v0 [])))) := same_put T7 nx
    revert f8 T8
    generalize upd H7 x (.ins C dx (putF "deeds" v1 (putF "people" v0 []))) = H8
    intro f8 T8
    refine ⟨_, rfl, _, rfl, x, C, dx, _, rfl, f8, TH.c, TH.start, (by show 2 < 1000; decide), ?_⟩
    have f9 : (upd H8 x (.ins C dx (putF "start" v2 (putF "deeds" v1 (putF "people" v0 []))))) x = some (.ins C dx (putF "start" v2 (putF "deeds" v1 (putF "people" v0 [])))) := upd_same
    have T9 : Same H0 (upd H8 x (.ins C dx (putF "start" v2 (putF "deeds" v1 (putF "people" v0 []))))) := same_put T8 nx
    revert f9 T9
    generalize upd H8 x (.ins C dx (putF "start" v2 (putF "deeds" v1 (putF "people" v0 [])))) = H9
    intro f9 T9
    refine ⟨_, rfl, _, rfl, x, C, dx, _, rfl, f9, TH.c, TH.places, (by show 3 < 1000; decide), ?_⟩
    have f10 : (upd H9 x (.ins C dx (putF "places" v3 (putF "start" v2 (putF "deeds" v1 (putF "people" v0 [])))))) x = some (.ins C dx (putF "places" v3 (putF "start" v2 (putF "deeds" v1 (putF "people" v0 []))))) := upd_same
    have T10 : Same H0 (upd H9 x (.ins C dx (putF "places" v3 (putF "start" v2 (putF "deeds" v1 (putF "people" v0 [])))))) := same_put T9 nx
    revert f10 T10
    generalize upd H9 x (.ins C dx (putF "places" v3 (putF "start" v2 (putF "deeds" v1 (putF "people" v0 []))))) = H10
    intro f10 T10
    refine ⟨_, rfl, _, rfl, x, C, dx, _, rfl, f10, TH.c, TH.ends, (by show 4 < 1000; decide), ?_⟩
    have f11 : (upd H10 x (.ins C dx (putF "ends" v4 (putF "places" v3 (putF "start" v2 (putF "deeds" v1 (putF "people" v0 []))))))) x = some (.ins C dx (putF "ends" v4 (putF "places" v3 (putF "start" v2 (putF "deeds" v1 (putF "people" v0 [])))))) := upd_same
    have T11 : Same H0 (upd H10 x (.ins C dx (putF "ends" v4 (putF "places" v3 (putF "start" v2 (putF "deeds" v1 (putF "people" v0 []))))))) := same_put T10 nx
    revert f11 T11
    generalize upd H10 x (.ins C dx (putF "ends" v4 (putF "places" v3 (putF "start" v2 (putF "deeds" v1 (putF "people" v0 [])))))) = H11
    intro f11 T11
    refine ⟨_, rfl, _, rfl, x, C, dx, _, rfl, f11, TH.c, TH.logs, (by show 5 < 1000; decide), ?_⟩
    have f12 : (upd H11 x (.ins C dx (putF "logs" v5 (putF "ends" v4 (putF "places" v3 (putF "start" v2 (putF "deeds" v1 (putF "people" v0 [])))))))) x = some (.ins C dx (putF "logs" v5 (putF "ends" v4 (putF "places" v3 (putF "start" v2 (putF "deeds" v1 (putF "people" v0 []))))))) := upd_same
    have T12 : Same H0 (upd H11 x (.ins C dx (putF "logs" v5 (putF "ends" v4 (putF "places" v3 (putF "start" v2 (putF "deeds" v1 (putF "people" v0 [])))))))) := same_put T11 nx
    revert f12 T12
    generalize upd H11 x (.ins C dx (putF "logs" v5 (putF "ends" v4 (putF "places" v3 (putF "start" v2 (putF "deeds" v1 (putF "people" v0 []))))))) = H12
    intro f12 T12
    have hK : ∀ (G : Hp) (fs : List (Str × V)), Same H0 G → G x = some (.ins C dx fs) → fs.lookup ("people" : Str) = some v0 → fs.lookup ("deeds" : Str) = some v1 → fs.lookup ("start" : Str) = some v2 → fs.lookup ("places" : Str) = some v3 → fs.lookup ("logs" : Str) = some v5 → Hs G (.ref x) C (kitOf d0 d1 d2 d3 d5) := fun G fs SG fx z0 z1 z2 z3 z5 => by
      have y1 := Dq.same SG _ _ q1
      have y2 := Dq.same SG _ _ q2
      subst e0 e1 e2 e3 e5 w0 w3 w5
      cases y1 with
      | @tup a1 xs1 _ g1 h1 =>
        cases y2 with
        | @tup a2 xs2 _ g2 h2 => exact ⟨⟨x, dx, fs, rfl, fx, z0, z3, z5, ⟨a1, xs1, z1, g1, h1⟩, a2, xs2, z2, g2, h2.len⟩, b1, la2, lb2⟩
    have k12 := hK H12 _ T12 f12 rfl rfl rfl rfl rfl
    have due6 : dueD d0 d1 d2 d3 d4 d5 d6 d7 d8 = (chkA (kitOf d0 d1 d2 d3 d5) d6).or ((chkT (kitOf d0 d1 d2 d3 d5) (itemsD d6) d7).or (badOf (looksD (kitOf d0 d1 d2 d3 d5) d8) "looks")) := by
      simp only [dueD, badOf, b0, b1, b2, b3, b4, b5, if_true, Option.none_or]
    refine ⟨_, rfl, _, rfl, .ref x, v6, d6, kitOf d0 d1 d2 d3 d5, rfl, k12, Dq.same T12 _ _ q6, m6, fun hA H13 S13 => ?_, fun it hA H' dd v' S' hv hd => kE it (by rw [due6, hA]; rfl) H' dd v' (T12.trans S') hv hd⟩
    have T13 := T12.trans S13
    obtain ⟨as, eA, aA⟩ := chkA_none hA
    refine ⟨_, rfl, _, rfl, x, C, dx, _, rfl, S13 _ _ f12, TH.c, TH.arrows, (by show 6 < 1000; decide), ?_⟩
    have f14 : (upd H13 x (.ins C dx (putF "arrows" v6 (putF "logs" v5 (putF "ends" v4 (putF "places" v3 (putF "start" v2 (putF "deeds" v1 (putF "people" v0 []))))))))) x = some (.ins C dx (putF "arrows" v6 (putF "logs" v5 (putF "ends" v4 (putF "places" v3 (putF "start" v2 (putF "deeds" v1 (putF "people" v0 [])))))))) := upd_same
    have T14 : Same H0 (upd H13 x (.ins C dx (putF "arrows" v6 (putF "logs" v5 (putF "ends" v4 (putF "places" v3 (putF "start" v2 (putF "deeds" v1 (putF "people" v0 []))))))))) := same_put T13 nx
    revert f14 T14
    generalize upd H13 x (.ins C dx (putF "arrows" v6 (putF "logs" v5 (putF "ends" v4 (putF "places" v3 (putF "start" v2 (putF "deeds" v1 (putF "people" v0 [])))))))) = H14
    intro f14 T14
    have hAs : HsA H14 (.ref x) C as := by
      have y6 := Dq.same T14 _ _ q6
      rw [eA] at y6
      cases y6 with
      | @tup a6 xs6 _ g6 h6 => exact ⟨x, dx, _, a6, xs6, rfl, f14, rfl, g6, h6⟩
    have lA : as.length ≤ 1000 := by
      rw [eA] at m6
      exact sm_len m6
    have iA : itemsD d6 = as := by rw [eA]; rfl
    have due7 : dueD d0 d1 d2 d3 d4 d5 d6 d7 d8 = (chkT (kitOf d0 d1 d2 d3 d5) as d7).or (badOf (looksD (kitOf d0 d1 d2 d3 d5) d8) "looks") := by rw [due6, hA, iA, Option.none_or]
    refine ⟨_, rfl, _, rfl, .ref x, v7, d7, kitOf d0 d1 d2 d3 d5, as, rfl, hK H14 _ T14 f14 rfl rfl rfl rfl rfl, hAs, aA, lA, Dq.same T14 _ _ q7, m7, fun hT H15 S15 => ?_, fun it hT H' dd v' S' hv hd => kE it (by rw [due7, hT]; rfl) H' dd v' (T14.trans S') hv hd⟩
    have T15 := T14.trans S15
    refine ⟨_, rfl, _, rfl, x, C, dx, _, rfl, S15 _ _ f14, TH.c, TH.tests, (by show 7 < 1000; decide), ?_⟩
    have f16 : (upd H15 x (.ins C dx (putF "tests" v7 (putF "arrows" v6 (putF "logs" v5 (putF "ends" v4 (putF "places" v3 (putF "start" v2 (putF "deeds" v1 (putF "people" v0 [])))))))))) x = some (.ins C dx (putF "tests" v7 (putF "arrows" v6 (putF "logs" v5 (putF "ends" v4 (putF "places" v3 (putF "start" v2 (putF "deeds" v1 (putF "people" v0 []))))))))) := upd_same
    have T16 : Same H0 (upd H15 x (.ins C dx (putF "tests" v7 (putF "arrows" v6 (putF "logs" v5 (putF "ends" v4 (putF "places" v3 (putF "start" v2 (putF "deeds" v1 (putF "people" v0 [])))))))))) := same_put T15 nx
    revert f16 T16
    generalize upd H15 x (.ins C dx (putF "tests" v7 (putF "arrows" v6 (putF "logs" v5 (putF "ends" v4 (putF "places" v3 (putF "start" v2 (putF "deeds" v1 (putF "people" v0 []))))))))) = H16
    intro f16 T16
    have due8 : dueD d0 d1 d2 d3 d4 d5 d6 d7 d8 = badOf (looksD (kitOf d0 d1 d2 d3 d5) d8) "looks" := by rw [due7, hT, Option.none_or]
    refine ⟨_, rfl, _, rfl, .ref x, v8, d8, kitOf d0 d1 d2 d3 d5, rfl, hK H16 _ T16 f16 rfl rfl rfl rfl rfl, Dq.same T16 _ _ q8, m8, fun H17 S17 => ⟨_, rfl, ?_⟩⟩
    have T17 := T16.trans S17
    rcases bool_ft (looksD (kitOf d0 d1 d2 d3 d5) d8) with b8 | b8
    · refine iteYes (by rw [b8]; rfl) (bad "looks" T17 ?_)
      rw [due8, b8]
      rfl
    refine iteNo (by rw [b8]; rfl) ?_
    refine ⟨_, rfl, _, rfl, x, C, dx, _, rfl, S17 _ _ f16, TH.c, TH.looks, (by show 8 < 1000; decide), ?_⟩
    refine k (by rw [due8, b8]; rfl) _ _ (same_put T17 nx) upd_same ⟨rfl, rfl, rfl, rfl, rfl, rfl, rfl, rfl, rfl⟩
end
end KL
set_option Elab.async false
set_option linter.all false
set_option maxRecDepth 100000
set_option maxHeartbeats 2000000
namespace KL
open PySem L2 PySem.KX PySem.Spec PyProof.Rows
abbrev lDeck : Stmt := top 72
abbrev lDraw : Stmt := top 73
abbrev lPick : Stmt := top 74
abbrev lForm : Stmt := top 75
abbrev lUnit : Stmt := top 76
abbrev lHouse : Stmt := top 77
abbrev lParts : Stmt := top 78
abbrev lWhole : Stmt := top 79
abbrev lLetter : Stmt := top 80
abbrev lRises : Stmt := top 81
abbrev lAreWhole : Stmt := top 82
abbrev lAreDeeds : Stmt := top 83
abbrev lIsForm : Stmt := top 84
abbrev lIsArrow : Stmt := top 85
abbrev lIsTest : Stmt := top 86
abbrev lFirst : Stmt := top 87
abbrev lLooks : Stmt := top 88
abbrev lDue : Stmt := top 89
abbrev lOdd : Stmt := top 90
abbrev lBent : Stmt := top 91
abbrev lMade : Stmt := top 92
abbrev lRight : Stmt := top 93
abbrev lLaw : Stmt := top 94
/-- a list beside the empty one -/
def rNil (neg : Bool) : R2 := fun x y H Q => ∃ a b xs, x = .ref a ∧ y = .ref b ∧ H a = some (.lst xs) ∧ H b = some (.lst []) ∧ Q (.bl (if neg = true then !xs.isEmpty else xs.isEmpty)) H
theorem same_size {xs : List V} {its : List Value} (r : Vals xs its) : (its.toArray.size != 0) = !xs.isEmpty := by
  cases r with
  | nil => rfl
  | cons _ _ => simp
section
variable {X : Cx}
theorem op_eqNil (hu : X.A.units + 64 < cLine) : OpR X (compareOp .Eq) (rNil false) := by
  intro pins s σ H x y v u Q I rx ry h
  obtain ⟨a, b, xs, rfl, rfl, ha, hb, q⟩ := h
  cases (show v = Value.ref a from rx)
  cases (show u = Value.ref b from ry)
  obtain ⟨_, its, n, rv, ho⟩ := I.hok _ _ ha
  obtain ⟨_, it2, n2, rv2, ho2⟩ := I.hok _ _ hb
  cases rv2
  have hz := same_size rv
  cases e : xs.isEmpty with
  | true =>
    rw [e] at hz q
    have z : its.toArray.size = 0 := by simpa using hz
    refine SeqAt.RcAt.lists (e := fun _ => true) ⟨_, ho, rfl, n, rfl⟩ ⟨_, ho2, rfl, n2, rfl⟩ z (by omega) (fun j j1 _ => absurd j1 (by rw [z]; exact Nat.not_lt_zero _)) _ _ _ _ ⟨.bl true, H, I, ?_, q⟩
    rw [z]
    rfl
  | false =>
    rw [e] at hz q
    exact SeqAt.RcAt.lists_lengths ⟨_, ho, rfl, n, rfl⟩ ⟨_, ho2, rfl, n2, rfl⟩ hz (by omega) _ _ _ _ ⟨.bl false, H, I, rfl, q⟩
theorem op_neNil (hu : X.A.units + 64 < cLine) : OpR X (compareOp .NotEq) (rNil true) := by
  intro pins s σ H x y v u Q I rx ry h
  obtain ⟨a, b, xs, rfl, rfl, ha, hb, q⟩ := h
  cases (show v = Value.ref a from rx)
  cases (show u = Value.ref b from ry)
  obtain ⟨_, its, n, rv, ho⟩ := I.hok _ _ ha
  obtain ⟨_, it2, n2, rv2, ho2⟩ := I.hok _ _ hb
  cases rv2
  have hz := same_size rv
  cases e : xs.isEmpty with
  | true =>
    rw [e] at hz q
    have z : its.toArray.size = 0 := by simpa using hz
    refine SeqAt.RcNeAt.lists (e := fun _ => true) ⟨_, ho, rfl, n, rfl⟩ ⟨_, ho2, rfl, n2, rfl⟩ z (by omega) (fun j j1 _ => absurd j1 (by rw [z]; exact Nat.not_lt_zero _)) _ _ _ _ ⟨.bl false, H, I, ?_, q⟩
    rw [z]
    rfl
  | false =>
    rw [e] at hz q
    exact SeqAt.RcNeAt.lists_lengths ⟨_, ho, rfl, n, rfl⟩ ⟨_, ho2, rfl, n2, rfl⟩ hz (by omega) _ _ _ _ ⟨.bl true, H, I, rfl, q⟩
end
/-- a list of those that are wrong: empty just if all so far are right -/
def Odds (H0 : Hp) (D : Addr) (ok : Bool) (n : Nat) (H : Hp) : Prop := Same H0 H ∧ ∃ ys, H D = some (.lst ys) ∧ ys.isEmpty = ok ∧ ys.length ≤ n
theorem Odds.start {H0 : Hp} {D : Addr} (nD : H0 D = none) : Odds H0 D true 0 (upd H0 D (.lst [])) := ⟨same_new nD, [], upd_same, rfl, Nat.le_refl _⟩
theorem Odds.skip {H0 H H' : Hp} {D : Addr} {ok : Bool} {n : Nat} (M : Odds H0 D ok n H) (S : Same H H') : Odds H0 D ok (n + 1) H' := by
  obtain ⟨S0, ys, h1, h2, h3⟩ := M
  exact ⟨S0.trans S, ys, S _ _ h1, h2, Nat.le_succ_of_le h3⟩
theorem Odds.put {H0 H H' : Hp} {D : Addr} {ok : Bool} {n : Nat} (M : Odds H0 D ok n H) (nD : H0 D = none) (S : Same H H') (y : V) (hn : n < 1000) : ∃ acc, H' D = some (.lst acc) ∧ acc.length < sizeLine ∧ Odds H0 D false (n + 1) (upd H' D (.lst (acc ++ [y]))) := by
  obtain ⟨S0, ys, h1, h2, h3⟩ := M
  refine ⟨ys, S _ _ h1, by rw [sizeLine_eq]; omega, fun b o e => ?_, _, upd_same, by simp, by simp; omega⟩
  have bD : b ≠ D := fun z => by
    rw [z, nD] at e
    cases e
  rw [upd_ne bD]
  exact S _ _ (S0 _ _ e)
/-! ### integers -/
def oV : Option Int → V
  | none => .non
  | some i => .int i
def lowOk : Option Int → Int → Bool
  | none, _ => true
  | some l, i => decide (l ≤ i)
def highOk : Option Int → Int → Bool
  | none, _ => true
  | some l, i => decide (i ≤ l)
def wholeD (lo hi : Option Int) : PyData → Bool
  | .int i => lowOk lo i && highOk hi i
  | _ => false
theorem whole_bet {lo hi : Int} (d : PyData) : wholeD (some lo) (some hi) d = betD lo hi d := by
  cases d <;> rfl
theorem whole_int (d : PyData) : wholeD none none d = intD d := by
  cases d <;> rfl
def spWhole : Sp := fun vs H Q _ => ∃ (v : V) (d : PyData) (lo hi : Option Int), vs = [v, oV lo, oV hi] ∧ Dq H v d ∧ Q (.bl (wholeD lo hi d)) H
structure TxtL (mg : Str → Option Value) : Prop where
  b : TxtB mg
  range : mg "range" = none
  list : mg "list" = none
  repr : mg "repr" = none
section
variable {P : Program} {w : World} {K : PySem.W.Frag} {mg : Str → Option Value} {base : Heap}
theorem scLWhole : FnScope ["_law_it", "_law_low", "_law_high"] ["_law_it", "_law_low", "_law_high"] (defScope lWhole) := ⟨rfl, rfl, rfl, by decide +kernel, rfl, by decide +kernel, by decide +kernel⟩
theorem ok_whole {f : Addr} {fd : FuncData} (F : Fun K "_law_is_whole" "_law_is_whole" lWhole f fd) (T : TxtB mg) : FnOk P w K mg base CX0 1 f fd ["_law_it", "_law_low", "_law_high"] spWhole := by
  refine F.ok scLWhole (fun vs H Q E h => ?_) (fun cdv A outer s H vs Q E hr h => ?_)
  · obtain ⟨v, d, lo, hi, rfl, _⟩ := h
    rfl
  · obtain ⟨v, d, lo, hi, rfl, hd, k⟩ := h
    refine ⟨_, pss_cons (ps_if (PW.pt (pw_or (pt_not (pt_val (pe_callB call_isD (by rfl) T.isi (by decide +kernel) (pa_cons (pv 0) (pa_cons (pe_bltn (v := .ty "int") (by rfl) T.int (by decide +kernel) rfl) pa_nil))))) (pw_or1 (pt_val (pe_callB call_isD (by rfl) T.isi (by decide +kernel) (pa_cons (pv 0) (pa_cons (pe_bltn (v := .ty "bool") (by rfl) T.bool (by decide +kernel) rfl) pa_nil))))))) (pss_one (ps_ret pe_bl)) pss_nil)
      (pss_one (ps_ret (pe_and (pe_or (pe_cmpR op_isN (pv 1) pe_non (nomark _)) (pe_one (pe_cmpR op_ge (pv 0) (pv 1) (nomark _)))) (pe_one (pe_or (pe_cmpR op_isN (pv 2) pe_non (nomark _)) (pe_one (pe_cmpR op_le (pv 0) (pv 2) (nomark _)))))))), ?_⟩
    refine ⟨_, rfl, v, d, "int", rfl, by decide, hd, _, rfl, ?_⟩
    cases hd with
    | int i =>
      refine iteNo rfl ?_
      refine ⟨_, rfl, _, _, "bool", rfl, by decide, .int i, _, rfl, iteNo rfl ?_⟩
      have hiS : ∀ c : Bool, (c = true → wholeD lo hi (.int i) = highOk hi i) → c = true → ∀ (R : V → Hp → Prop), (R (.bl (wholeD lo hi (.int i))) H) → ∃ v0, some (some (oV hi)) = some (some v0) ∧ V.non = V.non ∧ ∃ c0, V.bl (decide (v0 = V.non)) = V.bl c0 ∧ if c0 = true then R (.bl true) H else ∃ v1, some (some (V.int i)) = some (some v1) ∧ ∃ v2, some (some (oV hi)) = some (some v2) ∧ ∃ i1 j1, v1 = V.int i1 ∧ v2 = V.int j1 ∧ R (.bl (decide (i1 ≤ j1))) H := by
        intro c hc hc1 R hR
        rw [hc hc1] at hR
        cases hi with
        | none => exact ⟨_, rfl, rfl, _, rfl, iteYes rfl hR⟩
        | some h => exact ⟨_, rfl, rfl, _, rfl, iteNo rfl ⟨_, rfl, _, rfl, i, h, rfl, rfl, hR⟩⟩
      cases lo with
      | none =>
        refine ⟨_, rfl, rfl, _, rfl, iteYes rfl ⟨_, rfl, iteYes rfl ?_⟩⟩
        exact hiS true (fun _ => rfl) rfl Q k
      | some l =>
        refine ⟨_, rfl, rfl, _, rfl, iteNo rfl ⟨_, rfl, _, rfl, i, l, rfl, rfl, _, rfl, ?_⟩⟩
        by_cases hl : l ≤ i
        · refine iteYes (decide_eq_true hl) ?_
          refine hiS true (fun _ => ?_) rfl Q k
          show (decide (l ≤ i) && highOk hi i) = _
          rw [decide_eq_true hl]
          rfl
        · refine iteNo (decide_eq_false hl) ?_
          have e : wholeD (some l) hi (.int i) = false := by
            show (decide (l ≤ i) && highOk hi i) = _
            rw [decide_eq_false hl]
            rfl
          rw [e] at k
          exact k
    | bl b => exact iteNo rfl ⟨_, rfl, _, _, "bool", rfl, by decide, .bl b, _, rfl, iteYes rfl k⟩
    | non => exact iteYes rfl (iteYes rfl k)
    | str _ => exact iteYes rfl (iteYes rfl k)
    | lst _ _ => exact iteYes rfl (iteYes rfl k)
    | tup _ _ => exact iteYes rfl (iteYes rfl k)
    | dct0 _ => exact iteYes rfl (iteYes rfl k)
    | dct1 _ => exact iteYes rfl (iteYes rfl k)
end
end KL
set_option Elab.async false
set_option linter.all false
set_option maxRecDepth 100000
set_option maxHeartbeats 2000000
namespace KL
open PySem L2 PySem.KX PySem.Spec PyProof.Rows
theorem letS_sign (c : Nat) : letS ⟨#[c]⟩ = decide (c ∈ ("abcdefghijklmnopqrstuvwxyz" : Str).cps.toList) := by
  have e : ("abcdefghijklmnopqrstuvwxyz" : Str).cps.toList = (List.range 26).map (· + 97) := by decide +kernel
  rw [e]
  show (decide ((1 : Nat) = 1) && (!decide ([c] < [97]) && !decide ([122] < [c]))) = _
  have l1 : ([c] < [97]) ↔ c < 97 := by
    rw [List.cons_lt_cons_iff]
    constructor
    · rintro (z | ⟨_, z⟩)
      · exact z
      · exact absurd z (by simp)
    · exact .inl
  have l2 : ([122] < [c]) ↔ 122 < c := by
    rw [List.cons_lt_cons_iff]
    constructor
    · rintro (z | ⟨_, z⟩)
      · exact z
      · exact absurd z (by simp)
    · exact .inl
  show (!decide ([c] < [97]) && !decide ([122] < [c])) = _
  have k1 : decide ([c] < [97]) = decide (c < 97) := by
    by_cases h : c < 97
    · rw [decide_eq_true h, decide_eq_true (l1.mpr h)]
    · rw [decide_eq_false h, decide_eq_false fun z => h (l1.mp z)]
  have k2 : decide ([122] < [c]) = decide (122 < c) := by
    by_cases h : 122 < c
    · rw [decide_eq_true h, decide_eq_true (l2.mpr h)]
    · rw [decide_eq_false h, decide_eq_false fun z => h (l2.mp z)]
  rw [k1, k2]
  by_cases h : 97 ≤ c ∧ c ≤ 122
  · have m : c ∈ (List.range 26).map (· + 97) := List.mem_map.mpr ⟨c - 97, List.mem_range.mpr (by omega), by omega⟩
    have n1 : ¬ c < 97 := by omega
    have n2 : ¬ 122 < c := by omega
    rw [decide_eq_true m, decide_eq_false n1, decide_eq_false n2]
    rfl
  · have m : ¬ c ∈ (List.range 26).map (· + 97) := fun z => by
      obtain ⟨j, hj, e⟩ := List.mem_map.mp z
      have := List.mem_range.mp hj
      omega
    rw [decide_eq_false m]
    by_cases h1 : c < 97
    · rw [decide_eq_true h1]
      rfl
    · have h2 : 122 < c := by omega
      rw [decide_eq_true h2, decide_eq_false h1]
      rfl
theorem one_sign {x : Str} (h : x.length = 1) : ∃ c, x = ⟨#[c]⟩ := by
  obtain ⟨⟨l⟩⟩ := x
  match l, h with
  | [c], _ => exact ⟨c, rfl⟩
def spRises : Sp := spAsc
section
variable {P : Program} {w : World} {K : PySem.W.Frag} {mg : Str → Option Value} {base : Heap}
theorem scLLet : FnScope ["_law_it"] ["_law_it"] (defScope lLetter) := ⟨rfl, rfl, rfl, by decide +kernel, rfl, by decide +kernel, by decide +kernel⟩
theorem ok_letter {f : Addr} {fd : FuncData} (F : Fun K "_law_is_letter" "_law_is_letter" lLetter f fd) (T : TxtB mg) : FnOk P w K mg base CX0 1 f fd ["_law_it"] (spTest letD) := by
  refine F.ok scLLet (fun vs H Q E h => ?_) (fun cdv A outer s H vs Q E hr h => ?_)
  · obtain ⟨v, d, rfl, _⟩ := h
    rfl
  · obtain ⟨v, d, rfl, hd, sm, k⟩ := h
    refine ⟨_, pss_one (ps_ret (pe_and (pe_callB call_isD (by rfl) T.isi (by decide +kernel) (pa_cons (pv 0) (pa_cons (pe_bltn (v := .ty "str") (by rfl) T.str (by decide +kernel) rfl) pa_nil)))
      (pe_and (pe_cmpR op_eq (pe_callB call_len_str (by rfl) T.len PySem.boot_len (pa_cons (pv 0) pa_nil)) pe_int (nomark _)) (pe_one (pe_cmpR op_in_sign (pv 0) pe_str (by rfl)))))), ?_⟩
    have q := k H (Same.refl H)
    refine ⟨_, rfl, v, d, "str", rfl, by decide, hd, _, rfl, ?_⟩
    cases hd with
    | str x =>
      have hx : x.length ≤ 1000 := of_decide_eq_true sm
      refine iteYes rfl ⟨_, rfl, x, rfl, Nat.le_trans hx (by rw [sizeLine_eq]; omega), rfl, _, rfl, ?_⟩
      by_cases h1 : x.length = 1
      · refine iteYes (decide_eq_true (by rw [h1]; rfl)) ?_
        obtain ⟨c, rfl⟩ := one_sign h1
        refine ⟨_, rfl, c, _, rfl, rfl, ?_⟩
        have e : letD (.str ⟨#[c]⟩) = _ := letS_sign c
        rw [e] at q
        exact q
      · refine iteNo (decide_eq_false fun z => ?_) ?_
        · injection z with z
          omega
        · have e : letD (.str x) = false := by simp [letD, letS, h1]
          rw [e] at q
          exact q
    | non => exact iteNo rfl q
    | bl _ => exact iteNo rfl q
    | int _ => exact iteNo rfl q
    | lst _ _ => exact iteNo rfl q
    | tup _ _ => exact iteNo rfl q
    | dct0 _ => exact iteNo rfl q
    | dct1 _ => exact iteNo rfl q
theorem scLRises : FnScope ["_law_some", "_law_k"] ["_law_some"] (defScope lRises) := ⟨rfl, rfl, rfl, by decide +kernel, rfl, by decide +kernel, by decide +kernel⟩
theorem ok_rises {f : Addr} {fd : FuncData} (F : Fun K "_law_rises" "_law_rises" lRises f fd) (T : TxtL mg) : FnOk P w K mg base CX0 1 f fd ["_law_some"] spAsc := by
  refine F.ok scLRises (fun vs H Q E h => ?_) (fun cdv A outer s H vs Q E hr h => ?_)
  · obtain ⟨a, xs, ds, rfl, _⟩ := h
    rfl
  · obtain ⟨a, xs, ds, rfl, hx, ha, hl, lay, dp, hc, k⟩ := h
    refine ⟨_, pss_one (ps_ret (pe_cmpR (op_eqNil hr.units) (pe_lc (own := [("_law_k", 1)]) (g := gName 1) (tt := fun σ H Q => tNot (tTest (tOp rLtD (tOp (rIx K) (tVar 0) (tOp (rI0 fun i j => V.int (i - j)) (tVar 1) (tC (.int 1)))) (tOp (rIx K) (tVar 0) (tVar 1)))) σ H Q) rfl scLRises.nd (pi_range2 (by rfl) T.range (pa_cons pe_int (pa_cons (pe_callB call_len_seq (by rfl) T.b.len PySem.boot_len (pa_cons (pv 0) pa_nil)) pa_nil)))
      (blkOk_by (N := ["_law_some", "_law_k"]) (sc := defScope lRises) (by decide +kernel)) (fun _ _ _ _ _ => pg_name (i := 1) scLRises.nd rfl (.inl rfl)) (fun _ _ _ _ _ => pts_one (pt_not (pt_cmpR (op_ltD hr.units) (pe_ix (r := rIx K) ix_seq (pv 0) (pe_op op_sub (pv 1) pe_int) (fun _ _ => rfl)) (pe_ix (r := rIx K) ix_seq (pv 0) (pv 1) (fun _ _ => rfl)) (nomark _))))
      (fun _ _ _ _ _ => pv 1)) (pe_lst pa_nil) (nomark _))), ?_⟩
    have len := ha.len
    have sq : SqL K H a xs ∨ SqT K H a xs := hx.imp SqL.of SqT.of
    refine ⟨_, rfl, a, xs, rfl, sq, 1, xs.length, rfl, ⟨by decide, by decide, by omega, by omega⟩, fun D nD => ?_⟩
    refine lc_range (lo := 1) (n := ((xs.length : Int) - 1).toNat) (fun i H2 => Odds H D ((ascTo ds i).all id) i H2) (Odds.start nD) ?_ ?_
    · rintro i H2 hi M
      have h1 : i < xs.length := by omega
      have h2 : i + 1 < xs.length := by omega
      obtain ⟨d1, e1, q1⟩ := DqAll.at ha (i := i) (List.getElem?_eq_getElem h1)
      obtain ⟨d2, e2, q2⟩ := DqAll.at ha (i := i + 1) (List.getElem?_eq_getElem h2)
      have S2 : Same H H2 := M.1
      have c := hc i (by omega)
      have l1 := lay_at i lay
      have l2 := lay_at (i + 1) lay
      have p1 := Nat.le_trans (depth_at (ds := ds) i) dp
      rw [getD_of e1, getD_of e2] at c
      rw [getD_of e1] at l1 p1
      rw [getD_of e2] at l2
      have at1 : atI xs (1 + (i : Int) - 1) = some xs[i] := by
        rw [show (1 + (i : Int) - 1) = ((i : Nat) : Int) by omega]
        exact atI_nat (List.getElem?_eq_getElem h1)
      have at2 : atI xs (1 + (i : Int)) = some xs[i + 1] := by
        rw [show (1 + (i : Int)) = ((i + 1 : Nat) : Int) by omega]
        exact atI_nat (List.getElem?_eq_getElem h2)
      have ix : ∀ (j : Int) (y : V), atI xs j = some y → ∀ R : V → Hp → Prop, R y H2 → rIx K (.ref a) (.int j) H2 R := fun j y ej R hR => by
        rcases hx with hx | hx
        · exact .inl ⟨a, xs, j, y, rfl, rfl, SqL.of (S2 _ _ hx), ej, hR⟩
        · exact .inr (.inl ⟨a, xs, j, y, rfl, rfl, SqT.of (S2 _ _ hx), ej, hR⟩)
      refine ⟨rfl, _, rfl, _, rfl, _, _, rfl, rfl, ix _ _ at1 _ ⟨_, rfl, _, rfl, ix _ _ at2 _ ⟨d1, d2, Dq.same S2 _ _ q1, Dq.same S2 _ _ q2, l1, l2, c, p1, _, rfl, ?_⟩⟩⟩
      have step : (ascTo ds (i + 1)).all id = ((ascTo ds i).all id && ltD d1 d2) := by
        unfold ascTo
        rw [List.range_succ, List.map_append, List.all_append, List.map_cons, List.map_nil, List.all_cons, List.all_nil, getD_of e1, getD_of e2, Bool.and_true]
        rfl
      rw [step]
      by_cases hlt : ltD d1 d2 = true
      · refine iteNo (by rw [hlt]; rfl) ?_
        rw [hlt, Bool.and_true]
        exact M.skip (Same.refl _)
      · have hlt : ltD d1 d2 = false := by simpa using hlt
        refine iteYes (by rw [hlt]; rfl) ?_
        rw [hlt, Bool.and_false]
        exact ⟨_, rfl, M.put nD (Same.refl _) _ (by omega)⟩
    · rintro H2 ⟨S2, ys, hy, hb, _⟩
      refine ⟨(by show 0 ≤ sizeLine; decide), fun p np => ?_⟩
      have S3 := same_new (o := .lst []) np
      refine ⟨D, p, ys, rfl, rfl, S3 _ _ hy, upd_same, ?_⟩
      have q := k _ (S2.trans S3)
      have e : ascD ds = ys.isEmpty := by
        rw [hb]
        unfold ascD
        congr 2
        omega
      rw [e] at q
      exact q
end
end KL
set_option Elab.async false
set_option linter.all false
set_option maxRecDepth 100000
set_option maxHeartbeats 2000000
namespace KL
open PySem L2 PySem.KX PySem.Spec PyProof.Rows
def areD (lo hi : Option Int) (d : PyData) : Bool := isTupD d && allD (wholeD lo hi) d
def spAre : Sp := fun vs H Q _ => ∃ (v : V) (d : PyData) (lo hi : Option Int), vs = [v, oV lo, oV hi] ∧ Dq H v d ∧ smB d = true ∧ ∀ H', Same H H' → Q (.bl (areD lo hi d)) H'
/-- is_form of the law -/
def spLForm : Sp := fun vs H Q _ => ∃ (v : V) (d : PyData) (n : Int), vs = [v, .int n] ∧ Dq H v d ∧ smB d = true ∧ ∀ H', Same H H' → Q (.bl (formD n d)) H'
theorem all_step {f : PyData → Bool} {ds : List PyData} {i : Nat} {d : PyData} (h : ds[i]? = some d) : (ds.take (i + 1)).all f = ((ds.take i).all f && f d) := by
  rw [List.take_add_one, h, List.all_append]
  simp
section
variable {P : Program} {w : World} {K : PySem.W.Frag} {mg : Str → Option Value} {base : Heap}
theorem scLAre : FnScope ["_law_it", "_law_low", "_law_high", "_law_part"] ["_law_it", "_law_low", "_law_high"] (defScope lAreWhole) := ⟨rfl, rfl, rfl, by decide +kernel, rfl, by decide +kernel, by decide +kernel⟩
theorem ok_are {f g1 : Addr} {fd gd1 : FuncData} (F : Fun K "_law_are_whole" "_law_are_whole" lAreWhole f fd) (T : TxtL mg) (G1 : FnOk P w K mg base CX0 1 g1 gd1 ["_law_it", "_law_low", "_law_high"] spWhole) (c1 : Cal K mg "_law_is_whole" g1 gd1 ["_law_it", "_law_low", "_law_high"]) :
    FnOk P w K mg base CX0 2 f fd ["_law_it", "_law_low", "_law_high"] spAre := by
  refine F.ok scLAre (fun vs H Q E h => ?_) (fun cdv A outer s H vs Q E hr h => ?_)
  · obtain ⟨v, d, lo, hi, rfl, _⟩ := h
    rfl
  · obtain ⟨v, d, lo, hi, rfl, hd, sm, k⟩ := h
    refine ⟨_, pss_one (ps_ret (pe_and (pe_callB call_isD (by rfl) T.b.isi (by decide +kernel) (pa_cons (pv 0) (pa_cons (pe_bltn (v := .ty "tuple") (by rfl) T.b.tuple (by decide +kernel) rfl) pa_nil)))
      (pe_one (pe_cmpR (op_eqNil hr.units) (pe_lc (own := [("_law_part", 3)]) (g := gName 3) (tt := tNot (tB (tCall spWhole [] E0 (tCons (tVar 3) (tCons (tVar 1) (tCons (tVar 2) tNil)))))) rfl scLAre.nd (pi_tup (pv 0)) (blkOk_by (N := ["_law_it", "_law_low", "_law_high", "_law_part"]) (sc := defScope lAreWhole) (by decide +kernel)) (fun _ _ _ _ _ => pg_name (i := 3) scLAre.nd rfl (.inl rfl))
        (fun _ _ _ _ _ => pts_one (pt_not (pt_val (pe_call G1 hr (by rfl) c1.m c1.k c1.b .nil pass0 (pa_cons (pv 3) (pa_cons (pv 1) (pa_cons (pv 2) pa_nil))))))) (fun _ _ _ _ _ => pv 3)) (pe_lst pa_nil) (nomark _))))), ?_⟩
    have q := k H (Same.refl H)
    refine ⟨_, rfl, v, d, "tuple", rfl, by decide, hd, _, rfl, ?_⟩
    cases hd with
    | @tup b xs ds e ha =>
      refine iteYes rfl ?_
      refine ⟨_, rfl, b, rfl, ⟨_, SqT.of e⟩, fun D nD => ?_⟩
      refine lc_tup (K := K) (a := b) (xs := xs) (fun i H2 => Odds H D ((ds.take i).all (wholeD lo hi)) i H2) (Odds.start nD) (fun i H2 _ M => SqT.of (M.1 _ _ e)) ?_ ?_
      · rintro i x H2 hx M
        obtain ⟨d', hd', hq⟩ := DqAll.at ha hx
        have hi2 : i < ds.length := (List.getElem?_eq_some_iff.mp hd').1
        have := sm_len sm
        refine ⟨rfl, _, rfl, _, rfl, _, rfl, x, d', lo, hi, rfl, Dq.same M.1 _ _ hq, _, rfl, ?_⟩
        rw [all_step hd']
        by_cases hw : wholeD lo hi d' = true
        · refine iteNo (by rw [hw]; rfl) ?_
          rw [hw, Bool.and_true]
          exact M.skip (Same.refl _)
        · have hw : wholeD lo hi d' = false := by simpa using hw
          refine iteYes (by rw [hw]; rfl) ?_
          rw [hw, Bool.and_false]
          exact ⟨_, rfl, M.put nD (Same.refl _) _ (by omega)⟩
      · rintro H2 ⟨S2, ys, hy, hb, _⟩
        rw [ha.len, List.take_length] at hb
        refine ⟨(by show 0 ≤ sizeLine; decide), fun p np => ?_⟩
        have S3 := same_new (o := .lst []) np
        refine ⟨D, p, ys, rfl, rfl, S3 _ _ hy, upd_same, ?_⟩
        have q := k _ (S2.trans S3)
        have e : areD lo hi (.tuple ds) = ys.isEmpty := by
          rw [hb]
          rfl
        rw [e] at q
        exact q
    | non => exact iteNo rfl q
    | bl _ => exact iteNo rfl q
    | int _ => exact iteNo rfl q
    | str _ => exact iteNo rfl q
    | lst _ _ => exact iteNo rfl q
    | dct0 _ => exact iteNo rfl q
    | dct1 _ => exact iteNo rfl q
theorem are_form (n : Int) (d : PyData) : (areD none none d && decide (((itemsD d).length : Int) = n + 1)) = formD n d := by
  cases d with
  | tuple ds =>
    show ((true && ds.all (wholeD none none)) && decide ((ds.length : Int) = n + 1)) = (decide ((ds.length : Int) = n + 1) && ds.all intD)
    rw [Bool.true_and, Bool.and_comm]
    congr 2
  | _ => rfl
theorem scLForm : FnScope ["_law_it", "_law_size"] ["_law_it", "_law_size"] (defScope lIsForm) := ⟨rfl, rfl, rfl, by decide +kernel, rfl, by decide +kernel, by decide +kernel⟩
theorem ok_lform {f g1 : Addr} {fd gd1 : FuncData} (F : Fun K "_law_is_form" "_law_is_form" lIsForm f fd) (T : TxtL mg) (G1 : FnOk P w K mg base CX0 2 g1 gd1 ["_law_it", "_law_low", "_law_high"] spAre) (c1 : Cal K mg "_law_are_whole" g1 gd1 ["_law_it", "_law_low", "_law_high"]) :
    FnOk P w K mg base CX0 3 f fd ["_law_it", "_law_size"] spLForm := by
  refine F.ok scLForm (fun vs H Q E h => ?_) (fun cdv A outer s H vs Q E hr h => ?_)
  · obtain ⟨v, d, n, rfl, _⟩ := h
    rfl
  · obtain ⟨v, d, n, rfl, hd, sm, k⟩ := h
    refine ⟨_, pss_one (ps_ret (pe_and (pe_call G1 hr (by rfl) c1.m c1.k c1.b .nil pass0 (pa_cons (pv 0) (pa_cons pe_non (pa_cons pe_non pa_nil))))
      (pe_one (pe_cmpR op_eq (pe_callB call_len_seq (by rfl) T.b.len PySem.boot_len (pa_cons (pv 0) pa_nil)) (pe_op op_add (pv 1) pe_int) (by rfl))))), ?_⟩
    refine ⟨_, rfl, v, d, none, none, rfl, hd, sm, fun H1 S1 => ⟨_, rfl, ?_⟩⟩
    have q := k H1 S1
    rw [← are_form] at q
    by_cases h1 : areD none none d = true
    · refine iteYes h1 ?_
      obtain ⟨ds, rfl⟩ := isT_of (Bool.and_eq_true_iff.mp h1).1
      rw [h1, Bool.true_and] at q
      cases hd with
      | @tup b xs _ e ha =>
        refine ⟨_, rfl, b, xs, rfl, .inr (SqT.of (S1 _ _ e)), _, rfl, _, _, rfl, rfl, rfl, ?_⟩
        rw [ha.len]
        have e2 : decide (V.int (ds.length : Int) = V.int (n + 1)) = decide (((itemsD (.tuple ds)).length : Int) = n + 1) := by
          show decide (V.int (ds.length : Int) = V.int (n + 1)) = decide ((ds.length : Int) = n + 1)
          by_cases z : (ds.length : Int) = n + 1
          · rw [decide_eq_true z, z]
            exact decide_eq_true rfl
          · rw [decide_eq_false z]
            exact decide_eq_false fun y => z (by injection y)
        rw [e2]
        exact q
    · have h1 : areD none none d = false := by simpa using h1
      rw [h1, Bool.false_and] at q
      exact iteNo h1 q
theorem scLDeeds : FnScope ["_law_it", "_law_people", "_law_part"] ["_law_it", "_law_people"] (defScope lAreDeeds) := ⟨rfl, rfl, rfl, by decide +kernel, rfl, by decide +kernel, by decide +kernel⟩
theorem ok_ldeeds {f g1 g2 g3 : Addr} {fd gd1 gd2 gd3 : FuncData} (F : Fun K "_law_are_deeds" "_law_are_deeds" lAreDeeds f fd) (T : TxtL mg) (G1 : FnOk P w K mg base CX0 1 g1 gd1 ["_law_it"] (spTest letD)) (c1 : Cal K mg "_law_is_letter" g1 gd1 ["_law_it"])
    (G2 : FnOk P w K mg base CX0 1 g2 gd2 ["_law_it", "_law_low", "_law_high"] spWhole) (c2 : Cal K mg "_law_is_whole" g2 gd2 ["_law_it", "_law_low", "_law_high"]) (G3 : FnOk P w K mg base CX0 1 g3 gd3 ["_law_some"] spAsc) (c3 : Cal K mg "_law_rises" g3 gd3 ["_law_some"]) :
    FnOk P w K mg base CX0 2 f fd ["_law_it", "_law_people"] (spTest1 deedsD) := by
  refine F.ok scLDeeds (fun vs H Q E h => ?_) (fun cdv A outer s H vs Q E hr h => ?_)
  · obtain ⟨v, d, n, rfl, _⟩ := h
    rfl
  · obtain ⟨v, d, n, rfl, hd, sm, k⟩ := h
    refine ⟨_, pss_cons (ps_if (PW.pt (pw_or (pt_not (pt_val (pe_callB call_isD (by rfl) T.b.isi (by decide +kernel) (pa_cons (pv 0) (pa_cons (pe_bltn (v := .ty "tuple") (by rfl) T.b.tuple (by decide +kernel) rfl) pa_nil))))) (pw_or1 (pt_not (pt_chain op_lt op_lt pe_int (pe_callB call_len_seq (by rfl) T.b.len PySem.boot_len (pa_cons (pv 0) pa_nil)) pe_int))))) (pss_one (ps_ret pe_bl)) pss_nil)
      (pss_cons (ps_for PassesOwn.never rfl (pi_tup (pv 0)) (pg_name (i := 2) scLDeeds.nd rfl (.inl rfl)) (pss_cons (ps_if (PW.pt (pw_or (pt_not (pt_val (pe_callB call_isD (by rfl) T.b.isi (by decide +kernel) (pa_cons (pv 2) (pa_cons (pe_bltn (v := .ty "tuple") (by rfl) T.b.tuple (by decide +kernel) rfl) pa_nil))))) (pw_or (pt_cmpR op_ne (pe_callB call_len_seq (by rfl) T.b.len PySem.boot_len (pa_cons (pv 2) pa_nil)) pe_int (nomark _)) (pw_or1 (pt_not (pt_val (pe_call G1 hr (by rfl) c1.m c1.k c1.b .nil pass0 (pa_cons (pe_ix ix_tup (pv 2) pe_int (fun _ _ => rfl)) pa_nil)))))))) (pss_one (ps_ret pe_bl)) pss_nil)
        (pss_one (ps_if (pt_not (pt_val (pe_call G2 hr (by rfl) c2.m c2.k c2.b .nil pass0 (pa_cons (pe_ix ix_tup (pv 2) pe_int (fun _ _ => rfl)) (pa_cons pe_int (pa_cons (pe_op op_sub (pv 1) pe_int) pa_nil)))))) (pss_one (ps_ret pe_bl)) pss_nil))))
      (pss_one (ps_ret (pe_call G3 hr (by rfl) c3.m c3.k c3.b .nil pass0 (pa_cons (pe_lc (own := [("_law_part", 2)]) (g := gName 2) (tt := tYes) rfl scLDeeds.nd (pi_tup (pv 0)) (blkOk_by (N := ["_law_it", "_law_people", "_law_part"]) (sc := defScope lAreDeeds) (by decide +kernel)) (fun _ _ _ _ _ => pg_name (i := 2) scLDeeds.nd rfl (.inl rfl)) (fun _ _ _ _ _ => pts_nil)
        (fun _ _ _ _ _ => pe_ix (r := rIxT K) ix_tup (pv 2) pe_int (fun _ _ => rfl))) pa_nil))))), ?_⟩
    have q0 := k H (Same.refl H)
    refine ⟨_, rfl, v, d, "tuple", rfl, by decide, hd, _, rfl, ?_⟩
    cases hd with
    | @tup b xs ds e ha =>
      refine iteNo rfl ?_
      refine ⟨_, rfl, b, xs, rfl, .inr (SqT.of e), _, _, rfl, rfl, _, rfl, ?_⟩
      rw [ha.len]
      have l1 : decide ((1 : Int) ≤ (ds.length : Int)) = decide (0 < (ds.length : Int)) := decide_eq_decide.mpr (by omega)
      have l2 : decide ((ds.length : Int) ≤ 5) = decide ((ds.length : Int) < 6) := decide_eq_decide.mpr (by omega)
      have tD : tupD 1 5 (.tuple ds) = (decide (0 < (ds.length : Int)) && decide ((ds.length : Int) < 6)) := by
        show (decide (1 ≤ (ds.length : Int)) && decide ((ds.length : Int) ≤ 5)) = _
        rw [l1, l2]
      have no : tupD 1 5 (.tuple ds) = false → Q (.bl false) H := fun z => by
        have e : deedsD n (.tuple ds) = false := by simp only [deedsD, z, Bool.false_and]
        rw [e] at q0
        exact q0
      rcases bool_ft (decide (0 < (ds.length : Int))) with b0 | b0
      · exact iteNo b0 ⟨_, rfl, iteYes rfl (no (by rw [tD, b0]; rfl))⟩
      refine iteYes b0 ⟨_, _, rfl, rfl, _, rfl, ?_⟩
      rcases bool_ft (decide ((ds.length : Int) < 6)) with b1 | b1
      · exact iteYes (by rw [b1]; rfl) (no (by rw [tD, b1, Bool.and_false]))
      refine iteNo (by rw [b1]; rfl) ?_
      have h1 : tupD 1 5 (.tuple ds) = true := by rw [tD, b0, b1]; rfl
      have k1 : ∀ H', Same H H' → Q (.bl (allD (deedD n) (.tuple ds) && ascD (ds.map (itemD 0)))) H' := fun H' S => by
        have q := k H' S
        have e : deedsD n (.tuple ds) = (allD (deedD n) (.tuple ds) && ascD (ds.map (itemD 0))) := by
          simp only [deedsD, h1, Bool.true_and]
          rfl
        rw [e] at q
        exact q
      refine ⟨_, rfl, b, rfl, ⟨_, SqT.of e⟩, for_tup (K := K) (a := b) (xs := xs) (fun i σ H1 => Same H H1 ∧ (ds.take i).all (deedD n) = true ∧ ∃ o, σ = [some (.ref b), some (.int n), o]) ⟨Same.refl _, rfl, none, rfl⟩ (fun i σ H1 _ P => SqT.of (P.1 _ _ e)) ?_ ?_⟩
      · rintro i x σ H1 hx ⟨S1, a1, o, rfl⟩
        obtain ⟨d', hd', hq⟩ := DqAll.at ha hx
        have sd := sm_at (sm_all sm) hd'
        have q1 := Dq.same S1 _ _ hq
        have bad : ∀ H2, Same H1 H2 → deedD n d' = false → Q (.bl false) H2 := fun H2 S2 z => by
          have q := k1 H2 (S1.trans S2)
          have e : allD (deedD n) (.tuple ds) = false := by
            show ds.all (deedD n) = false
            rw [List.all_eq_false]
            exact ⟨d', List.mem_of_getElem? hd', by rw [z]; decide⟩
          rw [e, Bool.false_and] at q
          exact q
        have badT : isTupD d' = false → Q (.bl false) H1 := fun z => bad H1 (Same.refl _) (by
          cases d' with
          | tuple _ => cases z
          | _ => rfl)
        refine ⟨_, rfl, x, d', "tuple", rfl, by decide, q1, _, rfl, ?_⟩
        cases q1 with
        | @tup c ys es e' hza =>
          refine iteNo rfl ?_
          refine ⟨_, rfl, c, ys, rfl, .inr (SqT.of e'), rfl, _, rfl, ?_⟩
          rw [hza.len]
          by_cases l3 : es.length = 2
          · have z2 : (!decide (V.int (es.length : Int) = V.int 2)) = false := by rw [l3]; rfl
            refine iteNo z2 ?_
            obtain ⟨d0, d1, rfl⟩ : ∃ d0 d1, es = [d0, d1] := by
              match es, l3 with
              | [d0, d1], _ => exact ⟨d0, d1, rfl⟩
            cases hza with
            | @cons y0 _ _ _ r0 hza =>
            cases hza with
            | @cons y1 _ _ _ r1 hza =>
            cases hza
            have key : deedD n (.tuple [d0, d1]) = (letD d0 && betD 0 (n - 1) d1) := rfl
            refine ⟨_, rfl, c, _, _, _, rfl, rfl, SqT.of e', rfl, y0, d0, rfl, r0, sm_at (i := 0) (sm_all sd) rfl, fun H2 S2 => ⟨_, rfl, ?_⟩⟩
            rcases bool_ft (letD d0) with b2 | b2
            · exact iteYes (by rw [b2]; rfl) (bad H2 S2 (by rw [key, b2]; rfl))
            refine iteNo (by rw [b2]; rfl) ?_
            refine ⟨_, rfl, c, _, _, _, rfl, rfl, SqT.of (S2 _ _ e'), rfl, _, rfl, _, _, rfl, rfl, y1, d1, some 0, some (n - 1), rfl, Dq.same S2 _ _ r1, _, rfl, ?_⟩
            rw [whole_bet]
            rcases bool_ft (betD 0 (n - 1) d1) with b3 | b3
            · exact iteYes (by rw [b3]; rfl) (bad H2 S2 (by rw [key, b3, Bool.and_false]))
            refine iteNo (by rw [b3]; rfl) ?_
            exact ⟨S1.trans S2, take_all a1 hd' (by rw [key, b2, b3]; rfl), _, rfl⟩
          · have z2 : (!decide (V.int (es.length : Int) = V.int 2)) = true := by
              rw [decide_eq_false fun z => l3 (by injection z with z; omega)]
              rfl
            refine iteYes z2 (iteYes rfl (bad H1 (Same.refl _) ?_))
            have tz : tupD 2 2 (.tuple es) = false := by
              rcases bool_ft (tupD 2 2 (.tuple es)) with z | z
              · exact z
              · obtain ⟨_, ee, m1, m2⟩ := tup_of z
                cases ee
                exact absurd (show es.length = 2 by omega) l3
            simp only [deedD, tz, Bool.false_and]
        | non => exact iteYes rfl (iteYes rfl (badT rfl))
        | bl _ => exact iteYes rfl (iteYes rfl (badT rfl))
        | int _ => exact iteYes rfl (iteYes rfl (badT rfl))
        | str _ => exact iteYes rfl (iteYes rfl (badT rfl))
        | lst _ _ => exact iteYes rfl (iteYes rfl (badT rfl))
        | dct0 _ => exact iteYes rfl (iteYes rfl (badT rfl))
        | dct1 _ => exact iteYes rfl (iteYes rfl (badT rfl))
      · rintro σ H1 ⟨S1, a1, o, rfl⟩
        rw [ha.len, List.take_length] at a1
        have h2 : allD (deedD n) (.tuple ds) = true := a1
        refine ⟨_, rfl, b, rfl, ⟨_, SqT.of (S1 _ _ e)⟩, fun B nB => ?_⟩
        refine lc_tup (K := K) (a := b) (xs := xs) (fun i H3 => MadeQ H1 B ((ds.take i).map (itemD 0)) H3) (MadeQ.start nB) (fun i H3 _ M => SqT.of (M.1 _ _ (S1 _ _ e))) ?_ ?_
        · rintro i x H3 hx M3
          obtain ⟨d', hd', hq⟩ := DqAll.at ha hx
          have hi : i < ds.length := (List.getElem?_eq_some_iff.mp hd').1
          have hdd := all_at (f := deedD n) h2 hi
          rw [getD_of hd'] at hdd
          obtain ⟨lt, ow, rfl, _, _, _⟩ := deed_of hdd
          cases hq with
          | tup e' ha' =>
            cases ha' with
            | cons q1 r1 =>
              rename_i c0 y0 ys0
              refine ⟨rfl, _, rfl, c0, _, _, _, rfl, rfl, SqT.of (M3.1 _ _ (S1 _ _ e')), atI_nat (j := 0) (show (y0 :: ys0)[0]? = some y0 from rfl), ?_⟩
              exact M3.turn nB (Same.refl _) (sm_len sm) hd' (Dq.same S1 _ _ q1)
        · rintro H3 M3
          rw [ha.len, List.take_length] at M3
          obtain ⟨S3, ys, hy, hq⟩ := M3
          have str_at : ∀ i, i < ds.length → ∃ x, (ds.map (itemD 0)).getD i .none = .str x ∧ letS x = true := fun i hi => by
            obtain ⟨lt, ow, e, h, _⟩ := deed_of (all_at (f := deedD n) h2 hi)
            rw [getD_map hi, e]
            exact ⟨lt, rfl, h⟩
          have hstr : ∀ i, i < (ds.map (itemD 0)).length → ∃ x, (ds.map (itemD 0)).getD i .none = .str x ∧ letS x = true := fun i hi => str_at i (by rwa [List.length_map] at hi)
          refine ⟨B, ys, ds.map (itemD 0), rfl, .inl hy, DqAll.same S3 _ ys hq, by rw [List.length_map]; exact sm_len sm, lay_str hstr, depth_str hstr, fun i hi => ?_, fun H4 S4 => ?_⟩
          · obtain ⟨x, ex, _⟩ := hstr i (by omega)
            obtain ⟨y, ey, _⟩ := hstr (i + 1) hi
            rw [ex, ey]
            rfl
          · have q := k1 H4 (S1.trans (S3.trans S4))
            rw [h2, Bool.true_and] at q
            exact q
    | non => exact iteYes rfl (iteYes rfl q0)
    | bl _ => exact iteYes rfl (iteYes rfl q0)
    | int _ => exact iteYes rfl (iteYes rfl q0)
    | str _ => exact iteYes rfl (iteYes rfl q0)
    | lst _ _ => exact iteYes rfl (iteYes rfl q0)
    | dct0 _ => exact iteYes rfl (iteYes rfl q0)
    | dct1 _ => exact iteYes rfl (iteYes rfl q0)
end
end KL
set_option Elab.async false
set_option linter.all false
set_option maxRecDepth 100000
set_option maxHeartbeats 2000000
namespace KL
open PySem L2 PySem.KX PySem.Spec PyProof.Rows
structure KitAt (H : Hp) (kv : V) (k : Kit) : Prop where
  ex : ∃ c l ys, kv = .ref c ∧ H c = some (.tup [.ref l, .int k.n, .int k.pl, .int k.lo]) ∧ H l = some (.lst ys) ∧ DqAll H ys (k.dd.map (itemD 0))
  dd : deedsD k.pe (.tuple k.dd) = true
theorem KitAt.same {H H' : Hp} {kv : V} {k : Kit} (h : KitAt H kv k) (S : Same H H') : KitAt H' kv k := by
  obtain ⟨⟨c, l, ys, e, h1, h2, h3⟩, h4⟩ := h
  exact ⟨⟨c, l, ys, e, S _ _ h1, S _ _ h2, DqAll.same S _ _ h3⟩, h4⟩
def spKit (f : Kit → PyData → Bool) : Sp := fun vs H Q _ => ∃ (v kv : V) (d : PyData) (k : Kit), vs = [v, kv] ∧ KitAt H kv k ∧ Dq H v d ∧ smB d = true ∧ ∀ H', Same H H' → Q (.bl (f k d)) H'
theorem ne_int (a b : Int) : (!decide (V.int a = V.int b)) = !decide (a = b) := by
  by_cases z : a = b
  · rw [decide_eq_true z, z]
    simp
  · rw [decide_eq_false z, decide_eq_false fun y => z (by injection y)]
theorem key_arrow (k : Kit) (d0 d1 d2 d3 d4 : PyData) : arrowD k (.tuple [d0, d1, d2, d3, d4]) = (betD 0 (k.pl - 1) d0 && (inD (k.dd.map (itemD 0)) d1 && (betD 0 (k.pl - 1) d2 && (isTupD d3 && (lenIs k.n d3 && (allD (formD k.n) d3 && marksD k d4)))))) := by
  show (true && ((betD 0 (k.pl - 1) d0 && inD (k.dd.map (itemD 0)) d1) && (betD 0 (k.pl - 1) d2 && ((isTupD d3 && allD (formD k.n) d3) && (lenIs k.n d3 && marksD k d4))))) = _
  cases betD 0 (k.pl - 1) d0 <;> cases inD (k.dd.map (itemD 0)) d1 <;> cases betD 0 (k.pl - 1) d2 <;> cases isTupD d3 <;> cases allD (formD k.n) d3 <;> cases lenIs k.n d3 <;> rfl
theorem not_five {ds : List PyData} (h : ds.length ≠ 5) : tupD 5 5 (.tuple ds) = false := by
  rcases bool_ft (tupD 5 5 (.tuple ds)) with z | z
  · exact z
  · obtain ⟨_, e, m1, m2⟩ := tup_of z
    cases e
    exact absurd (show ds.length = 5 by omega) h
theorem isStr_of {es : List PyData} {d : PyData} (h : inD es d = true) : ∃ x, d = .str x := by
  obtain ⟨e, _, q⟩ := List.any_eq_true.mp (show es.any (fun e => strIs e d) = true from h)
  cases e with
  | str x =>
    cases d with
    | str y => exact ⟨y, rfl⟩
    | _ => cases q
  | _ => cases q
section
variable {P : Program} {w : World} {K : PySem.W.Frag} {mg : Str → Option Value} {base : Heap}
abbrev nArrow : List Str := ["_law_it", "_law_kit", "_law_letters", "_law_size", "_law_places", "_law_logs", "_law_x"]
theorem scLArrow : FnScope nArrow ["_law_it", "_law_kit"] (defScope lIsArrow) := ⟨rfl, rfl, rfl, by decide +kernel, rfl, by decide +kernel, by decide +kernel⟩
theorem ok_larrow {f g1 g2 g3 : Addr} {fd gd1 gd2 gd3 : FuncData} (F : Fun K "_law_is_arrow" "_law_is_arrow" lIsArrow f fd) (T : TxtL mg) (G1 : FnOk P w K mg base CX0 1 g1 gd1 ["_law_it"] (spTest letD)) (c1 : Cal K mg "_law_is_letter" g1 gd1 ["_law_it"])
    (G2 : FnOk P w K mg base CX0 1 g2 gd2 ["_law_it", "_law_low", "_law_high"] spWhole) (c2 : Cal K mg "_law_is_whole" g2 gd2 ["_law_it", "_law_low", "_law_high"]) (G3 : FnOk P w K mg base CX0 3 g3 gd3 ["_law_it", "_law_size"] spLForm) (c3 : Cal K mg "_law_is_form" g3 gd3 ["_law_it", "_law_size"]) :
    FnOk P w K mg base CX0 4 f fd ["_law_it", "_law_kit"] (spKit arrowD) := by
  refine F.ok scLArrow (fun vs H Q E h => ?_) (fun cdv A outer s H vs Q E hr h => ?_)
  · obtain ⟨v, kv, d, kt, rfl, _⟩ := h
    rfl
  · obtain ⟨v, kv, d, kt, rfl, hk, hd, sm, k⟩ := h
    have hr1 : Room 1 _ := hr.mono (by decide)
    refine ⟨_, pss_cons (ps_asg (pv 1) (g := gTup K 4 (gCons (gName 2) (gCons (gName 3) (gCons (gName 4) (gCons (gName 5) gNil))))) (pg_tup rfl (pgs_cons (pg_name (i := 2) scLArrow.nd rfl (.inl rfl)) (pgs_cons (pg_name (i := 3) scLArrow.nd rfl (.inr rfl)) (pgs_cons (pg_name (i := 4) scLArrow.nd rfl (.inl rfl)) (pgs_cons (pg_name (i := 5) scLArrow.nd rfl (.inl rfl)) pgs_nil))))))
      (pss_cons (ps_if (PW.pt (pw_or (pt_not (pt_val (pe_callB call_isD (by rfl) T.b.isi (by decide +kernel) (pa_cons (pv 0) (pa_cons (pe_bltn (v := .ty "tuple") (by rfl) T.b.tuple (by decide +kernel) rfl) pa_nil))))) (pw_or (pt_cmpR op_ne (pe_callB call_len_seq (by rfl) T.b.len PySem.boot_len (pa_cons (pv 0) pa_nil)) pe_int (nomark _))
        (pw_or1 (pt_not (pt_val (pe_call G2 hr1 (by rfl) c2.m c2.k c2.b .nil pass0 (pa_cons (pe_ix ix_tup (pv 0) pe_int (fun _ _ => rfl)) (pa_cons pe_int (pa_cons (pe_op op_sub (pv 4) pe_int) pa_nil)))))))))) (pss_one (ps_ret pe_bl)) pss_nil)
      (pss_cons (ps_if (PW.pt (pw_or (pt_cmpR (op_notInStr hr.units) (pe_ix ix_tup (pv 0) pe_int (fun _ _ => rfl)) (pv 2) (by rfl)) (pw_or (pt_not (pt_val (pe_callB call_isD (by rfl) T.b.isi (by decide +kernel) (pa_cons (pe_ix ix_tup (pv 0) pe_int (fun _ _ => rfl)) (pa_cons (pe_bltn (v := .ty "str") (by rfl) T.b.str (by decide +kernel) rfl) pa_nil)))))
        (pw_or1 (pt_not (pt_val (pe_call G2 hr1 (by rfl) c2.m c2.k c2.b .nil pass0 (pa_cons (pe_ix ix_tup (pv 0) pe_int (fun _ _ => rfl)) (pa_cons pe_int (pa_cons (pe_op op_sub (pv 4) pe_int) pa_nil)))))))))) (pss_one (ps_ret pe_bl)) pss_nil)
      (pss_cons (ps_if (PW.pt (pw_or (pt_not (pt_val (pe_callB call_isD (by rfl) T.b.isi (by decide +kernel) (pa_cons (pe_ix ix_tup (pv 0) pe_int (fun _ _ => rfl)) (pa_cons (pe_bltn (v := .ty "tuple") (by rfl) T.b.tuple (by decide +kernel) rfl) pa_nil))))) (pw_or (pt_cmpR op_ne (pe_callB call_len_seq (by rfl) T.b.len PySem.boot_len (pa_cons (pe_ix ix_tup (pv 0) pe_int (fun _ _ => rfl)) pa_nil)) (pv 3) (nomark _))
        (pw_or1 (pt_cmpR (op_neNil hr.units) (pe_lc (own := [("_law_x", 6)]) (g := gName 6) (tt := tNot (tB (tCall spLForm [] E0 (tCons (tVar 6) (tCons (tVar 3) tNil))))) rfl scLArrow.nd (pi_tup (pe_ix ix_tup (pv 0) pe_int (fun _ _ => rfl))) (blkOk_by (N := nArrow) (sc := defScope lIsArrow) (by decide +kernel)) (fun _ _ _ _ _ => pg_name (i := 6) scLArrow.nd rfl (.inl rfl))
          (fun _ _ _ _ _ => pts_one (pt_not (pt_val (pe_call G3 hr (by rfl) c3.m c3.k c3.b .nil pass0 (pa_cons (pv 6) (pa_cons (pv 3) pa_nil)))))) (fun _ _ _ _ _ => pv 6)) (pe_lst pa_nil) (nomark _)))))) (pss_one (ps_ret pe_bl)) pss_nil)
      (pss_cons (ps_if (PW.pt (pw_or (pt_not (pt_val (pe_callB call_isD (by rfl) T.b.isi (by decide +kernel) (pa_cons (pe_ix ix_tup (pv 0) pe_int (fun _ _ => rfl)) (pa_cons (pe_bltn (v := .ty "tuple") (by rfl) T.b.tuple (by decide +kernel) rfl) pa_nil))))) (pw_or1 (pt_cmpR op_ne (pe_callB call_len_seq (by rfl) T.b.len PySem.boot_len (pa_cons (pe_ix ix_tup (pv 0) pe_int (fun _ _ => rfl)) pa_nil)) (pv 5) (nomark _))))) (pss_one (ps_ret pe_bl)) pss_nil)
      (pss_one (ps_ret (pe_cmpR (op_eqNil hr.units) (pe_lc (own := [("_law_x", 6)]) (g := gName 6) (tt := tAnd (tTest (tOp (rEqStr false) (tVar 6) (tC (.str "")))) (tNot (tB (tCall (spTest letD) [] E0 (tCons (tVar 6) tNil))))) rfl scLArrow.nd (pi_tup (pe_ix ix_tup (pv 0) pe_int (fun _ _ => rfl))) (blkOk_by (N := nArrow) (sc := defScope lIsArrow) (by decide +kernel)) (fun _ _ _ _ _ => pg_name (i := 6) scLArrow.nd rfl (.inl rfl))
          (fun _ _ _ _ _ => pts_one (PW.pt (pw_and (pt_cmpR (op_neStr hr.units) (pv 6) pe_str (nomark _)) (pw_and1 (pt_not (pt_val (pe_call G1 hr1 (by rfl) c1.m c1.k c1.b .nil pass0 (pa_cons (pv 6) pa_nil)))))))) (fun _ _ _ _ _ => pv 6)) (pe_lst pa_nil) (nomark _)))))))), ?_⟩
    obtain ⟨kc, kl, kys, rfl, hkc, hkl, hkd⟩ := hk.ex
    refine ⟨_, rfl, kc, _, rfl, SqT.of hkc, rfl, _, _, rfl, _, _, rfl, _, _, rfl, _, _, rfl, rfl, ?_⟩
    have q0 := k H (Same.refl H)
    refine ⟨_, rfl, v, d, "tuple", rfl, by decide, hd, _, rfl, ?_⟩
    cases hd with
    | @tup b xs ds e hda =>
      refine iteNo rfl ?_
      refine ⟨_, rfl, b, xs, rfl, .inr (SqT.of e), rfl, _, rfl, ?_⟩
      rw [hda.len, ne_int]
      by_cases l5 : ds.length = 5
      · refine iteNo (by rw [l5]; rfl) ?_
        obtain ⟨d0, d1, d2, d3, d4, rfl⟩ := five (ds := ds) (by omega) (by omega)
        have key := key_arrow kt d0 d1 d2 d3 d4
        cases hda with
        | @cons y0 _ _ _ q0 hda =>
        cases hda with
        | @cons y1 _ _ _ q1 hda =>
        cases hda with
        | @cons y2 _ _ _ q2 hda =>
        cases hda with
        | @cons y3 _ _ _ q3 hda =>
        cases hda with
        | @cons y4 _ _ _ q4 hda =>
        cases hda
        have sA := sm_all sm
        have s0 : smB d0 = true := sm_at (i := 0) sA rfl
        have s1 : smB d1 = true := sm_at (i := 1) sA rfl
        have s2 : smB d2 = true := sm_at (i := 2) sA rfl
        have s3 : smB d3 = true := sm_at (i := 3) sA rfl
        have s4 : smB d4 = true := sm_at (i := 4) sA rfl
        have bad : ∀ H', Same H H' → arrowD kt (.tuple [d0, d1, d2, d3, d4]) = false → Q (.bl false) H' := fun H' S z => by
          have q := k H' S
          rw [z] at q
          exact q
        refine ⟨_, rfl, b, _, _, _, rfl, rfl, SqT.of e, rfl, _, rfl, _, _, rfl, rfl, y0, d0, some 0, some (kt.pl - 1), rfl, q0, _, rfl, ?_⟩
        rw [whole_bet]
        rcases bool_ft (betD 0 (kt.pl - 1) d0) with b0 | b0
        · exact iteYes (by rw [b0]; rfl) (bad H (Same.refl _) (by rw [key, b0]; rfl))
        refine iteNo (by rw [b0]; rfl) ?_
        refine ⟨_, rfl, b, _, _, _, rfl, rfl, SqT.of e, rfl, _, rfl, d1, kl, kys, _, q1, rfl, hkl, hkd, deeds_str hk.dd, _, rfl, ?_⟩
        rcases bool_ft (inD (kt.dd.map (itemD 0)) d1) with b1 | b1
        · exact iteYes (by rw [b1]; rfl) (iteYes rfl (bad H (Same.refl _) (by rw [key, b1, Bool.false_and, Bool.and_false])))
        refine iteNo (by rw [b1]; rfl) ?_
        obtain ⟨x1, rfl⟩ := isStr_of b1
        refine ⟨_, rfl, b, _, _, _, rfl, rfl, SqT.of e, rfl, y1, _, "str", rfl, by decide, q1, _, rfl, iteNo rfl ?_⟩
        refine ⟨_, rfl, b, _, _, _, rfl, rfl, SqT.of e, rfl, _, rfl, _, _, rfl, rfl, y2, d2, some 0, some (kt.pl - 1), rfl, q2, _, rfl, ?_⟩
        rw [whole_bet]
        rcases bool_ft (betD 0 (kt.pl - 1) d2) with b2 | b2
        · exact iteYes (by rw [b2]; rfl) (bad H (Same.refl _) (by rw [key, b0, b1, b2]; rfl))
        refine iteNo (by rw [b2]; rfl) ?_
        refine ⟨_, rfl, b, _, _, _, rfl, rfl, SqT.of e, rfl, y3, d3, "tuple", rfl, by decide, q3, _, rfl, ?_⟩
        have noT : isTupD d3 = false → Q (.bl false) H := fun z => bad H (Same.refl _) (by rw [key, b0, b1, b2, z]; rfl)
        cases q3 with
        | @tup c zs es e3 hz =>
          refine iteNo rfl ?_
          refine ⟨_, rfl, b, _, _, _, rfl, rfl, SqT.of e, rfl, c, zs, rfl, .inr (SqT.of e3), _, rfl, rfl, _, rfl, ?_⟩
          rw [hz.len, ne_int]
          have hlen : lenIs kt.n (.tuple es) = decide ((es.length : Int) = (kt.n : Int)) := decide_eq_decide.mpr (by
            show es.length = kt.n ↔ _
            omega)
          rw [← hlen]
          rcases bool_ft (lenIs kt.n (.tuple es)) with b3 | b3
          · exact iteYes (by rw [b3]; rfl) (iteYes rfl (bad H (Same.refl _) (by rw [key, b0, b1, b2, b3]; rfl)))
          refine iteNo (by rw [b3]; rfl) ?_
          refine ⟨_, rfl, b, _, _, _, rfl, rfl, SqT.of e, rfl, c, rfl, ⟨_, SqT.of e3⟩, fun D nD => ?_⟩
          refine lc_tup (K := K) (a := c) (xs := zs) (fun i H2 => Odds H D ((es.take i).all (formD kt.n)) i H2) (Odds.start nD) (fun i H2 _ M => SqT.of (M.1 _ _ e3)) ?_ ?_
          · rintro i x H2 hx M
            obtain ⟨d', hd', hq⟩ := DqAll.at hz hx
            have hi2 : i < es.length := (List.getElem?_eq_some_iff.mp hd').1
            have := sm_len s3
            refine ⟨rfl, _, rfl, _, rfl, x, d', kt.n, rfl, Dq.same M.1 _ _ hq, sm_at (sm_all s3) hd', fun H3 S3 => ⟨_, rfl, ?_⟩⟩
            rw [all_step hd']
            rcases bool_ft (formD kt.n d') with hw | hw
            · refine iteYes (by rw [hw]; rfl) ?_
              rw [hw, Bool.and_false]
              exact ⟨_, rfl, M.put nD S3 _ (by omega)⟩
            · refine iteNo (by rw [hw]; rfl) ?_
              rw [hw, Bool.and_true]
              exact M.skip S3
          · rintro H2 ⟨S2, ys, hy, hb, _⟩
            rw [hz.len, List.take_length] at hb
            refine ⟨(by show 0 ≤ sizeLine; decide), fun p np => ?_⟩
            have S3 := same_new (o := .lst []) np
            have S23 := S2.trans S3
            refine ⟨D, p, ys, rfl, rfl, S3 _ _ hy, upd_same, _, rfl, ?_⟩
            have hall : allD (formD kt.n) (.tuple es) = ys.isEmpty := hb.symm
            rcases bool_ft (ys.isEmpty) with b4 | b4
            · exact iteYes (by rw [b4]; rfl) (bad _ S23 (by rw [key, b0, b1, b2, b3, hall, b4]; rfl))
            refine iteNo (by rw [b4]; rfl) ?_
            revert S23
            generalize upd H2 p (.lst []) = H3
            intro S23
            refine ⟨_, rfl, b, _, _, _, rfl, rfl, SqT.of (S23 _ _ e), rfl, y4, d4, "tuple", rfl, by decide, Dq.same S23 _ _ q4, _, rfl, ?_⟩
            have key2 : arrowD kt (.tuple [d0, .str x1, d2, .tuple es, d4]) = marksD kt d4 := by
              rw [key, b0, b1, b2, b3, hall, b4]
              rfl
            have kM : ∀ H', Same H3 H' → Q (.bl (marksD kt d4)) H' := fun H' S => by
              have q := k H' (S23.trans S)
              rw [key2] at q
              exact q
            have noM : isTupD d4 = false → Q (.bl false) H3 := fun z => by
              have q := kM H3 (Same.refl _)
              have e : marksD kt d4 = false := by
                cases d4 with
                | tuple _ => cases z
                | _ => rfl
              rw [e] at q
              exact q
            cases q4 with
            | @tup m ms fs e4 hm =>
              refine iteNo rfl ?_
              refine ⟨_, rfl, b, _, _, _, rfl, rfl, SqT.of (S23 _ _ e), rfl, m, ms, rfl, .inr (SqT.of (S23 _ _ e4)), _, rfl, rfl, _, rfl, ?_⟩
              rw [hm.len, ne_int]
              have tD : tupD kt.lo kt.lo (.tuple fs) = decide ((fs.length : Int) = kt.lo) := by
                show (decide (kt.lo ≤ (fs.length : Int)) && decide ((fs.length : Int) ≤ kt.lo)) = _
                by_cases z : (fs.length : Int) = kt.lo
                · rw [decide_eq_true z, decide_eq_true (by omega), decide_eq_true (by omega)]
                  rfl
                · rw [decide_eq_false z]
                  by_cases z2 : kt.lo ≤ (fs.length : Int)
                  · rw [decide_eq_true z2, decide_eq_false (by omega)]
                    rfl
                  · rw [decide_eq_false z2]
                    rfl
              rw [← tD]
              rcases bool_ft (tupD kt.lo kt.lo (.tuple fs)) with b5 | b5
              · refine iteYes (by rw [b5]; rfl) ?_
                have q := kM H3 (Same.refl _)
                have e : marksD kt (.tuple fs) = false := by simp only [marksD, b5, Bool.false_and]
                rw [e] at q
                exact q
              refine iteNo (by rw [b5]; rfl) ?_
              refine ⟨_, rfl, b, _, _, _, rfl, rfl, SqT.of (S23 _ _ e), rfl, m, rfl, ⟨_, SqT.of (S23 _ _ e4)⟩, fun B nB => ?_⟩
              refine lc_tup (K := K) (a := m) (xs := ms) (fun i H4 => Odds H3 B ((fs.take i).all markD) i H4) (Odds.start nB) (fun i H4 _ M => SqT.of (M.1 _ _ (S23 _ _ e4))) ?_ ?_
              · rintro i x H4 hx M
                obtain ⟨d', hd', hq⟩ := DqAll.at hm hx
                have hi2 : i < fs.length := (List.getElem?_eq_some_iff.mp hd').1
                have := sm_len s4
                have S4 := S23.trans M.1
                rw [all_step hd']
                have mk : markD d' = (letD d' || isStrD "" d') := rfl
                refine ⟨rfl, _, rfl, d', "", Dq.same S4 _ _ hq, rfl, _, rfl, ?_⟩
                rcases bool_ft (isStrD "" d') with b6 | b6
                · refine iteYes (by rw [b6]; rfl) ?_
                  refine ⟨_, rfl, x, d', rfl, Dq.same S4 _ _ hq, sm_at (sm_all s4) hd', fun H5 S5 => ⟨_, rfl, ?_⟩⟩
                  rcases bool_ft (letD d') with b7 | b7
                  · refine iteYes (by rw [b7]; rfl) ?_
                    rw [mk, b6, b7, Bool.or_false, Bool.and_false]
                    exact ⟨_, rfl, M.put nB S5 _ (by omega)⟩
                  · refine iteNo (by rw [b7]; rfl) ?_
                    rw [mk, b7, Bool.true_or, Bool.and_true]
                    exact M.skip S5
                · refine iteNo (by rw [b6]; rfl) ?_
                  refine iteNo rfl ?_
                  rw [mk, b6, Bool.or_true, Bool.and_true]
                  exact M.skip (Same.refl _)
              · rintro H4 ⟨S4, ys4, hy4, hb4, _⟩
                rw [hm.len, List.take_length] at hb4
                refine ⟨(by show 0 ≤ sizeLine; decide), fun p4 np4 => ?_⟩
                have S5 := same_new (o := .lst []) np4
                refine ⟨B, p4, ys4, rfl, rfl, S5 _ _ hy4, upd_same, ?_⟩
                have q := kM _ (S4.trans S5)
                have e : marksD kt (.tuple fs) = ys4.isEmpty := by
                  rw [hb4]
                  simp only [marksD, b5, Bool.true_and]
                  rfl
                rw [e] at q
                exact q
            | non => exact iteYes rfl (iteYes rfl (noM rfl))
            | bl _ => exact iteYes rfl (iteYes rfl (noM rfl))
            | int _ => exact iteYes rfl (iteYes rfl (noM rfl))
            | str _ => exact iteYes rfl (iteYes rfl (noM rfl))
            | lst _ _ => exact iteYes rfl (iteYes rfl (noM rfl))
            | dct0 _ => exact iteYes rfl (iteYes rfl (noM rfl))
            | dct1 _ => exact iteYes rfl (iteYes rfl (noM rfl))
        | non => exact iteYes rfl (iteYes rfl (noT rfl))
        | bl _ => exact iteYes rfl (iteYes rfl (noT rfl))
        | int _ => exact iteYes rfl (iteYes rfl (noT rfl))
        | str _ => exact iteYes rfl (iteYes rfl (noT rfl))
        | lst _ _ => exact iteYes rfl (iteYes rfl (noT rfl))
        | dct0 _ => exact iteYes rfl (iteYes rfl (noT rfl))
        | dct1 _ => exact iteYes rfl (iteYes rfl (noT rfl))
      · have z : (!decide ((ds.length : Int) = 5)) = true := by
          rw [decide_eq_false fun z => l5 (by omega)]
          rfl
        refine iteYes z (iteYes rfl ?_)
        have e : arrowD kt (.tuple ds) = false := by simp only [arrowD, not_five l5, Bool.false_and]
        rw [e] at q0
        exact q0
    | non => exact iteYes rfl (iteYes rfl q0)
    | bl _ => exact iteYes rfl (iteYes rfl q0)
    | int _ => exact iteYes rfl (iteYes rfl q0)
    | str _ => exact iteYes rfl (iteYes rfl q0)
    | lst _ _ => exact iteYes rfl (iteYes rfl q0)
    | dct0 _ => exact iteYes rfl (iteYes rfl q0)
    | dct1 _ => exact iteYes rfl (iteYes rfl q0)
end
end KL
set_option Elab.async false
set_option linter.all false
set_option maxRecDepth 100000
set_option maxHeartbeats 2000000
namespace KL
open PySem L2 PySem.KX PySem.Spec PyProof.Rows
section
variable {prog : Program} {w : World} {A : Around} {E : Value → Shared → Prop} {s : Shared} {z TI TO i1 i2 l1 l2 : Addr} {k : Nat} {xs ys : Array Value} {x y a b : Value}
/-- a zip of a tuple and a list, as it stands -/
structure MixAt (h : Heap) (z TI TO i1 i2 l1 l2 : Addr) (f : Value) (k : Nat) (a b : Value) : Prop where
  zp : IsZip h z TI TO f
  ti : IsPair h TI (.ref i1) (.ref i2)
  to : IsPair h TO a b
  t1 : h.IsTupleIter i1 l1 k
  t2 : h.IsListIter i2 l2 k
theorem mix_item {Q : Option Value → Shared → Prop} (D : ZipApart z TI TO i1 i2 l1 l2) (M : MixAt s.heap z TI TO i1 i2 l1 l2 .none k a b) (e1 : s.heap.IsTuple l1 xs) (e2 : s.heap.IsList l2 ys) (hx : xs[k]? = some x) (hy : ys[k]? = some y)
    (q : ∀ h', MixAt h' z TI TO i1 i2 l1 l2 (rawInt s.heap.objs.size) (k + 1) x y → IsPair h' s.heap.objs.size x y → h'.objs.size = s.heap.objs.size + 1 → (∀ c o, c ≠ z → c ≠ TO → c ≠ i1 → c ≠ i2 → s.heap.get? c = some o → h'.get? c = some o) → Q (some (.ref s.heap.objs.size)) { s with heap := h' }) :
    wpAny (model prog w) A (pyNext (.ref z)) Q E s := by
  obtain ⟨hz, hTI, hTO, t1, t2⟩ := M
  have ty : s.TypeIs (.ref z) "zip" := ⟨_, hz, rfl⟩
  refine wpAny_bind (wpAny_attempt (wpAny_callSpecial?_slot (name := Str.ofString "__next__") ty F.slot_zip_next (wpAny_call_entry F.slot_zip_next ty F.entry_zip_next (?_ : wpAny _ _ (Builtin.«zip.__next__» ⟨[.ref z], []⟩) (fun fin s' => ∃ v, fin = .done (.ret v) ∧ _) _ s) (F.args_zip_next_1 _))))
  refine (show wpAny _ _ (field (.ref z) 2 >>= _) _ _ _ from wpAny_bind (wpAny_field hz rfl (x := .bool false) rfl (show wpAny _ _ (field (.ref z) 3 >>= _) _ _ _ from wpAny_bind (wpAny_field hz rfl (x := .ref TI) rfl (wpAny_bind (wpAny_seqItems hTI rfl (show wpAny _ _ (Builtin.SmallTypes.ownedTupleIsFree (.ref z) >>= _) _ _ _ from wpAny_bind ?_)))))))
  unfold Builtin.SmallTypes.ownedTupleIsFree
  refine wpAny_bind (wpAny_field hz rfl (x := .none) rfl (wpAny_pure ?_))
  rw [if_pos rfl]
  refine wpAny_bind (wpAny_rule (wpAny_bind (wpAny_field hz rfl (x := .ref TO) rfl (wpAny_bind (wpAny_setField_rec hz (by simp) fun g1 z1 m1 => wpAny_bind ?_)))))
  have z1 : IsZip g1 z TI TO .ellipsis := z1
  rw [List.zipIdx_cons, List.zipIdx_cons, List.zipIdx_nil, List.forIn_cons]
  refine wpAny_bind (wpAny_bind (wpAny_onRaise (show wpAny _ _ (Builtin.SmallTypes.nextOf (.ref i1) >>= _) _ _ _ from wpAny_bind (RZ.nextOf_tuple_item (t1.extBut m1.extBut D.i1z) (e1.extBut m1.extBut D.l1z) hx fun g2 t12 m2 => wpAny_pure ?_))))
  have o2 : IsPair g2 TO a b := m2.extBut _ _ D.TOi1 (m1.extBut _ _ D.TOz hTO)
  refine wpAny_bind (wpAny_seqItems o2 rfl (wpAny_bind (wpAny_updateSeq_pair o2 fun g3 o3 m3 => wpAny_bind (wpAny_letGo (wpAny_pure ?_)))))
  have o3 : IsPair g3 TO x b := o3
  simp only [List.forIn_cons, List.forIn_nil]
  refine wpAny_bind (wpAny_bind (wpAny_onRaise (show wpAny _ _ (Builtin.SmallTypes.nextOf (.ref i2) >>= _) _ _ _ from wpAny_bind (wpAny_nextOf_list_item (((t2.extBut m1.extBut D.i2z).extBut m2.extBut D.i12.symm).extBut m3.extBut D.TOi2.symm) (((e2.extBut m1.extBut D.l2z).extBut m2.extBut D.l2i1).extBut m3.extBut D.l2TO) hy fun g4 t24 m4 => wpAny_pure ?_))))
  have o4 : IsPair g4 TO x b := m4.extBut _ _ D.TOi2 o3
  refine wpAny_bind (wpAny_seqItems o4 rfl (wpAny_bind (wpAny_updateSeq_pair o4 fun g5 o5 m5 => wpAny_bind (wpAny_letGo (wpAny_pure (wpAny_pure ?_))))))
  have o5 : IsPair g5 TO x y := o5
  have n5 : g5.objs.size = s.heap.objs.size := m5.1.trans (m4.1.trans (m3.1.trans (m2.1.trans m1.1)))
  have z5 : IsZip g5 z TI TO .ellipsis := m5.extBut _ _ D.TOz.symm (m4.extBut _ _ D.i2z.symm (m3.extBut _ _ D.TOz.symm (m2.extBut _ _ D.i1z.symm z1)))
  have k5 : ∀ c o, c ≠ z → c ≠ TO → c ≠ i1 → c ≠ i2 → s.heap.get? c = some o → g5.get? c = some o := fun c o d1 d2 d3 d4 e => m5.extBut _ _ d2 (m4.extBut _ _ d4 (m3.extBut _ _ d2 (m2.extBut _ _ d3 (m1.extBut _ _ d1 e))))
  have t15 : g5.IsTupleIter i1 l1 (k + 1) := ((t12.extBut m3.extBut D.TOi1.symm).extBut m4.extBut D.i12).extBut m5.extBut D.TOi1.symm
  have t25 : g5.IsListIter i2 l2 (k + 1) := t24.extBut m5.extBut D.TOi2.symm
  refine wpAny_bind (wpAny_seqItems o5 rfl (wpAny_bind (wpAny_newTuple (show wpAny _ _ (Builtin.SmallTypes.ownedTupleHandOut (.ref z) (.ref g5.objs.size) >>= _) _ _ _ from wpAny_bind ?_))))
  unfold Builtin.SmallTypes.ownedTupleHandOut
  have z6 : IsZip (g5.push { cls := .type "tuple", data := .seq #[x, y] }) z TI TO .ellipsis := Heap.get?_push_of_some _ z5
  refine wpAny_bind (wpAny_setField_rec z6 (by simp) fun g7 z7 m7 => wpAny_setField_rec (show IsZip g7 z TI TO (rawInt g5.objs.size) from z7) (by simp) fun g8 z8 m8 => wpAny_pure ⟨_, rfl, wpAny_pure ?_⟩)
  have up : ∀ c o, c ≠ z → g5.get? c = some o → g8.get? c = some o := fun c o d1 e => m8.extBut _ _ d1 (m7.extBut _ _ d1 (Heap.get?_push_of_some _ e))
  have zl : g5.objs.size ≠ z := (Nat.ne_of_lt (Heap.lt_size z5)).symm
  have T8 : IsPair g8 g5.objs.size x y := m8.extBut _ _ zl (m7.extBut _ _ zl (Heap.get?_push_size _ rfl))
  have n8 : g8.objs.size = g5.objs.size + 1 := m8.1.trans (m7.1.trans (Heap.size_push ..))
  have z8 : IsZip g8 z TI TO (rawInt g5.objs.size) := z8
  rw [n5] at z8 T8 n8
  show Q (some (.ref g5.objs.size)) _
  rw [n5]
  exact q g8 ⟨z8, up _ _ D.TIz (k5 _ _ D.TIz D.TITO D.TIi1 D.TIi2 hTI), up _ _ D.TOz o5, t15.at fun o e => up _ o D.i1z e, t25.at fun o e => up _ o D.i2z e⟩ T8 n8 fun c o d1 d2 d3 d4 e => up c o d1 (k5 c o d1 d2 d3 d4 e)
theorem mix_end {Q : Option Value → Shared → Prop} (hh : A.handled = none) (D : ZipApart z TI TO i1 i2 l1 l2) (M : MixAt s.heap z TI TO i1 i2 l1 l2 .none k a b) (e1 : s.heap.IsTuple l1 xs) (hx : xs[k]? = none)
    (q : ∀ h', (∀ c o, c ≠ z → c ≠ TO → c ≠ i1 → c ≠ i2 → s.heap.get? c = some o → h'.get? c = some o) → Q none { s with heap := h' }) : wpAny (model prog w) A (pyNext (.ref z)) Q E s := by
  obtain ⟨hz, hTI, hTO, t1, t2⟩ := M
  have ty : s.TypeIs (.ref z) "zip" := ⟨_, hz, rfl⟩
  refine wpAny_bind (wpAny_attempt (wpAny_callSpecial?_slot (name := Str.ofString "__next__") ty F.slot_zip_next (wpAny_call_entry F.slot_zip_next ty F.entry_zip_next (?_ : wpAny _ _ (Builtin.«zip.__next__» ⟨[.ref z], []⟩) _ _ s) (F.args_zip_next_1 _))))
  refine (show wpAny _ _ (field (.ref z) 2 >>= _) _ _ _ from wpAny_bind (wpAny_field hz rfl (x := .bool false) rfl (show wpAny _ _ (field (.ref z) 3 >>= _) _ _ _ from wpAny_bind (wpAny_field hz rfl (x := .ref TI) rfl (wpAny_bind (wpAny_seqItems hTI rfl (show wpAny _ _ (Builtin.SmallTypes.ownedTupleIsFree (.ref z) >>= _) _ _ _ from wpAny_bind ?_)))))))
  unfold Builtin.SmallTypes.ownedTupleIsFree
  refine wpAny_bind (wpAny_field hz rfl (x := .none) rfl (wpAny_pure ?_))
  rw [if_pos rfl]
  refine wpAny_bind (wpAny_rule (wpAny_bind (wpAny_field hz rfl (x := .ref TO) rfl (wpAny_bind (wpAny_setField_rec hz (by simp) fun g1 z1 m1 => wpAny_bind ?_)))))
  have z1 : IsZip g1 z TI TO .ellipsis := z1
  rw [List.zipIdx_cons, List.zipIdx_cons, List.zipIdx_nil, List.forIn_cons]
  refine wpAny_bind (wpAny_bind (wpAny_onRaise (show wpAny _ _ (Builtin.SmallTypes.nextOf (.ref i1) >>= _) _ _ _ from wpAny_bind (RZ.nextOf_tuple_end hh (t1.extBut m1.extBut D.i1z) (e1.extBut m1.extBut D.l1z) hx fun g2 e m2 he => ?_))))
  obtain ⟨oe, ho, hc⟩ := he
  have z2 : IsZip g2 z TI TO .ellipsis := m2 _ _ D.i1z.symm z1
  have ez : e ≠ z := fun x => by
    rw [x, z2] at ho
    cases ho
    simp at hc
  refine wpAny_setField_rec z2 (by simp) fun g3 _ m3 => wpAny_bind (wpAny_isInstance (T := "StopIteration") (b := true) ⟨oe, m3.extBut _ _ ez ho, hc⟩ isSubtype_stop (wpAny_pure (q g3 fun c o d1 _ d3 _ h => m3.extBut _ _ d1 (m2 _ _ d3 (m1.extBut _ _ d1 h)))))
end
end KL
set_option Elab.async false
set_option linter.all false
set_option maxRecDepth 100000
set_option maxHeartbeats 2000000
namespace KL
open PySem L2 PySem.KX PySem.Spec PyProof.Rows
abbrev mixH (h : Heap) (l1 l2 : Addr) : Heap :=
  ((((h.push { cls := .type "tuple_iterator", data := .fields #[.ref l1, .int 0 0] }).push { cls := .type "list_iterator", data := .fields #[.ref l2, .int 0 0] }).push { cls := .type "tuple", data := .seq #[.ref h.objs.size, .ref (h.objs.size + 1)] }).push
    { cls := .type "tuple", data := .seq #[.none, .none] }).push { cls := .type "zip", data := .fields #[.none, .bool false, .bool false, .ref (h.objs.size + 2), .ref (h.objs.size + 3)] }
theorem mix_meets (l1 l2 : Addr) (xs ys : Array Value) :
    Meets (Builtin.«zip.__new__» ⟨[.type "zip", .ref l1, .ref l2], []⟩) (fun _ R s => s.heap.IsTuple l1 xs ∧ s.heap.IsList l2 ys ∧ R (.ok (.ret (.ref (s.heap.objs.size + 4)))) { s with heap := mixH s.heap l1 l2 }) :=
  .of_wp fun prog w A R s h => by
    obtain ⟨hp, g, d, tk, os⟩ := s
    obtain ⟨e1, e2, h⟩ := h
    have hsub := sub_zip
    have f1 : Heap.IsTuple (Shared.heap ⟨hp, g, d, tk, os⟩) l1 xs := e1
    have f2 : Heap.IsList (Shared.heap ⟨hp.push { cls := .type "tuple_iterator", data := .fields #[.ref l1, .int 0 0] }, g, d, tk, os⟩) l2 ys := Heap.IsList.push e2 _
    wp_walk using wpAny_pyIter_tuple f1, wpAny_pyIter_list f2
    refine ⟨_, rfl, ?_⟩
    simp only [Heap.size_push] at h ⊢
    exact h
section
variable {prog : Program} {w : World} {A : Around} {E : Value → Shared → Prop} {s : Shared}
theorem mix_call {l1 l2 : Addr} {xs ys : Array Value} {Q : Value → Shared → Prop} (e1 : s.heap.IsTuple l1 xs) (e2 : s.heap.IsList l2 ys)
    (q : MixAt (mixH s.heap l1 l2) (s.heap.objs.size + 4) (s.heap.objs.size + 2) (s.heap.objs.size + 3) s.heap.objs.size (s.heap.objs.size + 1) l1 l2 .none 0 .none .none → (∀ c o, s.heap.get? c = some o → (mixH s.heap l1 l2).get? c = some o) → Q (.ref (s.heap.objs.size + 4)) { s with heap := mixH s.heap l1 l2 }) :
    wpAny (model prog w) A (call (.type "zip") [.ref l1, .ref l2]) Q E s := by
  have up : ∀ c o, s.heap.get? c = some o → (mixH s.heap l1 l2).get? c = some o := fun c o x => Heap.get?_push_of_some _ (Heap.get?_push_of_some _ (Heap.get?_push_of_some _ (Heap.get?_push_of_some _ (Heap.get?_push_of_some _ x))))
  have M : MixAt (mixH s.heap l1 l2) (s.heap.objs.size + 4) (s.heap.objs.size + 2) (s.heap.objs.size + 3) s.heap.objs.size (s.heap.objs.size + 1) l1 l2 .none 0 .none .none := by
    refine ⟨?_, ?_, ?_, ⟨{ cls := .type "tuple_iterator", data := .fields #[.ref l1, .int 0 0] }, ?_, rfl, rfl⟩, ⟨{ cls := .type "list_iterator", data := .fields #[.ref l2, .int 0 0] }, ?_, rfl, rfl⟩⟩ <;> heap_get
  refine callType_new F.called_zip (by decide) (F.typeCall_zip_2 _ _) (F.newCall_zip_2 _ _) (fun o => F.args_object_init_3 o _ _) F.entry_zip_new (mix_meets l1 l2 xs ys) ⟨e1, e2, ?_⟩
  exact ⟨⟨_, M.zp, rfl⟩, q M up⟩
end
/-- a tuple and a list of marks, item by item -/
def ItzM (K : PySem.W.Frag) (a b : Addr) : It :=
  ⟨fun i H => ∃ (xs ys : List V) (x y : V), SqT K H a xs ∧ SqL K H b ys ∧ xs[i]? = some x ∧ ys[i]? = some y,
    fun i H v H' => ∃ T x y, v = .ref T ∧ H T = none ∧ H' = upd H T (.tup [x, y]) ∧ (∀ xs, SqT K H a xs → xs[i]? = some x) ∧ ∀ ys, SqL K H b ys → ys[i]? = some y,
    fun i H => ∃ xs : List V, SqT K H a xs ∧ xs.length ≤ i⟩
theorem mix_turn {P : Program} {w : World} {K : PySem.W.Frag} {elts : List Expr} {kk : Nat} {tpos : Pos} {a b z TI TO i1 i2 : Addr} (D : ZipApart z TI TO i1 i2 a b) :
    Turn P w K (.Tuple elts kk tpos) (ItzM K a b) [z, TI, TO, i1, i2] z (fun i h => ∃ x y, MixAt h z TI TO i1 i2 a b .none i x y) where
  mem := by simp
  obj := fun i h ⟨x, y, M⟩ c hc => by
    rcases (show c = z ∨ c = TI ∨ c = TO ∨ c = i1 ∨ c = i2 by simpa using hc) with rfl | rfl | rfl | rfl | rfl
    · exact ⟨_, M.zp, fun v q => nomatch q⟩
    · exact ⟨_, M.ti, fun v q => nomatch q⟩
    · exact ⟨_, M.to, fun v q => nomatch q⟩
    · obtain ⟨o, e, _, d⟩ := M.t1
      exact ⟨o, e, fun v q => by rw [d] at q; cases q⟩
    · obtain ⟨o, e, _, d⟩ := M.t2
      exact ⟨o, e, fun v q => by rw [d] at q; cases q⟩
  keep := fun i h h' ⟨x, y, M⟩ k => ⟨x, y, k z (by simp) _ M.zp, k TI (by simp) _ M.ti, k TO (by simp) _ M.to, M.t1.at fun o q => k i1 (by simp) o q, M.t2.at fun o q => k i2 (by simp) o q⟩
  item := by
    rintro X rfl rfl rfl hc i pins s σ H E I hf ⟨x0, y0, M⟩ ⟨xs, ys, x, y, hqx, hqy, hx, hy⟩
    obtain ⟨its, rv, p, _⟩ := I.tuple hqx
    obtain ⟨its2, rv2, p2, _⟩ := I.list hqy
    obtain ⟨u, hu, ru⟩ := rv.get hx
    obtain ⟨u2, hu2, ru2⟩ := rv2.get hy
    have zl : z < s.heap.objs.size := Heap.lt_size M.zp
    refine mix_item D M p p2.isList (x := u) (y := u2) (by simpa using hu) (by simpa using hu2) fun h1 M1 T1 n1 k1 => ⟨_, rfl, wpAny_letOwnedTupleGo_zip (s := { s with heap := h1 }) M1.zp fun h2 z2 sb => ?_⟩
    have T2 : h2.get? s.heap.objs.size = some { cls := .type "tuple", data := .seq #[u, u2] } := (sb.2 _ (Nat.ne_of_gt zl)).trans T1
    have ob : ObjOk X.prog X.w (upd H s.heap.objs.size (.tup [x, y])) h2 s.heap.objs.size (.tup [x, y]) := ⟨by show 2 ≤ sizeLine; decide, [u, u2], .cons ru (.cons ru2 .nil), ⟨_, T2, rfl, _, rfl⟩⟩
    have I1 : Inv X pins σ (upd H s.heap.objs.size (.tup [x, y])) { s with heap := h2 } :=
      I.turnedNew (t' := s.toks) (ch := [z, TI, TO, i1, i2]) (fun c o hb q => by
        have hb : c ≠ z ∧ c ≠ TI ∧ c ≠ TO ∧ c ≠ i1 ∧ c ≠ i2 := by simpa using hb
        exact (sb.2 c hb.1).trans (k1 c o hb.1 hb.2.2.1 hb.2.2.2.1 hb.2.2.2.2 q)) hf (Nat.le_refl _) ob
    refine ⟨.ref s.heap.objs.size, _, I1, rfl, ⟨_, x, y, rfl, I.hok.fresh (Nat.le_refl _), rfl, fun l hl => by rw [I.tuple_inj hl hqx]; exact hx, fun l hl => by rw [I.list_inj hl hqy]; exact hy⟩, ⟨u, u2, z2, (sb.2 _ D.TIz).trans M1.ti, (sb.2 _ D.TOz).trans M1.to, M1.t1.at fun o q => (sb.2 _ D.i1z).trans q, M1.t2.at fun o q => (sb.2 _ D.i2z).trans q⟩, fun c hcm => ?_⟩
    obtain ⟨_, d1, _⟩ := M.t1
    obtain ⟨_, d2, _⟩ := M.t2
    have lt : c < s.heap.objs.size := by
      rcases (show c = z ∨ c = TI ∨ c = TO ∨ c = i1 ∨ c = i2 by simpa using hcm) with rfl | rfl | rfl | rfl | rfl
      · exact zl
      · exact Heap.lt_size M.ti
      · exact Heap.lt_size M.to
      · exact Heap.lt_size d1
      · exact Heap.lt_size d2
    rw [upd_ne (Nat.ne_of_lt lt)]
    exact (hf c hcm).1
  done := by
    rintro X rfl rfl rfl hc i pins s σ H E I hf ⟨x0, y0, M⟩ ⟨xs, hqx, he⟩
    obtain ⟨its, rv, p, _⟩ := I.tuple hqx
    have lv := rv.length
    refine mix_end (I.ok.hd hc) D M p (by simp; omega) fun h1 k1 => ⟨rfl, I.turnedL (t' := s.toks) (ch := [z, TI, TO, i1, i2]) (fun c o hb q => ?_) hf⟩
    have hb : c ≠ z ∧ c ≠ TI ∧ c ≠ TO ∧ c ≠ i1 ∧ c ≠ i2 := by simpa using hb
    exact k1 c o hb.1 hb.2.2.1 hb.2.2.2.1 hb.2.2.2.2 q
  self := fun A i s Q E ⟨_, _, M⟩ h => wpAny_pyIter_zip M.zp h
def iZipM (K : PySem.W.Frag) (ta : TA) : TI := fun σ H R => ta σ H fun vs H1 => ∃ a b xs ys, vs = [.ref a, .ref b] ∧ SqT K H1 a xs ∧ SqL K H1 b ys ∧ R (ItzM K a b) H1
theorem pi_zipM {X : Cx} {e e2 : Expr} {ta : TA} {p pos tpos : Pos} {elts : List Expr} {kk : Nat} (hg : Gl X "zip") (hm : X.mg "zip" = none) (ha : PA X [e, e2] ta)
    (st : starEach [e, e2] X.env = (false, eval e X.env) :: starEach [e2] X.env := by rfl) (pl : (backTo pos (starEach [e2] X.env)).any (·.1) = false := by rfl) :
    PI X (.Tuple elts kk tpos) (.Call (.Name "zip" p) [e, e2] [] pos) (iZipM X.K ta) := by
  refine ⟨fun pins s σ H R I h => Call_ (ld_blt I hg hm PyProof.Rows.boot_zip (PyProof.Rows.callWith_type1 (thn (ha.run pos pins s σ H _ I h) fun us s1 ⟨vs, H1, I1, r1, a, b, xs, ys, ev, qa, qb, q⟩ => ?_) st pl))⟩
  subst ev
  obtain ⟨u1, u2, rfl, r1, r2⟩ := vals2 r1
  cases (show u1 = Value.ref a from r1)
  cases (show u2 = Value.ref b from r2)
  obtain ⟨its, rv, p1, _⟩ := I1.tuple qa
  obtain ⟨its2, rv2, p2, _⟩ := I1.list qb
  obtain ⟨o1, ho1, _⟩ := id p1
  refine mix_call (show s1.heap.IsTuple a its.toArray from p1) p2.isList fun M up => wpAny_pyIter_zip M.zp ?_
  refine ⟨s1.heap.objs.size + 4, [s1.heap.objs.size + 4, s1.heap.objs.size + 2, s1.heap.objs.size + 3, s1.heap.objs.size, s1.heap.objs.size + 1], _, _, H1, rfl, I1.kept (t' := s1.toks) up, mix_turn (PySem.W.ktu_apart s1.heap.objs.size a b (Heap.lt_size ho1) p2.lt), ⟨_, _, M⟩, fun c hcm => ?_, q⟩
  have le : s1.heap.objs.size ≤ c := by
    rcases (show c = s1.heap.objs.size + 4 ∨ c = s1.heap.objs.size + 2 ∨ c = s1.heap.objs.size + 3 ∨ c = s1.heap.objs.size ∨ c = s1.heap.objs.size + 1 by simpa using hcm) with rfl | rfl | rfl | rfl | rfl <;> omega
  exact I1.fpOk le (I1.hok.fresh le)
end KL
set_option Elab.async false
set_option linter.all false
set_option maxRecDepth 100000
set_option maxHeartbeats 2000000
namespace KL
open PySem L2 PySem.KX PySem.Spec PyProof.Rows
/-- a list that bears what is wrong -/
def OddIs (H : Hp) (ys : List V) : Option PyData → Prop
  | none => ys = []
  | some it => ∃ y, ys = [y] ∧ Dq H y it
def firstOf (f : PyData → Bool) (word : Str) (d : PyData) : Option PyData := if isTupD d = true then (itemsD d).find? (fun x => !f x) else some (.str word)
def spFirst : Sp := fun vs H Q _ => ∃ (v : V) (d : PyData) (word : Str) (g : Addr) (f : PyData → Bool), vs = [v, .str word, .ref g] ∧ Dq H v d ∧ smB d = true ∧ (∀ ds, d = .tuple ds → H g = some (.lst ((ds.map f).map V.bl))) ∧
  ∀ H' q ys, Same H H' → H' q = some (.lst ys) → OddIs H' ys (firstOf f word d) → Q (.ref q) H'
theorem OddIs.same {H H' : Hp} {ys : List V} {o : Option PyData} (h : OddIs H ys o) (S : Same H H') : OddIs H' ys o := by
  cases o with
  | none => exact h
  | some it =>
    obtain ⟨y, e, q⟩ := h
    exact ⟨y, e, Dq.same S _ _ q⟩
theorem find_step {f : PyData → Bool} {ds : List PyData} {i : Nat} {d : PyData} (h : ds[i]? = some d) : (ds.take (i + 1)).find? (fun x => !f x) = ((ds.take i).find? (fun x => !f x)).or (if f d = true then none else some d) := by
  rw [List.take_add_one, h, List.find?_append]
  cases e : f d <;> simp [e]
theorem cut_one (xs : List V) : cutV xs none (some 1) = xs.take 1 := by
  unfold cutV
  rw [HT.sIx_none, show HT.sIx xs.length xs.length (some 1) = min 1 xs.length from HT.sIx_nat xs.length xs.length 1]
  rw [List.drop_zero, Nat.sub_zero]
  cases xs with
  | nil => rfl
  | cons x r => rw [Nat.min_eq_left (by simp)]
/-- what has been found so far -/
def Found (H0 : Hp) (D : Addr) (o : Option PyData) (n : Nat) (H : Hp) : Prop := Same H0 H ∧ ∃ ys, H D = some (.lst ys) ∧ OddIs H0 (ys.take 1) o ∧ ys.length ≤ n
section
variable {P : Program} {w : World} {K : PySem.W.Frag} {mg : Str → Option Value} {base : Heap}
theorem walk_zipM {a b : Addr} {xs ys : List V} (hl : xs.length = ys.length) : Walk (ItzM K a b) xs.length (fun H => SqT K H a xs ∧ SqL K H b ys) (YPair (fun i => xs[i]?) (fun i => ys[i]?)) := by
  refine ⟨fun i _ hi q => ?_, fun _ q => ⟨xs, q.1, Nat.le_refl _⟩, fun i H v H' _ q y => ?_⟩
  · have h2 : i < ys.length := by omega
    exact ⟨xs, ys, xs[i], ys[i], q.1, q.2, by simp [hi], by simp [h2]⟩
  · obtain ⟨T, x, z, h1, h2, h3, h4, h5⟩ := y
    exact ⟨T, x, z, h1, h2, h3, h4 xs q.1, h5 ys q.2⟩
theorem scLFirst : FnScope ["_law_it", "_law_word", "_law_good", "_law_part", "_law_is_good"] ["_law_it", "_law_word", "_law_good"] (defScope lFirst) := ⟨rfl, rfl, rfl, by decide +kernel, rfl, by decide +kernel, by decide +kernel⟩
theorem ok_first {f : Addr} {fd : FuncData} (F : Fun K "_law_first_odd" "_law_first_odd" lFirst f fd) (T : TxtL mg) : FnOk P w K mg base CX0 1 f fd ["_law_it", "_law_word", "_law_good"] spFirst := by
  refine F.ok scLFirst (fun vs H Q E h => ?_) (fun cdv A outer s H vs Q E hr h => ?_)
  · obtain ⟨v, d, word, g, fb, rfl, _⟩ := h
    rfl
  · obtain ⟨v, d, word, g, fb, rfl, hd, sm, hg, k⟩ := h
    refine ⟨_, pss_cons (ps_if (pt_not (pt_val (pe_callB call_isD (by rfl) T.b.isi (by decide +kernel) (pa_cons (pv 0) (pa_cons (pe_bltn (v := .ty "tuple") (by rfl) T.b.tuple (by decide +kernel) rfl) pa_nil))))) (pss_one (ps_ret (pe_lst (pa_cons (pv 1) pa_nil)))) pss_nil)
      (pss_one (ps_ret (pe_slice sl_list (pe_lc (own := [("_law_part", 3), ("_law_is_good", 4)]) (g := gTup K 2 (gCons (gName 3) (gCons (gName 4) gNil))) (tt := tNot (tB (tVar 4))) rfl scLFirst.nd (pi_zipM (by rfl) T.b.zip (pa_cons (pv 0) (pa_cons (pv 2) pa_nil)))
        (blkOk_by (N := ["_law_it", "_law_word", "_law_good", "_law_part", "_law_is_good"]) (sc := defScope lFirst) (by decide +kernel)) (fun _ _ _ _ _ => pg_tup rfl (pgs_cons (pg_name (i := 3) scLFirst.nd rfl (.inl rfl)) (pgs_cons (pg_name (i := 4) scLFirst.nd rfl (.inl rfl)) pgs_nil)))
        (fun _ _ _ _ _ => pts_one (pt_not (pt_val (pv 4)))) (fun _ _ _ _ _ => pv 3)) po_none (po_some pe_int)))), ?_⟩
    have no : isTupD d = false → ∀ q, H q = none → Q (.ref q) (upd H q (.lst [.str word])) := fun z q nq => by
      refine k _ q _ (same_new nq) upd_same ?_
      unfold firstOf
      rw [z]
      exact ⟨_, rfl, .str word⟩
    refine ⟨_, rfl, v, d, "tuple", rfl, by decide, hd, _, rfl, ?_⟩
    cases hd with
    | @tup b xs ds e ha =>
      refine iteNo rfl ?_
      have hg := hg ds rfl
      have hl : xs.length = ((ds.map fb).map V.bl).length := by rw [ha.len, List.length_map, List.length_map]
      refine ⟨_, rfl, _, rfl, b, g, xs, _, rfl, SqT.of e, SqL.of hg, fun D nD => ?_⟩
      refine lc_it (walk_zipM (K := K) (a := b) (b := g) hl) (fun i H2 => Found H D ((ds.take i).find? fun x => !fb x) i H2) ⟨same_new nD, [], upd_same, rfl, Nat.le_refl _⟩ (fun i H2 _ M => ⟨SqT.of (M.1 _ _ e), SqL.of (M.1 _ _ hg)⟩) ?_ ?_
      · rintro i _ H2 _ hi M ⟨Tp, y, z, rfl, nT, rfl, ey, ez⟩
        obtain ⟨d', hd', hq⟩ := DqAll.at ha ey
        have hi2 : i < ds.length := (List.getElem?_eq_some_iff.mp hd').1
        have ez : ((ds.map fb).map V.bl)[i]? = some z := ez
        rw [List.getElem?_map, List.getElem?_map, hd'] at ez
        cases ez
        have S2 := same_new (o := .tup [y, V.bl (fb d')]) nT
        obtain ⟨S0, ys, hy, ho, hn⟩ := M
        have := sm_len sm
        refine ⟨Tp, [y, V.bl (fb d')], rfl, SqT.of upd_same, rfl, y, _, rfl, _, _, rfl, rfl, rfl, _, rfl, _, rfl, ?_⟩
        rcases bool_ft (fb d') with hb | hb
        · refine iteYes (by rw [hb]; rfl) ?_
          refine ⟨_, rfl, ys, S2 _ _ hy, by rw [sizeLine_eq]; omega, fun b o e => ?_, _, upd_same, ?_, by simp; omega⟩
          · have bD : b ≠ D := fun z => by
              rw [z, nD] at e
              cases e
            rw [upd_ne bD]
            exact S2 _ _ (S0 _ _ e)
          · rw [find_step hd', hb]
            cases eo : (ds.take i).find? (fun x => !fb x) with
            | none =>
              rw [eo] at ho
              have hn : ys = [] := by
                cases ys with
                | nil => rfl
                | cons _ _ => cases (show _ = _ from ho)
              rw [hn]
              exact ⟨y, rfl, hq⟩
            | some it =>
              rw [eo] at ho
              obtain ⟨y', e1, q1⟩ := ho
              cases ys with
              | nil => cases e1
              | cons a r => exact ⟨y', e1, q1⟩
        · refine iteNo (by rw [hb]; rfl) ?_
          refine ⟨S0.trans S2, ys, S2 _ _ hy, ?_, Nat.le_succ_of_le hn⟩
          rw [find_step hd', hb]
          show OddIs H (ys.take 1) (((ds.take i).find? _).or none)
          rw [Option.or_none]
          exact ho
      · rintro H2 ⟨S0, ys, hy, ho, _⟩
        rw [ha.len, List.take_length] at ho
        refine ⟨_, rfl, D, ys, rfl, SqL.of hy, fun p np => ?_⟩
        rw [cut_one]
        refine k _ p _ (S0.trans (same_new np)) upd_same ?_
        exact ho.same (S0.trans (same_new np))
    | non => exact iteYes rfl ⟨_, rfl, (by show 1 ≤ sizeLine; decide), no rfl⟩
    | bl _ => exact iteYes rfl ⟨_, rfl, (by show 1 ≤ sizeLine; decide), no rfl⟩
    | int _ => exact iteYes rfl ⟨_, rfl, (by show 1 ≤ sizeLine; decide), no rfl⟩
    | str _ => exact iteYes rfl ⟨_, rfl, (by show 1 ≤ sizeLine; decide), no rfl⟩
    | lst _ _ => exact iteYes rfl ⟨_, rfl, (by show 1 ≤ sizeLine; decide), no rfl⟩
    | dct0 _ => exact iteYes rfl ⟨_, rfl, (by show 1 ≤ sizeLine; decide), no rfl⟩
    | dct1 _ => exact iteYes rfl ⟨_, rfl, (by show 1 ≤ sizeLine; decide), no rfl⟩
end
end KL
set_option Elab.async false
set_option linter.all false
set_option maxRecDepth 100000
set_option maxHeartbeats 2000000
namespace KL
open PySem L2 PySem.KX PySem.Spec PyProof.Rows
def rowD (k : Kit) (d : PyData) : Bool := tupD k.pl k.pl d && allD (formsD k) d
theorem looks_key (k : Kit) (ds : List PyData) (h : tupD k.pe k.pe (.tuple ds) = true) : looksD k (.tuple ds) = ds.all (rowD k) := by
  show (tupD k.pe k.pe (.tuple ds) && (ds.all (tupD k.pl k.pl) && ds.all (allD (formsD k)))) = _
  rw [h, Bool.true_and]
  clear h
  induction ds with
  | nil => rfl
  | cons d ds ih =>
    rw [List.all_cons, List.all_cons, List.all_cons, ← ih]
    show (_ : Bool) = ((tupD k.pl k.pl d && allD (formsD k) d) && _)
    cases tupD k.pl k.pl d <;> cases allD (formsD k) d <;> cases ds.all (tupD k.pl k.pl) <;> rfl
theorem tup_len {n : Int} {ds : List PyData} : tupD n n (.tuple ds) = decide ((ds.length : Int) = n) := by
  show (decide (n ≤ (ds.length : Int)) && decide ((ds.length : Int) ≤ n)) = _
  by_cases z : (ds.length : Int) = n
  · rw [decide_eq_true z, decide_eq_true (by omega), decide_eq_true (by omega)]
    rfl
  · rw [decide_eq_false z]
    by_cases z2 : n ≤ (ds.length : Int)
    · rw [decide_eq_true z2, decide_eq_false (by omega)]
      rfl
    · rw [decide_eq_false z2]
      rfl
def spLooks : Sp := fun vs H Q _ => ∃ (v : V) (d : PyData) (k : Kit), vs = [v, .int k.pe, .int k.pl, .int k.n] ∧ Dq H v d ∧ smB d = true ∧ ∀ H', Same H H' → Q (.bl (looksD k d)) H'
theorem all_false {p : PyData → Bool} {ds : List PyData} {d : PyData} {i : Nat} (h : ds[i]? = some d) (z : p d = false) : ds.all p = false := by
  rw [List.all_eq_false]
  exact ⟨d, List.mem_of_getElem? h, by rw [z]; decide⟩
section
variable {P : Program} {w : World} {K : PySem.W.Frag} {mg : Str → Option Value} {base : Heap}
abbrev nLooks : List Str := ["_law_it", "_law_people", "_law_places", "_law_size", "_law_row", "_law_forms", "_law_x"]
theorem scLLooks : FnScope nLooks ["_law_it", "_law_people", "_law_places", "_law_size"] (defScope lLooks) := ⟨rfl, rfl, rfl, by decide +kernel, rfl, by decide +kernel, by decide +kernel⟩
theorem ok_llooks {f g1 : Addr} {fd gd1 : FuncData} (F : Fun K "_law_are_looks" "_law_are_looks" lLooks f fd) (T : TxtL mg) (G1 : FnOk P w K mg base CX0 3 g1 gd1 ["_law_it", "_law_size"] spLForm) (c1 : Cal K mg "_law_is_form" g1 gd1 ["_law_it", "_law_size"]) :
    FnOk P w K mg base CX0 4 f fd ["_law_it", "_law_people", "_law_places", "_law_size"] spLooks := by
  refine F.ok scLLooks (fun vs H Q E h => ?_) (fun cdv A outer s H vs Q E hr h => ?_)
  · obtain ⟨v, d, kt, rfl, _⟩ := h
    rfl
  · obtain ⟨v, d, kt, rfl, hd, sm, k⟩ := h
    refine ⟨_, pss_cons (ps_if (PW.pt (pw_or (pt_not (pt_val (pe_callB call_isD (by rfl) T.b.isi (by decide +kernel) (pa_cons (pv 0) (pa_cons (pe_bltn (v := .ty "tuple") (by rfl) T.b.tuple (by decide +kernel) rfl) pa_nil))))) (pw_or1 (pt_cmpR op_ne (pe_callB call_len_seq (by rfl) T.b.len PySem.boot_len (pa_cons (pv 0) pa_nil)) (pv 1) (nomark _))))) (pss_one (ps_ret pe_bl)) pss_nil)
      (pss_cons (ps_for PassesOwn.never rfl (pi_tup (pv 0)) (pg_name (i := 4) scLLooks.nd rfl (.inl rfl))
        (pss_cons (ps_if (PW.pt (pw_or (pt_not (pt_val (pe_callB call_isD (by rfl) T.b.isi (by decide +kernel) (pa_cons (pv 4) (pa_cons (pe_bltn (v := .ty "tuple") (by rfl) T.b.tuple (by decide +kernel) rfl) pa_nil))))) (pw_or (pt_cmpR op_ne (pe_callB call_len_seq (by rfl) T.b.len PySem.boot_len (pa_cons (pv 4) pa_nil)) (pv 2) (nomark _))
          (pw_or1 (pt_cmpR (op_neNil hr.units) (pe_lc (own := [("_law_x", 6)]) (g := gName 6) (tt := tNot (tB (tCB rIsD (tCons (tVar 6) (tCons (tC (.ty "tuple")) tNil))))) rfl scLLooks.nd (pi_tup (pv 4)) (blkOk_by (N := nLooks) (sc := defScope lLooks) (by decide +kernel)) (fun _ _ _ _ _ => pg_name (i := 6) scLLooks.nd rfl (.inl rfl))
            (fun _ _ _ _ _ => pts_one (pt_not (pt_val (pe_callB call_isD (by rfl) T.b.isi (by decide +kernel) (pa_cons (pv 6) (pa_cons (pe_bltn (v := .ty "tuple") (by rfl) T.b.tuple (by decide +kernel) rfl) pa_nil)))))) (fun _ _ _ _ _ => pv 6)) (pe_lst pa_nil) (nomark _)))))) (pss_one (ps_ret pe_bl)) pss_nil)
        (pss_one (ps_for PassesOwn.never rfl (pi_tup (pv 4)) (pg_name (i := 5) scLLooks.nd rfl (.inl rfl)) (pss_one (ps_if (pt_cmpR (op_neNil hr.units) (pe_lc (own := [("_law_x", 6)]) (g := gName 6) (tt := tNot (tB (tCall spLForm [] E0 (tCons (tVar 6) (tCons (tVar 3) tNil))))) rfl scLLooks.nd (pi_tup (pv 5)) (blkOk_by (N := nLooks) (sc := defScope lLooks) (by decide +kernel)) (fun _ _ _ _ _ => pg_name (i := 6) scLLooks.nd rfl (.inl rfl))
            (fun _ _ _ _ _ => pts_one (pt_not (pt_val (pe_call G1 hr (by rfl) c1.m c1.k c1.b .nil pass0 (pa_cons (pv 6) (pa_cons (pv 3) pa_nil)))))) (fun _ _ _ _ _ => pv 6)) (pe_lst pa_nil) (nomark _)) (pss_one (ps_ret pe_bl)) pss_nil))))))
      (pss_one (ps_ret pe_bl))), ?_⟩
    have q0 := k H (Same.refl H)
    refine ⟨_, rfl, v, d, "tuple", rfl, by decide, hd, _, rfl, ?_⟩
    cases hd with
    | @tup b xs ds e ha =>
      refine iteNo rfl ?_
      refine ⟨_, rfl, b, xs, rfl, .inr (SqT.of e), _, rfl, rfl, _, rfl, ?_⟩
      rw [ha.len, ne_int, ← tup_len]
      rcases bool_ft (tupD kt.pe kt.pe (.tuple ds)) with b0 | b0
      · refine iteYes (by rw [b0]; rfl) ?_
        have e : looksD kt (.tuple ds) = false := by simp only [looksD, b0, Bool.false_and]
        rw [e] at q0
        exact q0
      refine iteNo (by rw [b0]; rfl) ?_
      have key := looks_key kt ds b0
      refine ⟨_, rfl, b, rfl, ⟨_, SqT.of e⟩, for_tup (K := K) (a := b) (xs := xs) (fun i σ H1 => Same H H1 ∧ (ds.take i).all (rowD kt) = true ∧ ∃ o1 o2, σ = [some (.ref b), some (.int kt.pe), some (.int kt.pl), some (.int kt.n), o1, o2, none]) ⟨Same.refl _, rfl, none, none, rfl⟩ (fun i σ H1 _ P => SqT.of (P.1 _ _ e)) ?_ ?_⟩
      · rintro i x σ H1 hx ⟨S1, a1, o1, o2, rfl⟩
        obtain ⟨d', hd', hq⟩ := DqAll.at ha hx
        have sd := sm_at (sm_all sm) hd'
        have q1 := Dq.same S1 _ _ hq
        have bad : ∀ H2, Same H1 H2 → rowD kt d' = false → Q (.bl false) H2 := fun H2 S2 z => by
          have q := k H2 (S1.trans S2)
          rw [key, all_false hd' z] at q
          exact q
        have badT : isTupD d' = false → Q (.bl false) H1 := fun z => bad H1 (Same.refl _) (by
          cases d' with
          | tuple _ => cases z
          | _ => rfl)
        refine ⟨_, rfl, x, d', "tuple", rfl, by decide, q1, _, rfl, ?_⟩
        cases q1 with
        | @tup c ys es e' hza =>
          refine iteNo rfl ?_
          refine ⟨_, rfl, c, ys, rfl, .inr (SqT.of e'), _, rfl, rfl, _, rfl, ?_⟩
          rw [hza.len, ne_int, ← tup_len]
          rcases bool_ft (tupD kt.pl kt.pl (.tuple es)) with b1 | b1
          · exact iteYes (by rw [b1]; rfl) (iteYes rfl (bad H1 (Same.refl _) (by simp only [rowD, b1, Bool.false_and])))
          refine iteNo (by rw [b1]; rfl) ?_
          have rkey : rowD kt (.tuple es) = es.all (formsD kt) := by
            simp only [rowD, b1, Bool.true_and]
            rfl
          have se := sm_len sd
          refine ⟨_, rfl, c, rfl, ⟨_, SqT.of e'⟩, fun D nD => ?_⟩
          refine lc_tup (K := K) (a := c) (xs := ys) (fun j H2 => Odds H1 D ((es.take j).all isTupD) j H2) (Odds.start nD) (fun j H2 _ M => SqT.of (M.1 _ _ e')) ?_ ?_
          · rintro j y H2 hy M
            obtain ⟨d2, hd2, hq2⟩ := DqAll.at hza hy
            have hj : j < es.length := (List.getElem?_eq_some_iff.mp hd2).1
            refine ⟨rfl, _, rfl, y, d2, "tuple", rfl, by decide, Dq.same M.1 _ _ hq2, _, rfl, ?_⟩
            rw [all_step hd2]
            have ei : isA "tuple" d2 = isTupD d2 := by cases d2 <;> rfl
            rw [ei]
            rcases bool_ft (isTupD d2) with hw | hw
            · refine iteYes (by rw [hw]; rfl) ?_
              rw [hw, Bool.and_false]
              exact ⟨_, rfl, M.put nD (Same.refl _) _ (by omega)⟩
            · refine iteNo (by rw [hw]; rfl) ?_
              rw [hw, Bool.and_true]
              exact M.skip (Same.refl _)
          · rintro H2 ⟨S2, zs, hz, hb, _⟩
            rw [hza.len, List.take_length] at hb
            refine ⟨(by show 0 ≤ sizeLine; decide), fun p np => ?_⟩
            have S3 := same_new (o := .lst []) np
            have S23 := S2.trans S3
            refine ⟨D, p, zs, rfl, rfl, S3 _ _ hz, upd_same, _, rfl, ?_⟩
            rcases bool_ft zs.isEmpty with b2 | b2
            · refine iteYes (by rw [b2]; rfl) (bad _ S23 ?_)
              rw [rkey]
              rw [b2] at hb
              obtain ⟨d2, m2, z2⟩ := List.all_eq_false.mp hb.symm
              rw [List.all_eq_false]
              exact ⟨d2, m2, by simp only [formsD]; simp [show isTupD d2 = false by simpa using z2]⟩
            refine iteNo (by rw [b2]; rfl) ?_
            rw [b2] at hb
            have hT : es.all isTupD = true := hb.symm
            revert S23
            generalize upd H2 p (.lst []) = H3
            intro S23
            refine ⟨_, rfl, c, rfl, ⟨_, SqT.of (S23 _ _ e')⟩, for_tup (K := K) (a := c) (xs := ys) (fun j σ H4 => Same H3 H4 ∧ (es.take j).all (formsD kt) = true ∧ ∃ o2, σ = [some (.ref b), some (.int kt.pe), some (.int kt.pl), some (.int kt.n), some (.ref c), o2, none]) ⟨Same.refl _, rfl, _, rfl⟩ (fun j σ H4 _ P => SqT.of ((S23.trans P.1) _ _ e')) ?_ ?_⟩
            · rintro j y σ H4 hy ⟨S4, a4, o4, rfl⟩
              obtain ⟨d2, hd2, hq2⟩ := DqAll.at hza hy
              have S14 := S23.trans S4
              obtain ⟨gs, rfl⟩ := isT_of (List.all_eq_true.mp hT d2 (List.mem_of_getElem? hd2))
              have sg : smB (.tuple gs) = true := sm_at (sm_all sd) hd2
              have slg := sm_len sg
              cases hq2 with
              | @tup m ms _ e2 hm =>
                refine ⟨_, rfl, m, rfl, ⟨_, SqT.of (S14 _ _ e2)⟩, fun B nB => ?_⟩
                refine lc_tup (K := K) (a := m) (xs := ms) (fun l H5 => Odds H4 B ((gs.take l).all (formD kt.n)) l H5) (Odds.start nB) (fun l H5 _ M => SqT.of (M.1 _ _ (S14 _ _ e2))) ?_ ?_
                · rintro l u H5 hu M
                  obtain ⟨d3, hd3, hq3⟩ := DqAll.at hm hu
                  have hl : l < gs.length := (List.getElem?_eq_some_iff.mp hd3).1
                  refine ⟨rfl, _, rfl, _, rfl, u, d3, kt.n, rfl, Dq.same (S14.trans M.1) _ _ hq3, sm_at (sm_all sg) hd3, fun H6 S6 => ⟨_, rfl, ?_⟩⟩
                  rw [all_step hd3]
                  rcases bool_ft (formD kt.n d3) with hw | hw
                  · refine iteYes (by rw [hw]; rfl) ?_
                    rw [hw, Bool.and_false]
                    exact ⟨_, rfl, M.put nB S6 _ (by omega)⟩
                  · refine iteNo (by rw [hw]; rfl) ?_
                    rw [hw, Bool.and_true]
                    exact M.skip S6
                · rintro H5 ⟨S5, us, hu5, hb5, _⟩
                  rw [hm.len, List.take_length] at hb5
                  refine ⟨(by show 0 ≤ sizeLine; decide), fun p5 np5 => ?_⟩
                  have S6 := same_new (o := .lst []) np5
                  refine ⟨B, p5, us, rfl, rfl, S6 _ _ hu5, upd_same, _, rfl, ?_⟩
                  have fk : formsD kt (.tuple gs) = us.isEmpty := hb5.symm
                  rcases bool_ft us.isEmpty with b5 | b5
                  · refine iteYes (by rw [b5]; rfl) (bad _ (S14.trans (S5.trans S6)) ?_)
                    rw [rkey]
                    exact all_false hd2 (by rw [fk, b5])
                  · refine iteNo (by rw [b5]; rfl) ?_
                    exact ⟨S4.trans (S5.trans S6), take_all a4 hd2 (by rw [fk, b5]), _, rfl⟩
            · rintro σ H4 ⟨S4, a4, o4, rfl⟩
              rw [hza.len, List.take_length] at a4
              exact ⟨S1.trans (S23.trans S4), take_all a1 hd' (by rw [rkey, a4]), _, _, rfl⟩
        | non => exact iteYes rfl (iteYes rfl (badT rfl))
        | bl _ => exact iteYes rfl (iteYes rfl (badT rfl))
        | int _ => exact iteYes rfl (iteYes rfl (badT rfl))
        | str _ => exact iteYes rfl (iteYes rfl (badT rfl))
        | lst _ _ => exact iteYes rfl (iteYes rfl (badT rfl))
        | dct0 _ => exact iteYes rfl (iteYes rfl (badT rfl))
        | dct1 _ => exact iteYes rfl (iteYes rfl (badT rfl))
      · rintro σ H1 ⟨S1, a1, o1, o2, rfl⟩
        rw [ha.len, List.take_length] at a1
        have q := k H1 S1
        rw [key, a1] at q
        exact q
    | non => exact iteYes rfl (iteYes rfl q0)
    | bl _ => exact iteYes rfl (iteYes rfl q0)
    | int _ => exact iteYes rfl (iteYes rfl q0)
    | str _ => exact iteYes rfl (iteYes rfl q0)
    | lst _ _ => exact iteYes rfl (iteYes rfl q0)
    | dct0 _ => exact iteYes rfl (iteYes rfl q0)
    | dct1 _ => exact iteYes rfl (iteYes rfl q0)
end
end KL
set_option Elab.async false
set_option linter.all false
set_option maxRecDepth 100000
set_option maxHeartbeats 2000000
namespace KL
open PySem L2 PySem.KX PySem.Spec PyProof.Rows
/-- data not among data -/
def rNotInQ : R2 := fun x y H Q => ∃ d p ys es, Dq H x d ∧ y = .ref p ∧ H p = some (.lst ys) ∧ DqAll H ys es ∧ d.canLay0 = true ∧ PyData.canLayAll0 es = true ∧ PyData.depthAll es ≤ 20 ∧ Q (.bl (!es.any fun z => PyData.eqv z d)) H
theorem op_notInQ {X : Cx} (hu : X.A.units + 64 < cLine) : OpR X (compareOp .NotIn) rNotInQ := by
  intro pins s σ H x y v u Q I rx ry h
  obtain ⟨d, p, ys, es, hd, rfl, hp, he, ld, le, dp, q⟩ := h
  obtain ⟨as, r1⟩ := Dq.reads0 I d x v hd ld rx
  obtain ⟨bs, r2⟩ := Dq.reads0 I (.list es) (.ref p) u (.lst hp he) le ry
  exact SeqAt.notIn_list_reads r2 r1 le ld (by omega) ⟨.bl _, H, I, rfl, q⟩
theorem ways_any {k : Kit} (hk : deedsD k.pe (.tuple k.dd) = true) (i : Int) (x : Str) : ∀ {as : List PyData}, as.all (arrowD k) = true → ((as.map cut2).any fun z => PyData.eqv z (.tuple [.int i, .str x])) = hasK (as.map keyD) [Sum.inl i, Sum.inr x]
  | [], _ => rfl
  | a :: as, h => by
    have h' := Bool.and_eq_true_iff.mp (show (arrowD k a && as.all (arrowD k)) = true from h)
    obtain ⟨i', x', t, f, m, rfl, _⟩ := arrow_of hk h'.1
    rw [List.map_cons, List.any_cons, ways_any hk i x h'.2]
    show ((i' == i && (x' == x && true)) || _) = (decide (([Sum.inl i', Sum.inr x'] : List Key) = [Sum.inl i, Sum.inr x]) || _)
    congr 1
    rw [Bool.and_true]
    by_cases e1 : i' = i
    · by_cases e2 : x' = x
      · subst e1 e2
        rw [decide_eq_true rfl]
        simp
      · have z : ¬ ([Sum.inl i', Sum.inr x'] : List Key) = [Sum.inl i, Sum.inr x] := fun z => e2 (by injection z with _ z; injection z with z _; injection z)
        rw [decide_eq_false z]
        simp [e2]
    · have z : ¬ ([Sum.inl i', Sum.inr x'] : List Key) = [Sum.inl i, Sum.inr x] := fun z => e1 (by injection z with z _; injection z)
      rw [decide_eq_false z]
      simp [e1]
theorem key_test {k : Kit} {as : List PyData} (hk : deedsD k.pe (.tuple k.dd) = true) (hA : as.all (arrowD k) = true) (d0 d1 d2 d3 d4 : PyData) :
    testT k as (.tuple [d0, d1, d2, d3, d4]) = (formD k.n d2 && (betD 0 (k.pl - 1) d0 && (letD d1 && (takenD as (.tuple [d0, d1, d2, d3, d4]) && (intD d3 && (intD d4 && leD d3 d4)))))) := by
  show ((true && ((betD 0 (k.pl - 1) d0 && inD (k.dd.map (itemD 0)) d1) && (formD k.n d2 && (intD d3 && (intD d4 && leD d3 d4))))) && takenD as (.tuple [d0, d1, d2, d3, d4])) = _
  rcases bool_ft (takenD as (.tuple [d0, d1, d2, d3, d4])) with t | t
  · rw [t]
    cases betD 0 (k.pl - 1) d0 <;> cases letD d1 <;> cases formD k.n d2 <;> simp
  rcases bool_ft (betD 0 (k.pl - 1) d0) with b | b
  · rw [b]
    cases formD k.n d2 <;> simp
  have e : inD (k.dd.map (itemD 0)) d1 = letD d1 := by
    rcases bool_ft (letD d1) with l | l
    · rcases bool_ft (inD (k.dd.map (itemD 0)) d1) with z | z
      · rw [z, l]
      · obtain ⟨x, rfl, hx⟩ := in_letters hk z
        exact absurd (show letD (.str x) = true from hx) (by rw [l]; decide)
    · obtain ⟨x, rfl⟩ := let_of l
      obtain ⟨i, rfl, _⟩ := bet_of b
      obtain ⟨kk, hm, hq⟩ := List.any_eq_true.mp (show (as.map keyD).any (fun j => decide (j = [Sum.inl i, Sum.inr x])) = true from t)
      obtain ⟨a, ha, rfl⟩ := List.mem_map.mp hm
      have hq := of_decide_eq_true hq
      have aa := List.all_eq_true.mp hA a ha
      obtain ⟨i', x', tt, f, m, rfl, _⟩ := arrow_of hk aa
      have ex : x' = x := by
        injection hq with _ z
        injection z with z _
        injection z
      subst ex
      have := aa
      rw [key_arrow] at this
      simp only [Bool.and_eq_true] at this
      rw [this.2.1, l]
  rw [e, t, b]
  cases letD d1 <;> cases formD k.n d2 <;> simp
theorem whole_le (l : Int) (d : PyData) : wholeD (some l) none d = (intD d && leD (.int l) d) := by
  cases d with
  | int j =>
    show (decide (l ≤ j) && true) = (true && decide (l ≤ j))
    rw [Bool.and_true, Bool.true_and]
  | _ => rfl
def spLTest : Sp := fun vs H Q _ => ∃ (v kv : V) (d : PyData) (k : Kit) (as : List PyData) (wy : Addr) (ws : List V), vs = [v, kv, .ref wy] ∧ KitAt H kv k ∧ H wy = some (.lst ws) ∧ DqAll H ws (as.map cut2) ∧ as.all (arrowD k) = true ∧ Dq H v d ∧ smB d = true ∧ ∀ H', Same H H' → Q (.bl (testT k as d)) H'
section
variable {P : Program} {w : World} {K : PySem.W.Frag} {mg : Str → Option Value} {base : Heap}
theorem scLTest : FnScope ["_law_it", "_law_kit", "_law_ways"] ["_law_it", "_law_kit", "_law_ways"] (defScope lIsTest) := ⟨rfl, rfl, rfl, by decide +kernel, rfl, by decide +kernel, by decide +kernel⟩
theorem ok_ltest {f g1 g2 g3 : Addr} {fd gd1 gd2 gd3 : FuncData} (F : Fun K "_law_is_test" "_law_is_test" lIsTest f fd) (T : TxtL mg) (G1 : FnOk P w K mg base CX0 1 g1 gd1 ["_law_it"] (spTest letD)) (c1 : Cal K mg "_law_is_letter" g1 gd1 ["_law_it"])
    (G2 : FnOk P w K mg base CX0 1 g2 gd2 ["_law_it", "_law_low", "_law_high"] spWhole) (c2 : Cal K mg "_law_is_whole" g2 gd2 ["_law_it", "_law_low", "_law_high"]) (G3 : FnOk P w K mg base CX0 3 g3 gd3 ["_law_it", "_law_size"] spLForm) (c3 : Cal K mg "_law_is_form" g3 gd3 ["_law_it", "_law_size"]) :
    FnOk P w K mg base CX0 4 f fd ["_law_it", "_law_kit", "_law_ways"] spLTest := by
  refine F.ok scLTest (fun vs H Q E h => ?_) (fun cdv A outer s H vs Q E hr h => ?_)
  · obtain ⟨v, kv, d, kt, as, wy, ws, rfl, _⟩ := h
    rfl
  · obtain ⟨v, kv, d, kt, as, wy, ws, rfl, hk, hw, hwd, hA, hd, sm, k⟩ := h
    have hr1 : Room 1 _ := hr.mono (by decide)
    refine ⟨_, pss_cons (ps_if (PW.pt (pw_or (pt_not (pt_val (pe_callB call_isD (by rfl) T.b.isi (by decide +kernel) (pa_cons (pv 0) (pa_cons (pe_bltn (v := .ty "tuple") (by rfl) T.b.tuple (by decide +kernel) rfl) pa_nil))))) (pw_or (pt_cmpR op_ne (pe_callB call_len_seq (by rfl) T.b.len PySem.boot_len (pa_cons (pv 0) pa_nil)) pe_int (nomark _))
        (pw_or1 (pt_not (pt_val (pe_call G3 hr (by rfl) c3.m c3.k c3.b .nil pass0 (pa_cons (pe_ix ix_tup (pv 0) pe_int (fun _ _ => rfl)) (pa_cons (pe_ix ix_tup (pv 1) pe_int (fun _ _ => rfl)) pa_nil))))))))) (pss_one (ps_ret pe_bl)) pss_nil)
      (pss_cons (ps_if (PW.pt (pw_or (pt_not (pt_val (pe_call G2 hr1 (by rfl) c2.m c2.k c2.b .nil pass0 (pa_cons (pe_ix ix_tup (pv 0) pe_int (fun _ _ => rfl)) (pa_cons pe_int (pa_cons (pe_op op_sub (pe_ix ix_tup (pv 1) pe_int (fun _ _ => rfl)) pe_int) pa_nil)))))) (pw_or (pt_not (pt_val (pe_call G1 hr1 (by rfl) c1.m c1.k c1.b .nil pass0 (pa_cons (pe_ix ix_tup (pv 0) pe_int (fun _ _ => rfl)) pa_nil))))
        (pw_or1 (pt_cmpR (op_notInQ hr.units) (pe_tup (pa_cons (pe_ix ix_tup (pv 0) pe_int (fun _ _ => rfl)) (pa_cons (pe_ix ix_tup (pv 0) pe_int (fun _ _ => rfl)) pa_nil))) (pv 2) (by rfl)))))) (pss_one (ps_ret pe_bl)) pss_nil)
      (pss_one (ps_ret (pe_and (pe_call G2 hr1 (by rfl) c2.m c2.k c2.b .nil pass0 (pa_cons (pe_ix ix_tup (pv 0) pe_int (fun _ _ => rfl)) (pa_cons pe_non (pa_cons pe_non pa_nil))))
        (pe_one (pe_call G2 hr1 (by rfl) c2.m c2.k c2.b .nil pass0 (pa_cons (pe_ix ix_tup (pv 0) pe_int (fun _ _ => rfl)) (pa_cons (pe_ix ix_tup (pv 0) pe_int (fun _ _ => rfl)) (pa_cons pe_non pa_nil))))))))), ?_⟩
    obtain ⟨kc, kl, kys, rfl, hkc, hkl, hkd⟩ := hk.ex
    have fz := k H (Same.refl H)
    refine ⟨_, rfl, v, d, "tuple", rfl, by decide, hd, _, rfl, ?_⟩
    have noT : isTupD d = false → Q (.bl false) H := fun z => by
      have e : testT kt as d = false := by
        cases d with
        | tuple _ => cases z
        | _ => rfl
      rw [e] at fz
      exact fz
    cases hd with
    | @tup b xs ds e hda =>
      refine iteNo rfl ?_
      refine ⟨_, rfl, b, xs, rfl, .inr (SqT.of e), rfl, _, rfl, ?_⟩
      rw [hda.len, ne_int]
      by_cases l5 : ds.length = 5
      · refine iteNo (by rw [l5]; rfl) ?_
        obtain ⟨d0, d1, d2, d3, d4, rfl⟩ := five (ds := ds) (by omega) (by omega)
        have key := key_test (as := as) hk.dd hA d0 d1 d2 d3 d4
        cases hda with
        | @cons y0 _ _ _ q0 hda =>
        cases hda with
        | @cons y1 _ _ _ q1 hda =>
        cases hda with
        | @cons y2 _ _ _ q2 hda =>
        cases hda with
        | @cons y3 _ _ _ q3 hda =>
        cases hda with
        | @cons y4 _ _ _ q4 hda =>
        cases hda
        have sA := sm_all sm
        have s0 : smB d0 = true := sm_at (i := 0) sA rfl
        have s1 : smB d1 = true := sm_at (i := 1) sA rfl
        have s2 : smB d2 = true := sm_at (i := 2) sA rfl
        have bad : ∀ H', Same H H' → testT kt as (.tuple [d0, d1, d2, d3, d4]) = false → Q (.bl false) H' := fun H' S z => by
          have q := k H' S
          rw [z] at q
          exact q
        refine ⟨_, rfl, b, _, _, _, rfl, rfl, SqT.of e, rfl, _, rfl, kc, _, _, _, rfl, rfl, SqT.of hkc, rfl, y2, d2, kt.n, rfl, q2, s2, fun H1 S1 => ⟨_, rfl, ?_⟩⟩
        rcases bool_ft (formD kt.n d2) with b2 | b2
        · exact iteYes (by rw [b2]; rfl) (bad H1 S1 (by rw [key, b2]; rfl))
        refine iteNo (by rw [b2]; rfl) ?_
        refine ⟨_, rfl, b, _, _, _, rfl, rfl, SqT.of (S1 _ _ e), rfl, _, rfl, kc, _, _, _, rfl, rfl, SqT.of (S1 _ _ hkc), rfl, _, _, rfl, rfl, y0, d0, some 0, some (kt.pl - 1), rfl, Dq.same S1 _ _ q0, _, rfl, ?_⟩
        rw [whole_bet]
        rcases bool_ft (betD 0 (kt.pl - 1) d0) with b0 | b0
        · exact iteYes (by rw [b0]; rfl) (iteYes rfl (bad H1 S1 (by rw [key, b0, Bool.false_and, Bool.and_false])))
        refine iteNo (by rw [b0]; rfl) ?_
        refine ⟨_, rfl, b, _, _, _, rfl, rfl, SqT.of (S1 _ _ e), rfl, y1, d1, rfl, Dq.same S1 _ _ q1, s1, fun H2 S2 => ⟨_, rfl, ?_⟩⟩
        have S12 := S1.trans S2
        rcases bool_ft (letD d1) with b1 | b1
        · exact iteYes (by rw [b1]; rfl) (iteYes rfl (bad H2 S12 (by rw [key, b0, b1, b2]; rfl)))
        refine iteNo (by rw [b1]; rfl) ?_
        obtain ⟨x1, rfl⟩ := let_of b1
        obtain ⟨j0, rfl, _⟩ := bet_of b0
        refine ⟨_, rfl, b, _, _, _, rfl, rfl, SqT.of (S12 _ _ e), rfl, _, rfl, b, _, _, _, rfl, rfl, SqT.of (S12 _ _ e), rfl, (by show 2 ≤ sizeLine; decide), fun p np => ?_⟩
        have S3 := same_new (o := .tup [y0, y1]) np
        have hp : (upd H2 p (.tup [y0, y1])) p = some (.tup [y0, y1]) := upd_same
        revert S3 hp
        generalize upd H2 p (.tup [y0, y1]) = H3
        intro S3 hp
        have S13 := S12.trans S3
        obtain ⟨z1, z2⟩ := lay_cuts hk.dd hA
        have hx1 : letS x1 = true := b1
        refine ⟨_, rfl, .tuple [.int j0, .str x1], wy, ws, as.map cut2, .tup hp (.cons (Dq.same S13 _ _ q0) (.cons (Dq.same S13 _ _ q1) .nil)), rfl, S13 _ _ hw, DqAll.same S13 _ _ hwd, ?_, z1, Nat.le_trans z2 (by decide), _, rfl, ?_⟩
        · show (true && (PyData.strOk x1 && true)) = true
          rw [(letS_ok hx1).1]
          rfl
        rw [ways_any hk.dd j0 x1 hA]
        have tk : takenD as (.tuple [.int j0, .str x1, d2, d3, d4]) = hasK (as.map keyD) [Sum.inl j0, Sum.inr x1] := rfl
        rw [← tk]
        rcases bool_ft (takenD as (.tuple [.int j0, .str x1, d2, d3, d4])) with b3 | b3
        · exact iteYes (by rw [b3]; rfl) (bad H3 S13 (by rw [key, b0, b1, b2, b3]; rfl))
        refine iteNo (by rw [b3]; rfl) ?_
        have fin := k H3 S13
        rw [key, b0, b1, b2, b3] at fin
        refine ⟨_, rfl, b, _, _, _, rfl, rfl, SqT.of (S13 _ _ e), rfl, y3, d3, none, none, rfl, Dq.same S13 _ _ q3, _, rfl, ?_⟩
        rw [whole_int]
        rcases bool_ft (intD d3) with b4 | b4
        · refine iteNo b4 ?_
          rw [b4] at fin
          exact fin
        refine iteYes b4 ?_
        obtain ⟨l, rfl⟩ := int_of b4
        cases q3
        refine ⟨_, rfl, b, _, _, _, rfl, rfl, SqT.of (S13 _ _ e), rfl, _, rfl, b, _, _, _, rfl, rfl, SqT.of (S13 _ _ e), rfl, y4, d4, some l, none, rfl, Dq.same S13 _ _ q4, ?_⟩
        rw [whole_le]
        exact fin
      · have z : (!decide ((ds.length : Int) = 5)) = true := by
          rw [decide_eq_false fun z => l5 (by omega)]
          rfl
        refine iteYes z (iteYes rfl ?_)
        have e : testT kt as (.tuple ds) = false := by simp only [testT, testD, not_five l5, Bool.false_and]
        rw [e] at fz
        exact fz
    | non => exact iteYes rfl (iteYes rfl (noT rfl))
    | bl _ => exact iteYes rfl (iteYes rfl (noT rfl))
    | int _ => exact iteYes rfl (iteYes rfl (noT rfl))
    | str _ => exact iteYes rfl (iteYes rfl (noT rfl))
    | lst _ _ => exact iteYes rfl (iteYes rfl (noT rfl))
    | dct0 _ => exact iteYes rfl (iteYes rfl (noT rfl))
    | dct1 _ => exact iteYes rfl (iteYes rfl (noT rfl))
end
end KL
set_option Elab.async false
set_option linter.all false
set_option maxRecDepth 100000
set_option maxHeartbeats 2000000
namespace KL
open PySem L2 PySem.KX PySem.Spec PyProof.Rows
theorem arrow_all {k : Kit} {d : PyData} (hk : deedsD k.pe (.tuple k.dd) = true) (h : arrowD k d = true) : ∃ i x t fs ms, d = .tuple [.int i, .str x, .int t, .tuple fs, .tuple ms] ∧ letS x = true ∧ fs.all (formD k.n) = true ∧ ms.all markD = true := by
  obtain ⟨i, x, t, f, m, rfl, hx⟩ := arrow_of hk h
  rw [key_arrow] at h
  simp only [Bool.and_eq_true] at h
  obtain ⟨_, _, _, h3, _, h5, h6⟩ := h
  obtain ⟨fs, rfl⟩ := isT_of h3
  simp only [marksD, Bool.and_eq_true] at h6
  obtain ⟨ms, rfl, _⟩ := tup_of h6.1
  exact ⟨i, x, t, fs, ms, rfl, hx, h5, h6.2⟩
theorem form_ints {n : Int} {d : PyData} (h : formD n d = true) : ∃ gs, d = .tuple gs ∧ gs.all intD = true := by
  cases d with
  | tuple gs => exact ⟨gs, rfl, (Bool.and_eq_true_iff.mp h).2⟩
  | _ => cases h
theorem mark_of {d : PyData} (h : markD d = true) : ∃ x, d = .str x ∧ PyData.strOk x = true := by
  unfold markD at h
  cases d with
  | str x =>
    refine ⟨x, rfl, ?_⟩
    rcases Bool.or_eq_true_iff.mp h with h | h
    · exact (letS_ok h).1
    · have e : ("" : Str) = x := eq_of_beq h
      rw [← e]
      decide +kernel
  | _ => cases h
theorem lay_forms {n : Int} : ∀ {fs : List PyData}, fs.all (formD n) = true → PyData.canLayAll0 fs = true ∧ PyData.depthAll fs ≤ 1
  | [], _ => ⟨rfl, Nat.zero_le _⟩
  | d :: ds, h => by
    have h' := Bool.and_eq_true_iff.mp (show (formD n d && ds.all (formD n)) = true from h)
    obtain ⟨q1, q2⟩ := lay_forms h'.2
    obtain ⟨gs, rfl, hg⟩ := form_ints h'.1
    obtain ⟨g1, g2⟩ := lay_nums hg
    refine ⟨?_, ?_⟩
    · show (PyData.canLayAll0 gs && PyData.canLayAll0 ds) = true
      rw [g1, q1]
      rfl
    · show max (PyData.depthAll gs + 1) (PyData.depthAll ds) ≤ 1
      rw [g2]
      omega
theorem lay_marks : ∀ {fs : List PyData}, fs.all markD = true → PyData.canLayAll0 fs = true ∧ PyData.depthAll fs = 0
  | [], _ => ⟨rfl, rfl⟩
  | d :: ds, h => by
    have h' := Bool.and_eq_true_iff.mp (show (markD d && ds.all markD) = true from h)
    obtain ⟨q1, q2⟩ := lay_marks h'.2
    obtain ⟨x, rfl, hx⟩ := mark_of h'.1
    refine ⟨?_, ?_⟩
    · show (PyData.strOk x && PyData.canLayAll0 ds) = true
      rw [hx, q1]
      rfl
    · show max 0 (PyData.depthAll ds) = 0
      rw [q2]
      rfl
theorem lay_arrows {k : Kit} (hk : deedsD k.pe (.tuple k.dd) = true) : ∀ {ds : List PyData}, ds.all (arrowD k) = true → PyData.canLayAll0 ds = true ∧ PyData.depthAll ds ≤ 3
  | [], _ => ⟨rfl, Nat.zero_le _⟩
  | d :: ds, h => by
    have h' := Bool.and_eq_true_iff.mp (show (arrowD k d && ds.all (arrowD k)) = true from h)
    obtain ⟨q1, q2⟩ := lay_arrows hk h'.2
    obtain ⟨i, x, t, fs, ms, rfl, hx, hf, hm⟩ := arrow_all hk h'.1
    obtain ⟨f1, f2⟩ := lay_forms hf
    obtain ⟨m1, m2⟩ := lay_marks hm
    refine ⟨?_, ?_⟩
    · show ((true && (PyData.strOk x && (true && (PyData.canLayAll0 fs && (PyData.canLayAll0 ms && true))))) && PyData.canLayAll0 ds) = true
      rw [(letS_ok hx).1, q1, f1, m1]
      rfl
    · show max (max 0 (max 0 (max 0 (max (PyData.depthAll fs + 1) (max (PyData.depthAll ms + 1) 0)))) + 1) (PyData.depthAll ds) ≤ 3
      omega
theorem cmp_forms {n : Int} : ∀ {xs ys : List PyData}, xs.all (formD n) = true → ys.all (formD n) = true → cmpAll xs ys = true
  | [], ys, _, _ => by
    cases ys <;> rfl
  | _ :: _, [], _, _ => rfl
  | x :: xs, y :: ys, h1, h2 => by
    have h1' := Bool.and_eq_true_iff.mp (show (formD n x && xs.all (formD n)) = true from h1)
    have h2' := Bool.and_eq_true_iff.mp (show (formD n y && ys.all (formD n)) = true from h2)
    obtain ⟨g1, rfl, i1⟩ := form_ints h1'.1
    obtain ⟨g2, rfl, i2⟩ := form_ints h2'.1
    show (cmpAll g1 g2 && cmpAll xs ys) = true
    rw [cmp_nums i1 i2, cmp_forms h1'.2 h2'.2]
    rfl
theorem cmp_marks : ∀ {xs ys : List PyData}, xs.all markD = true → ys.all markD = true → cmpAll xs ys = true
  | [], ys, _, _ => by
    cases ys <;> rfl
  | _ :: _, [], _, _ => rfl
  | x :: xs, y :: ys, h1, h2 => by
    have h1' := Bool.and_eq_true_iff.mp (show (markD x && xs.all markD) = true from h1)
    have h2' := Bool.and_eq_true_iff.mp (show (markD y && ys.all markD) = true from h2)
    obtain ⟨a, rfl, _⟩ := mark_of h1'.1
    obtain ⟨b, rfl, _⟩ := mark_of h2'.1
    show (true && cmpAll xs ys) = true
    rw [cmp_marks h1'.2 h2'.2]
    rfl
theorem cmp_arrows {k : Kit} {ds : List PyData} (hk : deedsD k.pe (.tuple k.dd) = true) (h : ds.all (arrowD k) = true) (i : Nat) (hi : i + 1 < ds.length) : cmpD (ds.getD i .none) (ds.getD (i + 1) .none) = true := by
  obtain ⟨i1, x1, t1, f1, m1, e1, _, a1, b1⟩ := arrow_all hk (all_at (f := arrowD k) h (show i < ds.length by omega))
  obtain ⟨i2, x2, t2, f2, m2, e2, _, a2, b2⟩ := arrow_all hk (all_at (f := arrowD k) h hi)
  rw [e1, e2]
  show (true && (true && (true && (cmpAll f1 f2 && (cmpAll m1 m2 && true))))) = true
  rw [cmp_forms a1 a2, cmp_marks b1 b2]
  rfl
/-- the first two ascend: so do the whole ones -/
theorem asc_of_cuts {k : Kit} {ds : List PyData} (hk : deedsD k.pe (.tuple k.dd) = true) (h : ds.all (arrowD k) = true) (c : ascD (ds.map cut2) = true) : ascD ds = true := by
  unfold ascD ascTo at c ⊢
  rw [List.length_map] at c
  rw [List.all_map, List.all_eq_true] at c ⊢
  intro i hi
  have q := c i hi
  have hi := List.mem_range.mp hi
  have q : ltD ((ds.map cut2).getD i .none) ((ds.map cut2).getD (i + 1) .none) = true := q
  show ltD (ds.getD i .none) (ds.getD (i + 1) .none) = true
  rw [getD_map (by omega), getD_map (by omega)] at q
  obtain ⟨i1, x1, t1, f1, m1, e1, _⟩ := arrow_of hk (all_at (f := arrowD k) h (show i < ds.length by omega))
  obtain ⟨i2, x2, t2, f2, m2, e2, _⟩ := arrow_of hk (all_at (f := arrowD k) h (show i + 1 < ds.length by omega))
  rw [e1, e2] at q ⊢
  have q : (if (i1 == i2) = true then (if (x1 == x2) = true then false else decide (x1.cps.toList < x2.cps.toList)) else decide (i1 < i2)) = true := by
    simpa [cut2, ltD, ltAll, PyData.eqv] using q
  show (if (i1 == i2) = true then (if (x1 == x2) = true then _ else decide (x1.cps.toList < x2.cps.toList)) else decide (i1 < i2)) = true
  by_cases z1 : (i1 == i2) = true
  · rw [if_pos z1] at q ⊢
    by_cases z2 : (x1 == x2) = true
    · rw [if_pos z2] at q
      cases q
    · rw [if_neg z2] at q ⊢
      exact q
  · rw [if_neg z1] at q ⊢
    exact q
end KL
set_option Elab.async false
set_option linter.all false
set_option maxRecDepth 100000
set_option maxHeartbeats 40000000
namespace KL
open PySem L2 PySem.KX PySem.Spec PyProof.Rows
def spDue : Sp := fun vs H Q _ => ∃ (q : Addr) (v0 v1 v2 v3 v4 v5 v6 v7 v8 : V) (d0 d1 d2 d3 d4 d5 d6 d7 d8 : PyData), vs = [.ref q] ∧ H q = some (.lst [v0, v1, v2, v3, v4, v5, v6, v7, v8]) ∧
  Dq H v0 d0 ∧ Dq H v1 d1 ∧ Dq H v2 d2 ∧ Dq H v3 d3 ∧ Dq H v4 d4 ∧ Dq H v5 d5 ∧ Dq H v6 d6 ∧ Dq H v7 d7 ∧ Dq H v8 d8 ∧
  (smB d0 && smB d1 && smB d2 && smB d3 && smB d4 && smB d5 && smB d6 && smB d7 && smB d8) = true ∧
  ∀ H' r ys, Same H H' → H' r = some (.lst ys) → OddIs H' ys (dueD d0 d1 d2 d3 d4 d5 d6 d7 d8) → Q (.ref r) H'
theorem start_key (d : PyData) : startD d = (areD none none d && (decide (0 < ((itemsD d).length : Int)) && decide (((itemsD d).length : Int) < 4))) := by
  cases d with
  | tuple ds =>
    show ((decide (1 ≤ (ds.length : Int)) && decide ((ds.length : Int) ≤ 3)) && ds.all intD) = ((true && ds.all (wholeD none none)) && (decide (0 < (ds.length : Int)) && decide ((ds.length : Int) < 4)))
    have e : ds.all (wholeD none none) = ds.all intD := by
      congr 1
    have l1 : decide ((1 : Int) ≤ (ds.length : Int)) = decide (0 < (ds.length : Int)) := decide_eq_decide.mpr (by omega)
    have l2 : decide ((ds.length : Int) ≤ 3) = decide ((ds.length : Int) < 4) := decide_eq_decide.mpr (by omega)
    rw [e, l1, l2, Bool.true_and, Bool.and_comm]
  | _ => rfl
theorem ends_key (n : Int) (d : PyData) : endsD n d = (areD (some 0) (some (n - 1)) d && ascD (itemsD d)) := by
  cases d with
  | tuple ds =>
    show (true && (ds.all (betD 0 (n - 1)) && ascD ds)) = ((true && ds.all (wholeD (some 0) (some (n - 1)))) && ascD ds)
    have e : ds.all (wholeD (some 0) (some (n - 1))) = ds.all (betD 0 (n - 1)) := by
      congr 1
    rw [e, Bool.true_and, Bool.true_and]
  | _ => rfl
theorem dq_tup {H : Hp} {v : V} {ds : List PyData} (q : Dq H v (.tuple ds)) : ∃ a xs, v = .ref a ∧ H a = some (.tup xs) ∧ DqAll H xs ds := by
  cases q with
  | tup e h => exact ⟨_, _, rfl, e, h⟩
theorem cmp_int4 {ds : List PyData} (h : ds.all intD = true) (i : Nat) (hi : i + 1 < ds.length) : cmpD (ds.getD i .none) (ds.getD (i + 1) .none) = true := by
  obtain ⟨a, e1⟩ := int_of (all_at (f := intD) h (show i < ds.length by omega))
  obtain ⟨b, e2⟩ := int_of (all_at (f := intD) h hi)
  rw [e1, e2]
  rfl
section
variable {P : Program} {w : World} {K : PySem.W.Frag} {mg : Str → Option Value} {base : Heap}
abbrev nDue : List Str := ["_law_parts_here", "_law_people", "_law_deeds_now", "_law_start", "_law_places", "_law_ends", "_law_logs", "_law_arrows", "_law_tests", "_law_looks", "_law_kit", "_law_good", "_law_odd_here", "_law_ways", "_law_letter", "_law_owner", "_law_part"]
theorem scLDue : FnScope nDue ["_law_parts_here"] (defScope lDue) := ⟨rfl, rfl, rfl, by decide +kernel, rfl, by decide +kernel, by decide +kernel⟩
theorem ok_due {f g1 g2 g3 g4 g5 g6 g7 g8 : Addr} {fd gd1 gd2 gd3 gd4 gd5 gd6 gd7 gd8 : FuncData} (F : Fun K "_law_due" "_law_due" lDue f fd) (T : TxtL mg)
    (G1 : FnOk P w K mg base CX0 1 g1 gd1 ["_law_it", "_law_low", "_law_high"] spWhole) (c1 : Cal K mg "_law_is_whole" g1 gd1 ["_law_it", "_law_low", "_law_high"])
    (G2 : FnOk P w K mg base CX0 2 g2 gd2 ["_law_it", "_law_people"] (spTest1 deedsD)) (c2 : Cal K mg "_law_are_deeds" g2 gd2 ["_law_it", "_law_people"])
    (G3 : FnOk P w K mg base CX0 2 g3 gd3 ["_law_it", "_law_low", "_law_high"] spAre) (c3 : Cal K mg "_law_are_whole" g3 gd3 ["_law_it", "_law_low", "_law_high"])
    (G4 : FnOk P w K mg base CX0 1 g4 gd4 ["_law_some"] spAsc) (c4 : Cal K mg "_law_rises" g4 gd4 ["_law_some"])
    (G5 : FnOk P w K mg base CX0 4 g5 gd5 ["_law_it", "_law_kit"] (spKit arrowD)) (c5 : Cal K mg "_law_is_arrow" g5 gd5 ["_law_it", "_law_kit"])
    (G6 : FnOk P w K mg base CX0 1 g6 gd6 ["_law_it", "_law_word", "_law_good"] spFirst) (c6 : Cal K mg "_law_first_odd" g6 gd6 ["_law_it", "_law_word", "_law_good"])
    (G7 : FnOk P w K mg base CX0 4 g7 gd7 ["_law_it", "_law_kit", "_law_ways"] spLTest) (c7 : Cal K mg "_law_is_test" g7 gd7 ["_law_it", "_law_kit", "_law_ways"])
    (G8 : FnOk P w K mg base CX0 4 g8 gd8 ["_law_it", "_law_people", "_law_places", "_law_size"] spLooks) (c8 : Cal K mg "_law_are_looks" g8 gd8 ["_law_it", "_law_people", "_law_places", "_law_size"])
    : FnOk P w K mg base CX0 5 f fd ["_law_parts_here"] spDue := by
  refine F.ok scLDue (fun vs H Q E h => ?_) (fun cdv A outer s H vs Q E hr h => ?_)
  · obtain ⟨q, v0, v1, v2, v3, v4, v5, v6, v7, v8, d0, d1, d2, d3, d4, d5, d6, d7, d8, rfl, _⟩ := h
    rfl
  · obtain ⟨q, v0, v1, v2, v3, v4, v5, v6, v7, v8, d0, d1, d2, d3, d4, d5, d6, d7, d8, rfl, hq, q0, q1, q2, q3, q4, q5, q6, q7, q8, sm, k⟩ := h
    simp only [Bool.and_eq_true] at sm
    obtain ⟨⟨⟨⟨⟨⟨⟨⟨m0, m1⟩, m2⟩, m3⟩, m4⟩, m5⟩, m6⟩, m7⟩, m8⟩ := sm
    have hr1 : Room 1 _ := hr.mono (by decide)
    have hr2 : Room 2 _ := hr.mono (by decide)
    refine ⟨_, pss_cons (ps_asg (pv 0) (g := gUnl K 9 (gCons (gName 1) (gCons (gName 2) (gCons (gName 3) (gCons (gName 4) (gCons (gName 5) (gCons (gName 6) (gCons (gName 7) (gCons (gName 8) (gCons (gName 9) gNil)))))))))) (pg_unl rfl (pgs_cons (pg_name (i := 1) scLDue.nd rfl (.inl rfl)) (pgs_cons (pg_name (i := 2) scLDue.nd rfl (.inl rfl)) (pgs_cons (pg_name (i := 3) scLDue.nd rfl (.inl rfl)) (pgs_cons (pg_name (i := 4) scLDue.nd rfl (.inl rfl)) (pgs_cons (pg_name (i := 5) scLDue.nd rfl (.inl rfl)) (pgs_cons (pg_name (i := 6) scLDue.nd rfl (.inl rfl)) (pgs_cons (pg_name (i := 7) scLDue.nd rfl (.inl rfl)) (pgs_cons (pg_name (i := 8) scLDue.nd rfl (.inl rfl)) (pgs_cons (pg_name (i := 9) scLDue.nd rfl (.inl rfl)) pgs_nil)))))))))))
      (pss_cons (ps_if (pt_not (pt_val (pe_call G1 hr1 (by rfl) c1.m c1.k c1.b .nil pass0 (pa_cons (pv 1) (pa_cons pe_int (pa_cons pe_int pa_nil)))))) (pss_one (ps_ret (pe_lst (pa_cons pe_str pa_nil)))) pss_nil)
      (pss_cons (ps_if (pt_not (pt_val (pe_call G2 hr2 (by rfl) c2.m c2.k c2.b .nil pass0 (pa_cons (pv 2) (pa_cons (pv 1) pa_nil))))) (pss_one (ps_ret (pe_lst (pa_cons pe_str pa_nil)))) pss_nil)
      (pss_cons (ps_if (PW.pt (pw_or (pt_not (pt_val (pe_call G3 hr2 (by rfl) c3.m c3.k c3.b .nil pass0 (pa_cons (pv 3) (pa_cons pe_non (pa_cons pe_non pa_nil)))))) (pw_or1 (pt_not (pt_chain op_lt op_lt pe_int (pe_callB call_len_seq (by rfl) T.b.len PySem.boot_len (pa_cons (pv 3) pa_nil)) pe_int))))) (pss_one (ps_ret (pe_lst (pa_cons pe_str pa_nil)))) pss_nil)
      (pss_cons (ps_if (pt_not (pt_val (pe_call G1 hr1 (by rfl) c1.m c1.k c1.b .nil pass0 (pa_cons (pv 4) (pa_cons pe_int (pa_cons pe_int pa_nil)))))) (pss_one (ps_ret (pe_lst (pa_cons pe_str pa_nil)))) pss_nil)
      (pss_cons (ps_if (PW.pt (pw_or (pt_not (pt_val (pe_call G3 hr2 (by rfl) c3.m c3.k c3.b .nil pass0 (pa_cons (pv 5) (pa_cons pe_int (pa_cons (pe_op op_sub (pv 4) pe_int) pa_nil)))))) (pw_or1 (pt_not (pt_val (pe_call G4 hr1 (by rfl) c4.m c4.k c4.b .nil pass0 (pa_cons (pv 5) pa_nil))))))) (pss_one (ps_ret (pe_lst (pa_cons pe_str pa_nil)))) pss_nil)
      (C8.pss_cut (ps_if (pt_not (pt_val (pe_call G1 hr1 (by rfl) c1.m c1.k c1.b .nil pass0 (pa_cons (pv 6) (pa_cons pe_int (pa_cons pe_int pa_nil)))))) (pss_one (ps_ret (pe_lst (pa_cons pe_str pa_nil)))) pss_nil)
      (C8.pss_cut (ps_set (i := 10) scLDue.nd rfl (.inr rfl) (pe_tup (pa_cons (pe_lc (own := [("_law_letter", 14), ("_law_owner", 15)]) (g := gTup K 2 (gCons (gName 14) (gCons (gName 15) gNil))) (tt := tYes) rfl scLDue.nd (pi_tup (pv 2)) (blkOk_by (N := nDue) (sc := defScope lDue) (by decide +kernel)) (fun _ _ _ _ _ => pg_tup rfl (pgs_cons (pg_name (i := 14) scLDue.nd rfl (.inl rfl)) (pgs_cons (pg_name (i := 15) scLDue.nd rfl (.inl rfl)) pgs_nil))) (fun _ _ _ _ _ => pts_nil) (fun _ _ _ _ _ => pv 14)) (pa_cons (pe_callB call_len_seq (by rfl) T.b.len PySem.boot_len (pa_cons (pv 3) pa_nil)) (pa_cons (pv 4) (pa_cons (pv 6) pa_nil))))))
      (pss_cons (ps_set (i := 11) scLDue.nd rfl (.inl rfl) (pe_ifExp (pt_val (pe_callB call_isD (by rfl) T.b.isi (by decide +kernel) (pa_cons (pv 7) (pa_cons (pe_bltn (v := .ty "tuple") (by rfl) T.b.tuple (by decide +kernel) rfl) pa_nil)))) (pe_lc (own := [("_law_part", 16)]) (g := gName 16) (tt := tYes) rfl scLDue.nd (pi_tup (pv 7)) (blkOk_by (N := nDue) (sc := defScope lDue) (by decide +kernel)) (fun _ _ _ _ _ => pg_name (i := 16) scLDue.nd rfl (.inl rfl)) (fun _ _ _ _ _ => pts_nil) (fun _ _ _ _ _ => pe_call G5 hr (by rfl) c5.m c5.k c5.b .nil pass0 (pa_cons (pv 16) (pa_cons (pv 10) pa_nil)))) (pe_lst pa_nil)))
      (pss_cons (ps_set (i := 12) scLDue.nd rfl (.inl rfl) (pe_call G6 hr1 (by rfl) c6.m c6.k c6.b .nil pass0 (pa_cons (pv 7) (pa_cons pe_str (pa_cons (pv 11) pa_nil)))))
      (C8.pss_cut (ps_if (pt_cmpR (op_neNil hr.units) (pv 12) (pe_lst pa_nil) (nomark _)) (pss_one (ps_ret (pv 12))) pss_nil)
      (C8.pss_cut (ps_set (i := 13) scLDue.nd rfl (.inr rfl) (pe_lc (own := [("_law_part", 16)]) (g := gName 16) (tt := tYes) rfl scLDue.nd (pi_tup (pv 7)) (blkOk_by (N := nDue) (sc := defScope lDue) (by decide +kernel)) (fun _ _ _ _ _ => pg_name (i := 16) scLDue.nd rfl (.inl rfl)) (fun _ _ _ _ _ => pts_nil) (fun _ _ _ _ _ => pe_slice (r := rSlT K) sl_tup (pv 16) po_none (po_some pe_int))))
      (C8.pss_cut (ps_if (PW.pt (pw_or (pt_not (pt_val (pe_call G4 hr1 (by rfl) c4.m c4.k c4.b .nil pass0 (pa_cons (pv 7) pa_nil)))) (pw_or1 (pt_not (pt_val (pe_call G4 hr1 (by rfl) c4.m c4.k c4.b .nil pass0 (pa_cons (pv 13) pa_nil))))))) (pss_one (ps_ret (pe_lst (pa_cons pe_str pa_nil)))) pss_nil)
      (pss_cons (ps_set (i := 11) scLDue.nd rfl (.inl rfl) (pe_ifExp (pt_val (pe_callB call_isD (by rfl) T.b.isi (by decide +kernel) (pa_cons (pv 8) (pa_cons (pe_bltn (v := .ty "tuple") (by rfl) T.b.tuple (by decide +kernel) rfl) pa_nil)))) (pe_lc (own := [("_law_part", 16)]) (g := gName 16) (tt := tYes) rfl scLDue.nd (pi_tup (pv 8)) (blkOk_by (N := nDue) (sc := defScope lDue) (by decide +kernel)) (fun _ _ _ _ _ => pg_name (i := 16) scLDue.nd rfl (.inl rfl)) (fun _ _ _ _ _ => pts_nil) (fun _ _ _ _ _ => pe_call G7 hr (by rfl) c7.m c7.k c7.b .nil pass0 (pa_cons (pv 16) (pa_cons (pv 10) (pa_cons (pv 13) pa_nil))))) (pe_lst pa_nil)))
      (pss_cons (ps_set (i := 12) scLDue.nd rfl (.inl rfl) (pe_call G6 hr1 (by rfl) c6.m c6.k c6.b .nil pass0 (pa_cons (pv 8) (pa_cons pe_str (pa_cons (pv 11) pa_nil)))))
      (C8.pss_cut (ps_if (pt_cmpR (op_neNil hr.units) (pv 12) (pe_lst pa_nil) (nomark _)) (pss_one (ps_ret (pv 12))) pss_nil)
      (pss_cons (ps_if (pt_not (pt_val (pe_call G4 hr1 (by rfl) c4.m c4.k c4.b .nil pass0 (pa_cons (pv 8) pa_nil)))) (pss_one (ps_ret (pe_lst (pa_cons pe_str pa_nil)))) pss_nil)
      (pss_one (ps_ret (pe_ifExp (pt_val (pe_call G8 hr (by rfl) c8.m c8.k c8.b .nil pass0 (pa_cons (pv 9) (pa_cons (pv 1) (pa_cons (pv 4) (pa_cons (pe_callB call_len_seq (by rfl) T.b.len PySem.boot_len (pa_cons (pv 3) pa_nil)) pa_nil)))))) (pe_lst pa_nil) (pe_lst (pa_cons pe_str pa_nil))))))))))))))))))))), ?_⟩
    have bad : ∀ {H1 : Hp} (wd : Str), Same H H1 → dueD d0 d1 d2 d3 d4 d5 d6 d7 d8 = some (.str wd) → 1 ≤ sizeLine ∧ ∀ r, H1 r = none → Q (.ref r) (upd H1 r (.lst [V.str wd])) := fun {H1} wd S1 hz => ⟨by show 1 ≤ sizeLine; decide, fun r nr => k _ r _ (S1.trans (same_new nr)) upd_same (by rw [hz]; exact ⟨_, rfl, .str wd⟩)⟩
    refine ⟨_, rfl, q, _, rfl, SqL.of hq, rfl, v0, _, rfl, v1, _, rfl, v2, _, rfl, v3, _, rfl, v4, _, rfl, v5, _, rfl, v6, _, rfl, v7, _, rfl, v8, _, rfl, rfl, ?_⟩
    -- people
    refine ⟨_, rfl, v0, d0, some 1, some 3, rfl, q0, _, rfl, ?_⟩
    rw [whole_bet]
    rcases bool_ft (betD 1 3 d0) with b0 | b0
    · refine iteYes (by rw [b0]; rfl) (bad "people" (Same.refl _) ?_)
      simp only [dueD, badOf, b0, if_true, Bool.false_eq_true, if_false, Option.none_or, Option.some_or]
    refine iteNo (by rw [b0]; rfl) ?_
    obtain ⟨n0, e0, l0, u0⟩ := bet_of b0
    have w0 : v0 = .int n0 := by
      rw [e0] at q0
      cases q0
      rfl
    subst w0
    have x0 : numD d0 = n0 := by rw [e0]; rfl
    -- deeds
    refine ⟨_, rfl, _, rfl, v1, d1, n0, rfl, q1, m1, fun H1 S1 => ⟨_, rfl, ?_⟩⟩
    rw [← x0]
    rcases bool_ft (deedsD (numD d0) d1) with b1 | b1
    · refine iteYes (by rw [b1]; rfl) (bad "deeds" S1 ?_)
      simp only [dueD, badOf, b0, b1, if_true, Bool.false_eq_true, if_false, Option.none_or, Option.some_or]
    refine iteNo (by rw [b1]; rfl) ?_
    rw [x0]
    obtain ⟨ds1, e1⟩ := deeds_of b1
    obtain ⟨a1, xs1, rfl, f1, h1⟩ := dq_tup (e1 ▸ q1)
    -- start
    refine ⟨_, rfl, v2, d2, none, none, rfl, Dq.same S1 _ _ q2, m2, fun H2 S2 => ⟨_, rfl, ?_⟩⟩
    have T2 := S1.trans S2
    have no2 : startD d2 = false → dueD d0 d1 d2 d3 d4 d5 d6 d7 d8 = some (.str "start") := fun z => by
      simp only [dueD, badOf, b0, b1, z, if_true, Bool.false_eq_true, if_false, Option.none_or, Option.some_or]
    rcases bool_ft (areD none none d2) with z2 | z2
    · exact iteYes (by rw [z2]; rfl) (iteYes rfl (bad "start" T2 (no2 (by rw [start_key, z2]; rfl))))
    refine iteNo (by rw [z2]; rfl) ?_
    obtain ⟨ds2, e2⟩ := isT_of (Bool.and_eq_true_iff.mp z2).1
    obtain ⟨a2, xs2, rfl, f2, h2⟩ := dq_tup (e2 ▸ q2)
    have i2 : itemsD d2 = ds2 := by rw [e2]; rfl
    refine ⟨_, rfl, a2, xs2, rfl, .inr (SqT.of (T2 _ _ f2)), _, _, rfl, rfl, _, rfl, ?_⟩
    rw [h2.len]
    have sk := start_key d2
    rw [z2, i2, Bool.true_and] at sk
    rcases bool_ft (decide (0 < (ds2.length : Int))) with y0 | y0
    · exact iteNo y0 ⟨_, rfl, iteYes rfl (bad "start" T2 (no2 (by rw [sk, y0]; rfl)))⟩
    refine iteYes y0 ⟨_, _, rfl, rfl, _, rfl, ?_⟩
    rcases bool_ft (decide ((ds2.length : Int) < 4)) with y1 | y1
    · exact iteYes (by rw [y1]; rfl) (bad "start" T2 (no2 (by rw [sk, y1, Bool.and_false])))
    refine iteNo (by rw [y1]; rfl) ?_
    have b2 : startD d2 = true := by rw [sk, y0, y1]; rfl
    -- places
    refine ⟨_, rfl, v3, d3, some 1, some 3, rfl, Dq.same T2 _ _ q3, _, rfl, ?_⟩
    rw [whole_bet]
    rcases bool_ft (betD 1 3 d3) with b3 | b3
    · refine iteYes (by rw [b3]; rfl) (bad "places" T2 ?_)
      simp only [dueD, badOf, b0, b1, b2, b3, if_true, Bool.false_eq_true, if_false, Option.none_or, Option.some_or]
    refine iteNo (by rw [b3]; rfl) ?_
    obtain ⟨n3, e3, l3, u3⟩ := bet_of b3
    have w3 : v3 = .int n3 := by
      rw [e3] at q3
      cases q3
      rfl
    subst w3
    have x3 : numD d3 = n3 := by rw [e3]; rfl
    -- ends
    refine ⟨_, rfl, _, rfl, _, _, rfl, rfl, v4, d4, some 0, some (n3 - 1), rfl, Dq.same T2 _ _ q4, m4, fun H3 S3 => ⟨_, rfl, ?_⟩⟩
    have T3 := T2.trans S3
    have no4 : endsD (numD d3) d4 = false → dueD d0 d1 d2 d3 d4 d5 d6 d7 d8 = some (.str "ends") := fun z => by
      simp only [dueD, badOf, b0, b1, b2, b3, z, if_true, Bool.false_eq_true, if_false, Option.none_or, Option.some_or]
    have ek := ends_key n3 d4
    rw [← x3] at ek
    rcases bool_ft (areD (some 0) (some (n3 - 1)) d4) with z4 | z4
    · exact iteYes (by rw [z4]; rfl) (iteYes rfl (bad "ends" T3 (no4 (by rw [ek, x3, z4]; rfl))))
    refine iteNo (by rw [z4]; rfl) ?_
    obtain ⟨ds4, e4⟩ := isT_of (Bool.and_eq_true_iff.mp z4).1
    obtain ⟨a4, xs4, rfl, f4, h4⟩ := dq_tup (e4 ▸ q4)
    have i4 : itemsD d4 = ds4 := by rw [e4]; rfl
    have ni4 : ds4.all intD = true := by
      have z := (Bool.and_eq_true_iff.mp z4).2
      rw [e4] at z
      have z : ds4.all (wholeD (some 0) (some (n3 - 1))) = true := z
      rw [List.all_eq_true] at z ⊢
      intro x hx
      have := z x hx
      cases x with
      | int i => rfl
      | _ => cases this
    obtain ⟨ly4, dp4⟩ := lay_nums ni4
    refine ⟨_, rfl, a4, xs4, ds4, rfl, .inr (T3 _ _ f4), DqAll.same T3 _ _ h4, sm_len (e4 ▸ m4), ly4, by rw [dp4]; decide, cmp_int4 ni4, fun H4 S4 => ⟨_, rfl, ?_⟩⟩
    have T4 := T3.trans S4
    rw [i4] at ek
    rcases bool_ft (ascD ds4) with y4 | y4
    · exact iteYes (by rw [y4]; rfl) (bad "ends" T4 (no4 (by rw [ek, y4, Bool.and_false])))
    refine iteNo (by rw [y4]; rfl) ?_
    have b4 : endsD (numD d3) d4 = true := by rw [ek, x3, z4, y4]; rfl
    -- logs
    refine ⟨fun σ' H' => Same H H' ∧ σ' = [some (.ref q), some (.int n0), some (.ref a1), some (.ref a2), some (.int n3), some (.ref a4), some v5, some v6, some v7, some v8, none, none, none, none, none, none, none] ∧ betD 0 2 d5 = true, ?_, ?_⟩
    · refine ⟨_, rfl, v5, d5, some 0, some 2, rfl, Dq.same T4 _ _ q5, _, rfl, ?_⟩
      rw [whole_bet]
      rcases bool_ft (betD 0 2 d5) with b5 | b5
      · refine iteYes (by rw [b5]; rfl) (bad "logs" T4 ?_)
        simp only [dueD, badOf, b0, b1, b2, b3, b4, b5, if_true, Bool.false_eq_true, if_false, Option.none_or, Option.some_or]
      exact iteNo (by rw [b5]; rfl) ⟨T4, rfl, b5⟩
    rintro _ H4 ⟨T4, rfl, b5⟩
    obtain ⟨n5, e5, l5, u5⟩ := bet_of b5
    have w5 : v5 = .int n5 := by
      rw [e5] at q5
      cases q5
      rfl
    subst w5
    have x5 : numD d5 = n5 := by rw [e5]; rfl
    have due6 : dueD d0 d1 d2 d3 d4 d5 d6 d7 d8 = (chkA (kitOf d0 d1 d2 d3 d5) d6).or ((chkT (kitOf d0 d1 d2 d3 d5) (itemsD d6) d7).or (badOf (looksD (kitOf d0 d1 d2 d3 d5) d8) "looks")) := by
      simp only [dueD, badOf, b0, b1, b2, b3, b4, b5, if_true, Option.none_or]
    have ktd : (kitOf d0 d1 d2 d3 d5).dd = ds1 := by
      show itemsD d1 = ds1
      rw [e1]
      rfl
    have kdd : deedsD (kitOf d0 d1 d2 d3 d5).pe (.tuple (kitOf d0 d1 d2 d3 d5).dd) = true := by
      rw [ktd, ← e1]
      exact b1
    have ktn : (kitOf d0 d1 d2 d3 d5).n = ds2.length := by
      show (itemsD d2).length = _
      rw [i2]
    have ktp : (kitOf d0 d1 d2 d3 d5).pl = n3 := x3
    have ktl : (kitOf d0 d1 d2 d3 d5).lo = n5 := x5
    have kte : (kitOf d0 d1 d2 d3 d5).pe = n0 := x0
    generalize kitOf d0 d1 d2 d3 d5 = kt at due6 ktd kdd ktn ktp ktl kte
    -- the kit
    refine ⟨fun σ' H' => Same H H' ∧ ∃ kv, KitAt H' kv kt ∧ σ' = [some (.ref q), some (.int n0), some (.ref a1), some (.ref a2), some (.int n3), some (.ref a4), some (.int n5), some v6, some v7, some v8, some kv, none, none, none, none, none, none], ?_, ?_⟩
    · refine ⟨_, rfl, a1, rfl, ⟨_, SqT.of (T4 _ _ f1)⟩, fun B nB => ?_⟩
      refine lc_tup (K := K) (a := a1) (xs := xs1) (fun i H5 => MadeQ H4 B ((ds1.take i).map (itemD 0)) H5) (MadeQ.start nB) (fun i H5 _ M => SqT.of (M.1 _ _ (T4 _ _ f1))) ?_ ?_
      · rintro i x H5 hx M5
        obtain ⟨d', hd', hq'⟩ := DqAll.at h1 hx
        have hi : i < ds1.length := (List.getElem?_eq_some_iff.mp hd').1
        have hdd := b1
        rw [e1] at hdd
        simp only [deedsD, Bool.and_eq_true] at hdd
        have hdd := all_at (f := deedD (numD d0)) hdd.2.1 hi
        rw [getD_of hd'] at hdd
        obtain ⟨lt, ow, rfl, _, _, _⟩ := deed_of hdd
        cases hq' with
        | tup e' ha' =>
          cases ha' with
          | cons r1 r2 =>
            cases r2 with
            | cons r3 r4 =>
              cases r4
              rename_i b y0' y1'
              refine ⟨b, _, rfl, SqT.of (M5.1 _ _ (T4 _ _ e')), rfl, y0', _, rfl, y1', _, rfl, rfl, rfl, ?_⟩
              refine ⟨_, rfl, ?_⟩
              exact M5.turn nB (Same.refl _) (sm_len (e1 ▸ m1)) hd' (Dq.same T4 _ y0' r1)
      rintro H5 M5
      rw [h1.len, List.take_length] at M5
      obtain ⟨S5, ys5, hy5, hq5⟩ := M5
      have T5 := T4.trans S5
      refine ⟨_, rfl, a2, xs2, rfl, .inr (SqT.of (T5 _ _ f2)), _, rfl, _, rfl, (by show 4 ≤ sizeLine; decide), fun p6 np6 => ?_⟩
      rw [h2.len]
      have S6 := same_new (o := .tup [V.ref B, V.int (ds2.length : Int), V.int n3, V.int n5]) np6
      have f6 : (upd H5 p6 (.tup [V.ref B, V.int (ds2.length : Int), V.int n3, V.int n5])) p6 = some (.tup [V.ref B, V.int (ds2.length : Int), V.int n3, V.int n5]) := upd_same
      revert S6 f6
      generalize upd H5 p6 (.tup [V.ref B, V.int (ds2.length : Int), V.int n3, V.int n5]) = H6
      intro S6 f6
      have T6 := T5.trans S6
      have kat : KitAt H6 (.ref p6) kt := by
        refine ⟨⟨p6, B, ys5, rfl, ?_, S6 _ _ hy5, ?_⟩, kdd⟩
        · rw [ktn, ktp, ktl]
          exact f6
        · rw [ktd]
          exact DqAll.same (S5.trans S6) _ _ hq5
      exact ⟨T6, _, kat, rfl⟩
    rintro _ H6 ⟨T6, kv, kat, rfl⟩
    -- arrows
    refine ⟨_, rfl, v6, d6, "tuple", rfl, by decide, Dq.same T6 _ _ q6, _, rfl, ?_⟩
    have tyA : isA "tuple" d6 = isTupD d6 := by cases d6 <;> rfl
    rw [tyA]
    rcases bool_ft (isTupD d6) with z6 | z6
    · refine iteNo z6 ⟨(by show 0 ≤ sizeLine; decide), fun g ng => ?_⟩
      have S7 := same_new (o := .lst []) ng
      have T7 := T6.trans S7
      refine ⟨_, rfl, _, rfl, v6, d6, "arrows", g, fun _ => true, rfl, Dq.same T7 _ _ q6, m6, fun ds e => (by rw [e] at z6; cases z6), fun H8 r8 ys8 S8 hr8 ho8 => ?_⟩
      refine ⟨fun _ _ => False, ?_, fun _ _ z => z.elim⟩
      refine ⟨_, rfl, (by show 0 ≤ sizeLine; decide), fun p np => ⟨r8, p, ys8, rfl, rfl, same_new np _ _ hr8, upd_same, _, rfl, ?_⟩⟩
      have ef : firstOf (fun _ => true) "arrows" d6 = some (.str "arrows") := by
        unfold firstOf
        rw [z6]
        rfl
      have dz : dueD d0 d1 d2 d3 d4 d5 d6 d7 d8 = some (.str "arrows") := by
        rw [due6]
        unfold chkA
        rw [z6]
        rfl
      rw [ef] at ho8
      obtain ⟨y8, rfl, hy8⟩ := ho8
      refine iteYes rfl ⟨_, rfl, k _ r8 _ (T7.trans (S8.trans (same_new np))) (same_new np _ _ hr8) ?_⟩
      rw [dz]
      exact ⟨y8, rfl, Dq.same (same_new np) _ _ hy8⟩
    refine iteYes z6 ?_
    obtain ⟨as, e6⟩ := isT_of z6
    obtain ⟨a6, xs6, rfl, f6', h6⟩ := dq_tup (e6 ▸ q6)
    have m6' : smB (.tuple as) = true := e6 ▸ m6
    refine ⟨_, rfl, a6, rfl, ⟨_, SqT.of (T6 _ _ f6')⟩, fun g ng => ?_⟩
    refine lc_tup (K := K) (a := a6) (xs := xs6) (fun i H7 => MadeTo H6 g (((as.take i).map (arrowD kt)).map V.bl) H7) ⟨same_new ng, upd_same⟩ (fun i H7 _ M => SqT.of (M.1 _ _ (T6 _ _ f6'))) ?_ ?_
    · rintro i x H7 hx M
      obtain ⟨d', hd', hq'⟩ := DqAll.at h6 hx
      exact ⟨rfl, _, rfl, _, rfl, x, kv, d', kt, rfl, kat.same M.1, Dq.same (T6.trans M.1) _ _ hq', sm_at (sm_all m6') hd', fun H8 S8 => M.turn ng S8 (sm_len m6') hd'⟩
    rintro H7 M7
    rw [h6.len, List.take_length] at M7
    have T7 := T6.trans M7.1
    refine ⟨_, rfl, _, rfl, .ref a6, d6, "arrows", g, arrowD kt, rfl, Dq.same T7 _ _ q6, m6, fun ds e => (by rw [e6] at e; cases e; exact M7.2), fun H8 r8 ys8 S8 hr8 ho8 => ?_⟩
    have T8 := T7.trans S8
    refine ⟨fun σ' H' => Same H H' ∧ KitAt H' kv kt ∧ (as.find? (fun x => !arrowD kt x)) = none ∧ chkA kt d6 = badOf (ascD (as.map cut2)) "arrows" ∧ ∃ o1 o2, σ' = [some (.ref q), some (.int n0), some (.ref a1), some (.ref a2), some (.int n3), some (.ref a4), some (.int n5), some (.ref a6), some v7, some v8, some kv, o1, o2, none, none, none, none], ?_, ?_⟩
    · refine ⟨_, rfl, (by show 0 ≤ sizeLine; decide), fun p9 np9 => ⟨r8, p9, ys8, rfl, rfl, same_new np9 _ _ hr8, upd_same, _, rfl, ?_⟩⟩
      have S9 := same_new (o := .lst []) np9
      revert S9
      generalize upd H8 p9 (.lst []) = H9
      intro S9
      have T9 := T8.trans S9
      have ef : firstOf (arrowD kt) "arrows" d6 = as.find? fun x => !arrowD kt x := by
        unfold firstOf
        rw [z6, if_pos rfl, e6]
        rfl
      have ec : chkA kt d6 = (as.find? fun x => !arrowD kt x).or (badOf (ascD (as.map cut2)) "arrows") := by
        unfold chkA
        rw [z6, if_pos rfl, e6]
        rfl
      rw [ef] at ho8
      cases eo : as.find? (fun x => !arrowD kt x) with
      | some it =>
        rw [eo] at ho8 ec
        obtain ⟨y8, rfl, hy8⟩ := ho8
        refine iteYes rfl ⟨_, rfl, k _ r8 _ T9 (S9 _ _ hr8) ?_⟩
        rw [due6, ec]
        exact ⟨y8, rfl, Dq.same S9 _ _ hy8⟩
      | none =>
      rw [eo] at ho8 ec
      have ho8 : ys8 = [] := ho8
      subst ho8
      exact iteNo rfl ⟨T9, kat.same (M7.1.trans (S8.trans S9)), rfl, ec, _, _, rfl⟩
    rintro _ H9 ⟨T9, kat9, eo, ec, og, oo, rfl⟩
    have aA : as.all (arrowD kt) = true := by
      rw [List.find?_eq_none] at eo
      rw [List.all_eq_true]
      intro x hx
      simpa using eo x hx
    -- ways
    refine ⟨fun σ' H' => Same H H' ∧ KitAt H' kv kt ∧ ∃ D ysD, H' D = some (.lst ysD) ∧ DqAll H' ysD (as.map cut2) ∧ σ' = [some (.ref q), some (.int n0), some (.ref a1), some (.ref a2), some (.int n3), some (.ref a4), some (.int n5), some (.ref a6), some v7, some v8, some kv, og, oo, some (.ref D), none, none, none], ?_, ?_⟩
    · refine ⟨_, rfl, a6, rfl, ⟨_, SqT.of (T9 _ _ f6')⟩, fun D nD => ?_⟩
      refine lc_tup (K := K) (a := a6) (xs := xs6) (fun i H2 => MadeN H9 D ((as.take i).map cut2) H2) (MadeN.start nD) (fun i H2 _ M => SqT.of (M.same _ _ (T9 _ _ f6'))) ?_ ?_
      · rintro i x H2 hx M
        obtain ⟨d', hd', hq'⟩ := DqAll.at h6 hx
        obtain ⟨i1, x1, t1, ff1, mm1, rfl, _⟩ := arrow_of kdd (List.all_eq_true.mp aA d' (List.mem_of_getElem? hd'))
        cases hq' with
        | @tup c zs _ e' hza =>
          have hl : zs.length = 5 := hza.len
          refine ⟨rfl, _, rfl, _, rfl, c, zs, rfl, SqT.of (M.same _ _ (T9 _ _ e')), not_whole zs (by omega), fun p np => ?_⟩
          rw [cut_two zs (by omega)]
          obtain ⟨acc, j1, j2, j3⟩ := M.turn np (DqAll.same T9 _ _ (hza.take 2))
          refine ⟨acc, j1, ?_, ?_⟩
          · rw [j2, List.length_map, List.length_take]
            have := sm_len m6'
            rw [sizeLine_eq]
            omega
          · rw [take_map hd']
            exact j3
      rintro H10 M10
      rw [h6.len, List.take_length] at M10
      obtain ⟨J, ysD, SJ1, _, SJ2, hyD, hqD⟩ := M10
      have S10 := SJ1.trans SJ2
      have T10 := T9.trans S10
      have hqD := DqAll.same SJ2 _ _ hqD
      exact ⟨T10, kat9.same S10, D, ysD, hyD, hqD, rfl⟩
    rintro _ H10 ⟨T10, kat10, D, ysD, hyD, hqD, rfl⟩
    obtain ⟨la1, la2⟩ := lay_arrows kdd aA
    obtain ⟨lc1, lc2⟩ := lay_cuts kdd aA
    have noA : ascD (as.map cut2) = false → dueD d0 d1 d2 d3 d4 d5 d6 d7 d8 = some (.str "arrows") := fun z => by
      rw [due6, ec, z]
      rfl
    refine ⟨fun σ' H' => Same H H' ∧ KitAt H' kv kt ∧ H' D = some (.lst ysD) ∧ DqAll H' ysD (as.map cut2) ∧ ascD (as.map cut2) = true ∧ σ' = [some (.ref q), some (.int n0), some (.ref a1), some (.ref a2), some (.int n3), some (.ref a4), some (.int n5), some (.ref a6), some v7, some v8, some kv, og, oo, some (.ref D), none, none, none], ?_, ?_⟩
    · refine ⟨_, rfl, a6, xs6, as, rfl, .inr (T10 _ _ f6'), DqAll.same T10 _ _ h6, sm_len m6', la1, Nat.le_trans la2 (by decide), cmp_arrows kdd aA, fun H11 S11 => ⟨_, rfl, ?_⟩⟩
      have T11 := T10.trans S11
      rcases bool_ft (ascD as) with y6 | y6
      · refine iteYes (by rw [y6]; rfl) (iteYes rfl (bad "arrows" T11 (noA ?_)))
        rcases bool_ft (ascD (as.map cut2)) with z | z
        · exact z
        · rw [asc_of_cuts kdd aA z] at y6
          cases y6
      refine iteNo (by rw [y6]; rfl) ?_
      refine ⟨_, rfl, D, ysD, as.map cut2, rfl, .inl (S11 _ _ hyD), DqAll.same S11 _ _ hqD, by rw [List.length_map]; exact sm_len m6', lc1, Nat.le_trans lc2 (by decide), cmp_cuts kdd aA, fun H12 S12 => ⟨_, rfl, ?_⟩⟩
      have T12 := T11.trans S12
      rcases bool_ft (ascD (as.map cut2)) with y7 | y7
      · exact iteYes (by rw [y7]; rfl) (bad "arrows" T12 (noA y7))
      exact iteNo (by rw [y7]; rfl) ⟨T12, kat10.same (S11.trans S12), (S11.trans S12) _ _ hyD, DqAll.same (S11.trans S12) _ _ hqD, y7, rfl⟩
    rintro _ H12 ⟨T12, kat12, hyD12, hqD12, y7, rfl⟩
    have i6 : itemsD d6 = as := by rw [e6]; rfl
    have due7 : dueD d0 d1 d2 d3 d4 d5 d6 d7 d8 = (chkT kt as d7).or (badOf (looksD kt d8) "looks") := by
      rw [due6, ec, y7, i6]
      rfl
    -- tests
    refine ⟨_, rfl, v7, d7, "tuple", rfl, by decide, Dq.same T12 _ _ q7, _, rfl, ?_⟩
    have tyT : isA "tuple" d7 = isTupD d7 := by cases d7 <;> rfl
    rw [tyT]
    rcases bool_ft (isTupD d7) with z7 | z7
    · refine iteNo z7 ⟨(by show 0 ≤ sizeLine; decide), fun g2 ng2 => ?_⟩
      have S13 := same_new (o := .lst []) ng2
      have T13 := T12.trans S13
      refine ⟨_, rfl, _, rfl, v7, d7, "tests", g2, fun _ => true, rfl, Dq.same T13 _ _ q7, m7, fun ds e => (by rw [e] at z7; cases z7), fun H14 r14 ys14 S14 hr14 ho14 => ?_⟩
      refine ⟨fun _ _ => False, ?_, fun _ _ z => z.elim⟩
      refine ⟨_, rfl, (by show 0 ≤ sizeLine; decide), fun p np => ⟨r14, p, ys14, rfl, rfl, same_new np _ _ hr14, upd_same, _, rfl, ?_⟩⟩
      have ef : firstOf (fun _ => true) "tests" d7 = some (.str "tests") := by
        unfold firstOf
        rw [z7]
        rfl
      have dz : dueD d0 d1 d2 d3 d4 d5 d6 d7 d8 = some (.str "tests") := by
        rw [due7]
        unfold chkT
        rw [z7]
        rfl
      rw [ef] at ho14
      obtain ⟨y14, rfl, hy14⟩ := ho14
      refine iteYes rfl ⟨_, rfl, k _ r14 _ (T13.trans (S14.trans (same_new np))) (same_new np _ _ hr14) ?_⟩
      rw [dz]
      exact ⟨y14, rfl, Dq.same (same_new np) _ _ hy14⟩
    refine iteYes z7 ?_
    obtain ⟨ts, e7⟩ := isT_of z7
    obtain ⟨a7, xs7, rfl, f7, h7⟩ := dq_tup (e7 ▸ q7)
    have m7' : smB (.tuple ts) = true := e7 ▸ m7
    refine ⟨_, rfl, a7, rfl, ⟨_, SqT.of (T12 _ _ f7)⟩, fun g2 ng2 => ?_⟩
    refine lc_tup (K := K) (a := a7) (xs := xs7) (fun i H2 => MadeTo H12 g2 (((ts.take i).map (testT kt as)).map V.bl) H2) ⟨same_new ng2, upd_same⟩ (fun i H2 _ M => SqT.of (M.1 _ _ (T12 _ _ f7))) ?_ ?_
    · rintro i x H2 hx M
      obtain ⟨d', hd', hq'⟩ := DqAll.at h7 hx
      exact ⟨rfl, _, rfl, _, rfl, _, rfl, x, kv, d', kt, as, D, ysD, rfl, kat12.same M.1, M.1 _ _ hyD12, DqAll.same M.1 _ _ hqD12, aA, Dq.same (T12.trans M.1) _ _ hq', sm_at (sm_all m7') hd', fun H3 S3 => M.turn ng2 S3 (sm_len m7') hd'⟩
    rintro H13 M13
    rw [h7.len, List.take_length] at M13
    have T13 := T12.trans M13.1
    refine ⟨_, rfl, _, rfl, .ref a7, d7, "tests", g2, testT kt as, rfl, Dq.same T13 _ _ q7, m7, fun ds e => (by rw [e7] at e; cases e; exact M13.2), fun H14 r14 ys14 S14 hr14 ho14 => ?_⟩
    have T14 := T13.trans S14
    refine ⟨fun σ' H' => Same H H' ∧ (ts.find? (fun x => !testT kt as x)) = none ∧ chkT kt as d7 = badOf (ascD ts) "tests" ∧ ∃ o1 o2, σ' = [some (.ref q), some (.int n0), some (.ref a1), some (.ref a2), some (.int n3), some (.ref a4), some (.int n5), some (.ref a6), some (.ref a7), some v8, some kv, o1, o2, some (.ref D), none, none, none], ?_, ?_⟩
    · refine ⟨_, rfl, (by show 0 ≤ sizeLine; decide), fun p15 np15 => ⟨r14, p15, ys14, rfl, rfl, same_new np15 _ _ hr14, upd_same, _, rfl, ?_⟩⟩
      have S15 := same_new (o := .lst []) np15
      revert S15
      generalize upd H14 p15 (.lst []) = H15
      intro S15
      have T15 := T14.trans S15
      have ef7 : firstOf (testT kt as) "tests" d7 = ts.find? fun x => !testT kt as x := by
        unfold firstOf
        rw [z7, if_pos rfl, e7]
        rfl
      have ec7 : chkT kt as d7 = (ts.find? fun x => !testT kt as x).or (badOf (ascD ts) "tests") := by
        unfold chkT
        rw [z7, if_pos rfl, e7]
        rfl
      rw [ef7] at ho14
      cases eo7 : ts.find? (fun x => !testT kt as x) with
      | some it =>
        rw [eo7] at ho14 ec7
        obtain ⟨y14, rfl, hy14⟩ := ho14
        refine iteYes rfl ⟨_, rfl, k _ r14 _ T15 (S15 _ _ hr14) ?_⟩
        rw [due7, ec7]
        exact ⟨y14, rfl, Dq.same S15 _ _ hy14⟩
      | none =>
      rw [eo7] at ho14 ec7
      have ho14 : ys14 = [] := ho14
      subst ho14
      exact iteNo rfl ⟨T15, rfl, ec7, _, _, rfl⟩
    rintro _ H15 ⟨T15, eo7, ec7, og2, oo2, rfl⟩
    have aT : ts.all (testD kt) = true := by
      rw [List.find?_eq_none] at eo7
      rw [List.all_eq_true]
      intro x hx
      have := eo7 x hx
      have : testT kt as x = true := by simpa using this
      exact (Bool.and_eq_true_iff.mp this).1
    obtain ⟨lt1, lt2⟩ := lay_tests kdd aT
    refine ⟨_, rfl, a7, xs7, ts, rfl, .inr (T15 _ _ f7), DqAll.same T15 _ _ h7, sm_len m7', lt1, Nat.le_trans lt2 (by decide), cmp_tests kdd aT, fun H16 S16 => ⟨_, rfl, ?_⟩⟩
    have T16 := T15.trans S16
    rcases bool_ft (ascD ts) with y8 | y8
    · refine iteYes (by rw [y8]; rfl) (bad "tests" T16 ?_)
      rw [due7, ec7, y8]
      rfl
    refine iteNo (by rw [y8]; rfl) ?_
    have due8 : dueD d0 d1 d2 d3 d4 d5 d6 d7 d8 = badOf (looksD kt d8) "looks" := by
      rw [due7, ec7, y8]
      rfl
    -- looks
    refine ⟨_, rfl, _, rfl, _, rfl, _, rfl, a2, xs2, rfl, .inr (SqT.of (T16 _ _ f2)), v8, d8, kt, (by rw [h2.len, kte, ktp, ktn]; rfl), Dq.same T16 _ _ q8, m8, fun H17 S17 => ⟨_, rfl, ?_⟩⟩
    have T17 := T16.trans S17
    rcases bool_ft (looksD kt d8) with y9 | y9
    · refine iteNo y9 (bad "looks" T17 ?_)
      rw [due8, y9]
      rfl
    · refine iteYes y9 ⟨(by show 0 ≤ sizeLine; decide), fun p np => ?_⟩
      refine k _ p _ (T17.trans (same_new np)) upd_same ?_
      rw [due8, y9]
      rfl
end
end KL
set_option Elab.async false
set_option linter.all false
set_option maxRecDepth 100000
set_option maxHeartbeats 2000000
namespace KL
open PySem L2 PySem.KX PySem.Spec PyProof.Rows
section
variable {X : Cx} {pins : List (Addr × Obj)} {σ : L2.St} {H : Hp} {s : Shared}
theorem most_two {h : Heap} {n m : Nat} {as bs : List Addr} (x : ReadAtMost h n as) (y : ReadAtMost h m bs) : ReadAtMost h (max n m) (as ++ bs) :=
  (x.mono (Nat.le_max_left n m)).append (y.mono (Nat.le_max_right n m))
mutual
theorem Dq.repr (I : Inv X pins σ H s) : ∀ (d : PyData) (v : V) (u : Value), Dq H v d → RelV v u → d.showable = true → d.shown.length ≤ sizeLine → ∃ bs, ReadAtMost s.heap d.depth bs ∧ ReprK X.prog X.w bs s.heap d.depth u d.shown
  | .list ds, v, u, h, r, w, z => by
    obtain ⟨as, rd, _⟩ := Dq.reads I (.list ds) v u h r
    cases h with
    | lst q ha =>
      cases r
      obtain ⟨_, its, n, rv, ho⟩ := I.hok _ _ q
      have z : (listText (PyData.shownAll ds)).length ≤ sizeLine := by simpa only [PyData.shown] using z
      obtain ⟨bs, h1, h2⟩ := DqAll.repr I ds _ its ha rv (by simpa [PyData.showable] using w) fun t ht => Nat.le_trans (listText_mem_le ht) z
      have out := not_mem_of_deeper rd (n := PyData.depthAll ds) (Nat.lt_succ_self _) h1
      refine ⟨_ :: bs, ReadAtMost.cons rd (Nat.le_succ (PyData.depthAll ds)) h1, ?_⟩
      rw [PyData.depth, PyData.shown]
      cases its with
      | nil =>
        cases ds with
        | nil =>
          rw [PyData.shownAll, listText_nil]
          exact ReprK.listEmpty ho rfl rfl
        | cons d ds => cases h2
      | cons x l => exact ReprK.list ho rfl rfl out (h2.length_eq.trans (by simp)) fun i y e => h2.item i y (by simpa using e)
  | .tuple ds, v, u, h, r, w, z => by
    obtain ⟨as, rd, _⟩ := Dq.reads I (.tuple ds) v u h r
    cases h with
    | tup q ha =>
      cases r
      obtain ⟨_, its, rv, o, o1, o2, n, o3⟩ := I.hok _ _ q
      have z : (tupleText (PyData.shownAll ds)).length ≤ sizeLine := by simpa only [PyData.shown] using z
      obtain ⟨bs, h1, h2⟩ := DqAll.repr I ds _ its ha rv (by simpa [PyData.showable] using w) fun t ht => Nat.le_trans (tupleText_mem_le ht) z
      refine ⟨_ :: bs, ReadAtMost.cons rd (Nat.le_succ (PyData.depthAll ds)) h1, ?_⟩
      rw [PyData.depth, PyData.shown]
      exact ReprK.tuple o1 o2 o3 (not_mem_of_deeper rd (n := PyData.depthAll ds) (Nat.lt_succ_self _) h1) h2
  | .none, v, u, h, r, w, z => let ⟨_, rd, _⟩ := Dq.reads I _ v u h r; ReprK.of_reads rd w (fun x => by cases x) z
  | .bool _, v, u, h, r, w, z => let ⟨_, rd, _⟩ := Dq.reads I _ v u h r; ReprK.of_reads rd w (fun x => by cases x) z
  | .int _, v, u, h, r, w, z => let ⟨_, rd, _⟩ := Dq.reads I _ v u h r; ReprK.of_reads rd w (fun x => by cases x) z
  | .str _, v, u, h, r, w, z => let ⟨_, rd, _⟩ := Dq.reads I _ v u h r; ReprK.of_reads rd w (fun x => by cases x) z
  | .dict _, v, u, h, r, w, z => let ⟨_, rd, sm⟩ := Dq.reads I _ v u h r; ReprK.of_reads rd w (fun _ => sm rfl) z
theorem DqAll.repr (I : Inv X pins σ H s) : ∀ (ds : List PyData) (vs : List V) (us : List Value), DqAll H vs ds → Vals vs us → PyData.showableAll ds = true → (∀ t ∈ PyData.shownAll ds, t.length ≤ sizeLine) →
    ∃ bs, ReadAtMost s.heap (PyData.depthAll ds) bs ∧ ReprAllK X.prog X.w bs s.heap (PyData.depthAll ds) us (PyData.shownAll ds)
  | [], _, _, h, r, _, _ => by
    cases h
    cases r
    exact ⟨[], (fun _ x => nomatch x), ReprAllK.nil⟩
  | d :: ds, _, _, h, r, w, z => by
    cases h with
    | cons h1 h2 =>
      cases r with
      | cons r1 r2 =>
        have w' := Bool.and_eq_true_iff.mp (show (d.showable && PyData.showableAll ds) = true from w)
        obtain ⟨b1, k1, j1⟩ := Dq.repr I d _ _ h1 r1 w'.1 (z _ (.head _))
        obtain ⟨b2, k2, j2⟩ := DqAll.repr I ds _ _ h2 r2 w'.2 fun t ht => z t (.tail _ ht)
        refine ⟨b1 ++ b2, most_two k1 k2, .cons ((j1.more fun b hb => ?_).level_le (Nat.le_max_left _ _)) (j2.more_le (fun b hb => ?_) (Nat.le_max_right _ _))⟩
        · exact List.mem_append_left b2 hb
        · exact List.mem_append_right b1 hb
end
end
/-- what the text of data needs -/
structure Seen (d : PyData) : Prop where
  w : d.showable = true
  z : d.shown.length ≤ 4000000
  p : d.depth ≤ 20
/-- repr of a list with items -/
def rRepL : List V → Hp → VK → Prop := fun xs H Q => ∃ (q : Addr) (v : V) (vs : List V) (d : PyData) (ds : List PyData), xs = [.ref q] ∧ H q = some (.lst (v :: vs)) ∧ DqAll H (v :: vs) (d :: ds) ∧ Seen (.list (d :: ds)) ∧ Q (.str (PyData.list (d :: ds)).shown) H
theorem call_repL {X : Cx} (hG : X.A.guards = some []) (hu : X.A.units + 64 < cLine) : CallR X (.builtin "repr") rRepL := by
  intro pins s σ H xs us Q I r h
  obtain ⟨q, v, vs, d, ds, rfl, hq, hd, S, k⟩ := h
  obtain ⟨u, rfl, ru⟩ := vals1 r
  cases (show u = Value.ref q from ru)
  obtain ⟨as, rd, _⟩ := Dq.reads I (.list (d :: ds)) (.ref q) (.ref q) (.lst hq hd) rfl
  obtain ⟨_, its, n, rv, ho⟩ := I.hok _ _ hq
  cases rv with
  | cons r1 rv =>
    rename_i u1 us1
    have zz : (PyData.list (d :: ds)).shown.length ≤ sizeLine := Nat.le_trans S.z (by rw [sizeLine_eq]; omega)
    have z : (listText (PyData.shownAll (d :: ds))).length ≤ sizeLine := by simpa only [PyData.shown] using zz
    obtain ⟨bs, h1, h2⟩ := DqAll.repr I (d :: ds) _ (u1 :: us1) hd (.cons r1 rv) (by simpa [PyData.showable] using S.w) fun t ht => Nat.le_trans (listText_mem_le ht) z
    have out := not_mem_of_deeper rd (n := PyData.depthAll (d :: ds)) (Nat.lt_succ_self _) h1
    have dp : PyData.depthAll (d :: ds) + 1 ≤ 20 := S.p
    refine call_repr_slot (T := "list") (idr := "list.__repr__") (by omega) ⟨_, ho, rfl⟩ F.slot_list_repr.toG ?_
    refine call_list_reprK (ts := PyData.shownAll (d :: ds)) (d := PyData.depthAll (d :: ds)) ho rfl rfl out (h2.length_eq.trans (by simp)) (fun i y e => h2.item i y (by simpa using e)) (g := []) hG (fun b _ => Clear.nil b) (by show X.A.units + 1 + (PyData.depthAll (d :: ds) + 1) < cLine; omega) (fun b o e => e) (fun h' u tk hk => ⟨_, _, rfl, .str _, H, I.kept hk, ⟨u, by simp only [PyData.shown]⟩, k⟩) z
end KL
set_option Elab.async false
set_option linter.all false
set_option maxRecDepth 100000
set_option maxHeartbeats 4000000
namespace KL
open PySem L2 PySem.KX PySem.Spec PyProof.Rows
/-- C(..), where __init__ may raise: what is wished of that may hang on the slots -/
def tMkS (C : Addr) (sp : Sp) (E : L2.St → XK) (g : List V → List V) (t : TA) : TE := fun σ H Q => t σ H fun vs H1 => ∀ x dx, H1 x = none → H1 dx = none → dx ≠ x → sp (.ref x :: g vs) (upd (upd H1 dx (.own x)) x (.ins C dx [])) (fun v H2 => v = .non ∧ Q (.ref x) H2) (E σ)
/-- C(k = v, ..), the keywords in the other order -/
def tMkKS (C : Addr) (n : Nat) (sp : Sp) (E : L2.St → XK) (t : TA) : TE := fun σ H Q => t σ H fun zs H1 => zs.length = n ∧ ∀ x dx, H1 x = none → H1 dx = none → dx ≠ x → sp (.ref x :: zs.reverse) (upd (upd H1 dx (.own x)) x (.ins C dx [])) (fun v H2 => v = .non ∧ Q (.ref x) H2) (E σ)
theorem vals_rev : ∀ {vs : List V} {us : List Value}, Vals vs us → Vals vs.reverse us.reverse
  | [], _, h => by
    cases h
    exact .nil
  | v :: vs, _, h => by
    cases h with
    | cons r rs =>
      rw [List.reverse_cons, List.reverse_cons]
      exact (vals_rev rs).append (.cons r .nil)
section
variable {X : Cx} {CX : CXT} {k : Nat} {f C : Addr} {fd : FuncData} {ps ks : List Str} {sp : Sp} {E : XK} {x : Str} {p pos : Pos} {e : Expr} {es : List Expr} {kws : List Keyword} {t : TA}
theorem run_mkS {pins : List (Addr × Obj)} {σ : L2.St} {H : Hp} {s : Shared} {Q : VK} {us bs : List Value} {vs : List V} {kw : List (Str × Value)} (M : Mk X.K C f) (F : FnOk X.prog X.w X.K X.mg X.base CX k f fd ps sp) (hr : Room (k + 1) X.A)
    (hb : ∀ (s2 : Shared) (a : Addr), X.K.In s2.heap → BindsTo s2 fd ⟨.ref a :: us, kw⟩ (ps.zip (.ref a :: bs))) (hx : PassesAt CX X σ E) (I : Inv X pins σ H s) (r : Vals vs bs)
    (h : ∀ x dx, H x = none → H dx = none → dx ≠ x → sp (.ref x :: vs) (upd (upd H dx (.own x)) x (.ins C dx [])) (fun v H2 => v = .non ∧ Q (.ref x) H2) E) : wpAny (model X.prog X.w) X.A (call (.ref C) us kw) (EP X pins σ Q) X.xe s := by
  have I2 := Inv.made (C := C) I
  have q := h (s.heap.objs.size + 1) s.heap.objs.size (I.hok.fresh (Nat.le_succ _)) (I.hok.fresh (Nat.le_refl _)) (Nat.ne_of_lt (Nat.lt_succ_self _))
  refine wpAny_call (make_map (f := f) I.kIn M.makes M.init (beq_iff_eq.mp M.fn) (codeAny_mono (F.run _ X.stack _ _ _ _ _ _ E (hr.make C us kw) (I2.env0.make C us kw) (hb _ _ I2.kIn) (show Vals (V.ref (s.heap.objs.size + 1) :: vs) (Value.ref (s.heap.objs.size + 1) :: bs) from .cons rfl r) q) fun res s2 y => ?_))
  match res, y with
  | .error er, y => exact hx pins _ _ er s2 I2 y
  | .ok (.ret u), y =>
    obtain ⟨v, H3, I3, rv, ev, q3⟩ := I2.after y
    subst ev
    exact ⟨rv, V.ref (s.heap.objs.size + 1), H3, I3, rfl, q3⟩
  | .ok .next, y => exact False.elim y
  | .ok .brk, y => exact False.elim y
  | .ok .cont, y => exact False.elim y
theorem pe_mkS {E : L2.St → XK} (M : Mk X.K C f) (F : FnOk X.prog X.w X.K X.mg X.base CX k f fd ps sp) (hr : Room (k + 1) X.A) (hg : Gl X x) (hm : X.mg x = some (.ref C)) (hb : L2.Binds X.K fd ps []) (hx : ∀ σ, PassesAt CX X σ (E σ)) (ha : PA X (e :: es) t)
    (hdb : (x == ("__debug__" : Str)) = false := by decide) (he : starEach (e :: es) X.env = (false, eval e X.env) :: starEach es X.env := by rfl) (hpl : (backTo pos (starEach es X.env)).any (·.1) = false := by rfl) :
    PE X (.Call (.Name x p) (e :: es) [] pos) (tMkS C sp E id t) := by
  refine ⟨fun pins s σ H Q I h => wpAny_Call_Name_kw (ld_glob I hg hm ?_ hdb)⟩
  refine PySem.W.callWith_K (h₀ := X.base) I.ok.mod.kin M.kp (thn (ha.run pos pins s σ H _ I h) fun us s1 ⟨vs, H1, I1, r, q⟩ => ⟨I1.kIn, ?_⟩) he hpl
  have ln : us.length + 1 = ps.length := by
    have z := F.len _ _ _ _ (q (s1.heap.objs.size + 1) s1.heap.objs.size (I1.hok.fresh (Nat.le_succ _)) (I1.hok.fresh (Nat.le_refl _)) (Nat.ne_of_lt (Nat.lt_succ_self _)))
    rw [← z, ← r.length]
    rfl
  refine run_mkS (bs := us) M F hr (fun s2 a K2 => ?_) (hx σ) I1 r q
  have b := hb s2 (.ref a :: us) K2 (by rw [List.append_nil]; exact ln)
  rwa [List.append_nil] at b
theorem pe_mkKS {E : L2.St → XK} (M : Mk X.K C f) (F : FnOk X.prog X.w X.K X.mg X.base CX k f fd ps sp) (hr : Room (k + 1) X.A) (hg : Gl X x) (hm : X.mg x = some (.ref C))
    (hb : ∀ (s2 : Shared) (a : Addr) (ws : List Value), X.K.In s2.heap → ws.length = ks.length → BindsTo s2 fd ⟨[.ref a], ks.zip ws⟩ (ps.zip (.ref a :: ws.reverse))) (hx : ∀ σ, PassesAt CX X σ (E σ)) (hkw : PK X kws t)
    (hall : (backToKw pos (keywordEach kws X.env)).all (·.1.isSome) = true := by rfl) (hks : (backToKw pos (keywordEach kws X.env)).filterMap (·.1) = ks := by rfl) (hdb : (x == ("__debug__" : Str)) = false := by decide)
    (hpl : ((backTo pos (starEach [] X.env)).any (·.1) || (backToKw pos (keywordEach kws X.env)).any (·.1.isNone)) = false := by rfl) : PE X (.Call (.Name x p) [] kws pos) (tMkKS C ks.length sp E t) := by
  refine ⟨fun pins s σ H Q I hq => wpAny_Call_Name_kw (ld_glob I hg hm ?_ hdb)⟩
  refine PySem.W.callWith_KW0 (h₀ := X.base) I.ok.mod.kin M.kp hall (thn (hkw.run pos pins s σ H _ I hq) fun ws s2 ⟨zs, H2, I2, rz, lz, q⟩ => ⟨I2.kIn, ?_⟩) hpl
  rw [hks]
  exact run_mkS (us := []) M F hr (fun s3 a K3 => hb s3 a ws K3 (rz.length.symm.trans lz)) (hx σ) I2 (vals_rev rz) q
end
end KL
set_option Elab.async false
set_option linter.all false
set_option maxRecDepth 100000
set_option maxHeartbeats 8000000
namespace KL
open PySem L2 PySem.KX PySem.Spec PyProof.Rows
def spMade (C : Addr) : Sp := fun vs H Q _ => ∃ (q : Addr) (nm : Bool) (v0 v1 v2 v3 v4 v5 v6 v7 v8 : V) (d0 d1 d2 d3 d4 d5 d6 d7 d8 : PyData), vs = [.ref q, .bl nm] ∧ H q = some (.lst [v0, v1, v2, v3, v4, v5, v6, v7, v8]) ∧
  Dq H v0 d0 ∧ Dq H v1 d1 ∧ Dq H v2 d2 ∧ Dq H v3 d3 ∧ Dq H v4 d4 ∧ Dq H v5 d5 ∧ Dq H v6 d6 ∧ Dq H v7 d7 ∧ Dq H v8 d8 ∧
  (smB d0 && smB d1 && smB d2 && smB d3 && smB d4 && smB d5 && smB d6 && smB d7 && smB d8) = true ∧
  (dueD d0 d1 d2 d3 d4 d5 d6 d7 d8 = none → ∀ H' x dx fs, Same H H' → H' x = some (.ins C dx fs) → fsOf v0 v1 v2 v3 v4 v5 v6 v7 v8 fs → Q (.ref x) H') ∧
  ∀ it, dueD d0 d1 d2 d3 d4 d5 d6 d7 d8 = some it → ∀ H' r y, Same H H' → H' r = some (.lst [y, .bl true]) → Dq H' y it → Q (.ref r) H'
abbrev pInit : List Str := ["self", "people", "deeds", "start", "places", "ends", "logs", "arrows", "tests", "looks"]
abbrev kInit : List Str := ["looks", "tests", "arrows", "logs", "ends", "places", "start", "deeds", "people"]
structure TxtC (K : PySem.W.Frag) (mg : Str → Option Value) (CB IB B C fI : Addr) (fdI : FuncData) : Prop where
  e : TxtE K mg CB IB
  ex : PySem.W.exmOne K (.ref CB) (.ref CB) = some true
  kt : PySem.W.kitOne K (.ref CB) (.ref B) = some true
  mB : mg "HouseError" = some (.ref B)
  mkd : Mk K C fI
  mC : mg "House" = some (.ref C)
  b : L2.Binds K fdI pInit []
  kb : ∀ (s2 : Shared) (a : Addr) (ws : List Value), K.In s2.heap → ws.length = kInit.length → BindsTo s2 fdI ⟨[.ref a], kInit.zip ws⟩ (pInit.zip (.ref a :: ws.reverse))
def sMadeS : List Stmt := match (defBody lMade).getD 1 (.Pass ⟨0, 0, 0, 0⟩) with
  | .Try _ [.ExceptHandler _ _ b _] _ _ _ => b
  | _ => []
section
variable {P : Program} {w : World} {K : PySem.W.Frag} {mg : Str → Option Value} {base : Heap} {C CB IB B fI : Addr} {fdI : FuncData}
abbrev nMade : List Str := ["_law_parts_here", "_law_is_named", "_law_found", "e"]
theorem scLMade : FnScope nMade ["_law_parts_here", "_law_is_named"] (defScope lMade) := ⟨rfl, rfl, rfl, by decide +kernel, rfl, by decide +kernel, by decide +kernel⟩
def tSuM (K : PySem.W.Frag) (CB B : Addr) (a : Addr) (cls : Value) (d : Option Addr) : TS := tAsg (tLst (tCons (tXf a cls d CB "part" (tVar 3)) (tCons (tCB (rIsX K a cls d) (tCons (tVar 3) (tCons (tC (.ref B)) tNil))) tNil))) (gName 2)
theorem ok_made {f : Addr} {fd : FuncData} (F : Fun K "_law_made" "_law_made" lMade f fd) (T : TxtL mg) (TC : TxtC K mg CB IB B C fI fdI) (G : FnOk P w K mg base (L2.CX P w) 6 fI fdI pInit (spInit C CB)) : FnOk P w K mg base CX0 8 f fd ["_law_parts_here", "_law_is_named"] (spMade C) := by
  refine F.ok scLMade (fun vs H Q E h => ?_) (fun cdv A outer s H vs Q E hr h => ?_)
  · obtain ⟨q, nm, v0, v1, v2, v3, v4, v5, v6, v7, v8, d0, d1, d2, d3, d4, d5, d6, d7, d8, rfl, _⟩ := h
    rfl
  · obtain ⟨q, nm, v0, v1, v2, v3, v4, v5, v6, v7, v8, d0, d1, d2, d3, d4, d5, d6, d7, d8, rfl, hq, q0, q1, q2, q3, q4, q5, q6, q7, q8, sm, k, kE⟩ := h
    let X0 : Cx := (cxOf CX0 P w K mg base nMade "_law_made" (defScope lMade) f cdv A outer s H E).nox
    have su : ∀ (a : Addr) (oe : Obj) (cls : Value) (d : Option Addr) (pn : List (Addr × Obj)), Zc cls d oe → (∃ vs, oe.data = .fields vs) → PSs (X0.suite a ((a, oe) :: pn)) sMadeS (tSuM K CB B a cls d) := fun a oe cls d pn hz hf =>
      pss_one (ps_set (i := 2) scLMade.nd rfl (.inl rfl) (pe_lst (pa_cons (pe_xf (X := X0) (n := "part") (C := CB) ⟨TC.e.ei.c.is.hg, TC.e.ei.c.is.hk, TC.e.ei.c.is.hs, TC.e.ei.c.hd⟩ TC.e.ei.nf hz hf (pv 3)) (pa_cons (pe_callB (call_isX (X := X0) hz hf) (by rfl) T.b.isi (by decide +kernel) (pa_cons (pv 3) (pa_cons (pe_glob (v := .ref B) (by rfl) TC.mB rfl) pa_nil))) pa_nil))))
    refine ⟨_, pss_cons (ps_set (i := 2) scLMade.nd rfl (.inl rfl) (pe_lst pa_nil))
      (pss_cons (ps_try_as (X := X0) (i := 3) (ts := tSuM K CB B) (Wout := fun _ _ _ _ => False) rfl rfl scLMade.nd rfl rfl ⟨rfl, by decide, .inl TC.e.m⟩ takes0 (fun W pn xe tk _ => pss_one (ps_if (pt_val (pv 1))
        (pss_one (ps_set (i := 2) scLMade.nd rfl (.inl rfl) (pe_mkKS (ks := kInit) TC.mkd G hr (by rfl) TC.mC TC.kb (passAt tk) (pk_cons (pe_ix (r := rIxL K) ix_list (pv 0) pe_int (fun _ _ => rfl)) (pk_cons (pe_ix (r := rIxL K) ix_list (pv 0) pe_int (fun _ _ => rfl)) (pk_cons (pe_ix (r := rIxL K) ix_list (pv 0) pe_int (fun _ _ => rfl)) (pk_cons (pe_ix (r := rIxL K) ix_list (pv 0) pe_int (fun _ _ => rfl)) (pk_cons (pe_ix (r := rIxL K) ix_list (pv 0) pe_int (fun _ _ => rfl)) (pk_cons (pe_ix (r := rIxL K) ix_list (pv 0) pe_int (fun _ _ => rfl)) (pk_cons (pe_ix (r := rIxL K) ix_list (pv 0) pe_int (fun _ _ => rfl)) (pk_cons (pe_ix (r := rIxL K) ix_list (pv 0) pe_int (fun _ _ => rfl)) (pk_cons (pe_ix (r := rIxL K) ix_list (pv 0) pe_int (fun _ _ => rfl)) pk_nil)))))))))))) 
        (pss_one (ps_set (i := 2) scLMade.nd rfl (.inl rfl) (pe_mkS TC.mkd G hr (by rfl) TC.mC TC.b (passAt tk) (pa_cons (pe_ix (r := rIxL K) ix_list (pv 0) pe_int (fun _ _ => rfl)) (pa_cons (pe_ix (r := rIxL K) ix_list (pv 0) pe_int (fun _ _ => rfl)) (pa_cons (pe_ix (r := rIxL K) ix_list (pv 0) pe_int (fun _ _ => rfl)) (pa_cons (pe_ix (r := rIxL K) ix_list (pv 0) pe_int (fun _ _ => rfl)) (pa_cons (pe_ix (r := rIxL K) ix_list (pv 0) pe_int (fun _ _ => rfl)) (pa_cons (pe_ix (r := rIxL K) ix_list (pv 0) pe_int (fun _ _ => rfl)) (pa_cons (pe_ix (r := rIxL K) ix_list (pv 0) pe_int (fun _ _ => rfl)) (pa_cons (pe_ix (r := rIxL K) ix_list (pv 0) pe_int (fun _ _ => rfl)) (pa_cons (pe_ix (r := rIxL K) ix_list (pv 0) pe_int (fun _ _ => rfl)) pa_nil)))))))))))))) su)
      (pss_one (ps_ret (pv 2)))), ?_⟩
    refine ⟨(by show 0 ≤ sizeLine; decide), fun l nl => ?_⟩
    have S1 := same_new (o := .lst []) nl
    revert S1
    generalize upd H l (.lst []) = H1
    intro S1
    have hq1 := S1 _ _ hq
    have S2 : ∀ x dx, H1 x = none → H1 dx = none → Same H1 (upd (upd H1 dx (.own x)) x (.ins C dx [])) := fun x dx n1 n2 b o e => by
      rw [upd_ne (ne_of_none e n1), upd_ne (ne_of_none e n2)]
      exact e
    refine ⟨_, rfl, nm, rfl, ?_⟩
    by_cases hn : nm = true
    · refine iteYes hn ⟨_, rfl, q, _, _, _, rfl, rfl, SqL.of hq1, rfl, _, rfl, q, _, _, _, rfl, rfl, SqL.of hq1, rfl, _, rfl, q, _, _, _, rfl, rfl, SqL.of hq1, rfl, _, rfl, q, _, _, _, rfl, rfl, SqL.of hq1, rfl, _, rfl, q, _, _, _, rfl, rfl, SqL.of hq1, rfl, _, rfl, q, _, _, _, rfl, rfl, SqL.of hq1, rfl, _, rfl, q, _, _, _, rfl, rfl, SqL.of hq1, rfl, _, rfl, q, _, _, _, rfl, rfl, SqL.of hq1, rfl, _, rfl, q, _, _, _, rfl, rfl, SqL.of hq1, rfl, rfl, fun x dx nx ndx ne => ?_⟩
      refine ⟨H1, x, dx, v0, v1, v2, v3, v4, v5, v6, v7, v8, d0, d1, d2, d3, d4, d5, d6, d7, d8, rfl, S2 x dx nx ndx, nx, upd_same, Dq.same S1 _ _ q0, Dq.same S1 _ _ q1, Dq.same S1 _ _ q2, Dq.same S1 _ _ q3, Dq.same S1 _ _ q4, Dq.same S1 _ _ q5, Dq.same S1 _ _ q6, Dq.same S1 _ _ q7, Dq.same S1 _ _ q8, sm, fun hn H' fs SH fx hfs => ⟨rfl, _, rfl, k hn H' x dx fs (S1.trans SH) fx hfs⟩, fun it hE H' dd v' SH hv hd => ⟨true, TC.ex, fun _ a ha => ?_, fun z => nomatch z⟩⟩
      refine ⟨_, rfl, rfl, rfl, dd, _, v', rfl, hd, rfl, _, rfl, CB, dd, _, _, _, _, rfl, rfl, rfl, hd, TC.e.ei.c, .own B, TC.kt, (by show 2 ≤ sizeLine; decide), fun r nr => ⟨_, rfl, ?_⟩⟩
      exact kE it hE _ r v' (S1.trans (SH.trans (same_new nr))) upd_same (Dq.same (same_new nr) _ _ hv)
    · refine iteNo (by simpa using hn) ⟨_, rfl, q, _, _, _, rfl, rfl, SqL.of hq1, rfl, _, rfl, q, _, _, _, rfl, rfl, SqL.of hq1, rfl, _, rfl, q, _, _, _, rfl, rfl, SqL.of hq1, rfl, _, rfl, q, _, _, _, rfl, rfl, SqL.of hq1, rfl, _, rfl, q, _, _, _, rfl, rfl, SqL.of hq1, rfl, _, rfl, q, _, _, _, rfl, rfl, SqL.of hq1, rfl, _, rfl, q, _, _, _, rfl, rfl, SqL.of hq1, rfl, _, rfl, q, _, _, _, rfl, rfl, SqL.of hq1, rfl, _, rfl, q, _, _, _, rfl, rfl, SqL.of hq1, rfl, fun x dx nx ndx ne => ?_⟩
      refine ⟨H1, x, dx, v0, v1, v2, v3, v4, v5, v6, v7, v8, d0, d1, d2, d3, d4, d5, d6, d7, d8, rfl, S2 x dx nx ndx, nx, upd_same, Dq.same S1 _ _ q0, Dq.same S1 _ _ q1, Dq.same S1 _ _ q2, Dq.same S1 _ _ q3, Dq.same S1 _ _ q4, Dq.same S1 _ _ q5, Dq.same S1 _ _ q6, Dq.same S1 _ _ q7, Dq.same S1 _ _ q8, sm, fun hn H' fs SH fx hfs => ⟨rfl, _, rfl, k hn H' x dx fs (S1.trans SH) fx hfs⟩, fun it hE H' dd v' SH hv hd => ⟨true, TC.ex, fun _ a ha => ?_, fun z => nomatch z⟩⟩
      refine ⟨_, rfl, rfl, rfl, dd, _, v', rfl, hd, rfl, _, rfl, CB, dd, _, _, _, _, rfl, rfl, rfl, hd, TC.e.ei.c, .own B, TC.kt, (by show 2 ≤ sizeLine; decide), fun r nr => ⟨_, rfl, ?_⟩⟩
      exact kE it hE _ r v' (S1.trans (SH.trans (same_new nr))) upd_same (Dq.same (same_new nr) _ _ hv)
end
end KL
set_option Elab.async false
set_option linter.all false
set_option maxRecDepth 100000
set_option maxHeartbeats 2000000
namespace KL
open PySem L2 PySem.KX PySem.Spec PyProof.Rows
mutual
/-- how long the text of data is at most -/
def wt : PyData → Nat
  | .none => 4
  | .bool _ => 5
  | .int i => i.natAbs.log2 + 2
  | .str x => 10 * x.length + 2
  | .list ds => wtAll ds + 2
  | .tuple ds => wtAll ds + 3
  | .dict kvs => (PyData.dict kvs).shown.length
def wtAll : List PyData → Nat
  | [] => 0
  | d :: r => wt d + 2 + wtAll r
end
mutual
/-- how wide data is at its widest -/
def wd : PyData → Nat
  | .none => 0
  | .bool _ => 0
  | .int i => i.natAbs.log2
  | .str x => x.length
  | .list ds => max ds.length (wdAll ds)
  | .tuple ds => max ds.length (wdAll ds)
  | .dict kvs => if kvs = [] then 0 else 2000
def wdAll : List PyData → Nat
  | [] => 0
  | d :: r => max (wd d) (wdAll r)
end
def txS (x : Str) : Bool := x.cps.toList.all fun c => decide (c < 128)
mutual
/-- plain signs alone -/
def txD : PyData → Bool
  | .str x => txS x
  | .list ds => txAll ds
  | .tuple ds => txAll ds
  | _ => true
def txAll : List PyData → Bool
  | [] => true
  | d :: r => txD d && txAll r
end
theorem list_len (ts : List Str) : (listText ts).length ≤ piled ts + 2 := by
  cases ts with
  | nil => decide +kernel
  | cons t r =>
    have h := textFrom_length_pos r 1 (("[" : Str) ++ (if (0 : Nat) > 0 then ", " else "" : String) ++ t) Nat.one_pos
    have e : (("[" : Str) ++ (if (0 : Nat) > 0 then ", " else "" : String) ++ t).length = 1 + t.length := by
      rw [strLen_append, strLen_append]
      rfl
    have x : (listText (t :: r)).length = (textFrom 1 (("[" : Str) ++ (if (0 : Nat) > 0 then ", " else "" : String) ++ t) r).length + 1 := by
      show (textFrom 0 "[" (t :: r) ++ "]").length = _
      rw [strLen_append]
      rfl
    rw [x, h, e, piled_cons]
    omega
theorem tup_tlen (ts : List Str) : (tupleText ts).length ≤ piled ts + 3 := by
  unfold tupleText
  rw [strLen_append, strLen_append]
  have a : (("(" : Str)).length = 1 := rfl
  have b : ((if (ts.length == 1) = true then ",)" else ")" : String) : Str).length ≤ 2 := by
    split
    · decide +kernel
    · decide +kernel
  have c : (Str.join ", " ts).length ≤ piled ts := by
    cases ts with
    | nil => decide +kernel
    | cons t r =>
      have := join_length_add (t :: r) (by simp)
      omega
  omega
mutual
theorem shown_wt : ∀ (d : PyData), txD d = true → d.shown.length ≤ wt d
  | .none, _ => by decide +kernel
  | .bool b, _ => by cases b <;> decide +kernel
  | .int i, _ => by
    have e := int_text_length_le (a := i) (k := i.natAbs.log2 + 1) (Nat.succ_pos _) (Nat.lt_succ_self _)
    rw [PyData.shown]
    show (Str.ofString (toString i)).length ≤ i.natAbs.log2 + 2
    rw [PySem.ofString_length]
    exact e
  | .str x, h => by
    rw [PyData.shown]
    refine StrLaws.reprText_len x fun c hc => ?_
    have := of_decide_eq_true (List.all_eq_true.mp (show x.cps.toList.all (fun c => decide (c < 128)) = true from h) c hc)
    exact Nat.lt_trans this (by decide)
  | .list ds, h => by
    rw [PyData.shown]
    exact Nat.le_trans (list_len _) (Nat.add_le_add_right (shown_all ds h) 2)
  | .tuple ds, h => by
    rw [PyData.shown]
    exact Nat.le_trans (tup_tlen _) (Nat.add_le_add_right (shown_all ds h) 3)
  | .dict kvs, _ => Nat.le_refl _
theorem shown_all : ∀ (ds : List PyData), txAll ds = true → piled (PyData.shownAll ds) ≤ wtAll ds
  | [], _ => Nat.le_refl _
  | d :: ds, h => by
    have h' := Bool.and_eq_true_iff.mp (show (txD d && txAll ds) = true from h)
    rw [PyData.shownAll, piled_cons]
    have q1 := shown_wt d h'.1
    have q2 := shown_all ds h'.2
    show _ ≤ wt d + 2 + wtAll ds
    omega
end
mutual
theorem sm_wd : ∀ (d : PyData), wd d ≤ 1000 → smB d = true ∧ d.showable = true
  | .none, _ => ⟨rfl, rfl⟩
  | .bool _, _ => ⟨rfl, rfl⟩
  | .int i, h => by
    have h : i.natAbs.log2 ≤ 1000 := h
    exact ⟨decide_eq_true (by omega), decide_eq_true (by omega)⟩
  | .str x, h => ⟨decide_eq_true h, rfl⟩
  | .list ds, h => by
    have h : max ds.length (wdAll ds) ≤ 1000 := h
    obtain ⟨q1, q2⟩ := sm_wdAll ds (by omega)
    refine ⟨?_, q2⟩
    show (decide (ds.length ≤ 1000) && smAll ds) = true
    rw [q1, decide_eq_true (by omega)]
    rfl
  | .tuple ds, h => by
    have h : max ds.length (wdAll ds) ≤ 1000 := h
    obtain ⟨q1, q2⟩ := sm_wdAll ds (by omega)
    refine ⟨?_, q2⟩
    show (decide (ds.length ≤ 1000) && smAll ds) = true
    rw [q1, decide_eq_true (by omega)]
    rfl
  | .dict kvs, h => by
    have h : (if kvs = [] then 0 else 2000) ≤ 1000 := h
    by_cases e : kvs = []
    · subst e
      exact ⟨rfl, rfl⟩
    · rw [if_neg e] at h
      omega
theorem sm_wdAll : ∀ (ds : List PyData), wdAll ds ≤ 1000 → smAll ds = true ∧ PyData.showableAll ds = true
  | [], _ => ⟨rfl, rfl⟩
  | d :: ds, h => by
    have h : max (wd d) (wdAll ds) ≤ 1000 := h
    obtain ⟨a1, a2⟩ := sm_wd d (by omega)
    obtain ⟨b1, b2⟩ := sm_wdAll ds (by omega)
    refine ⟨?_, ?_⟩
    · show (smB d && smAll ds) = true
      rw [a1, b1]
      rfl
    · show (d.showable && PyData.showableAll ds) = true
      rw [a2, b2]
      rfl
end
/-- data of a size -/
structure Gd (w p W : Nat) (d : PyData) : Prop where
  wd : wd d ≤ w
  dp : d.depth ≤ p
  wt : wt d ≤ W
  tx : txD d = true
theorem Gd.mono {w p W w' p' W' : Nat} {d : PyData} (h : Gd w p W d) (h1 : w ≤ w') (h2 : p ≤ p') (h3 : W ≤ W') : Gd w' p' W' d := ⟨Nat.le_trans h.wd h1, Nat.le_trans h.dp h2, Nat.le_trans h.wt h3, h.tx⟩
end KL
set_option Elab.async false
set_option linter.all false
set_option maxRecDepth 100000
set_option maxHeartbeats 8000000
namespace KL
open PySem L2 PySem.KX PySem.Spec PyProof.Rows
def words9 : List Str := ["people", "deeds", "start", "places", "ends", "logs", "arrows", "tests", "looks"]
theorem bad_of {b : Bool} {wd : Str} {it : PyData} (h : badOf b wd = some it) : it = .str wd := by
  cases b <;> cases h
  rfl
theorem chkA_of {k : Kit} {d it : PyData} (h : chkA k d = some it) : it ∈ itemsD d ∨ it = .str "arrows" := by
  unfold chkA at h
  by_cases t : isTupD d = true
  · rw [if_pos t] at h
    rcases Option.or_eq_some_iff.mp h with h | ⟨_, h⟩
    · exact .inl (List.mem_of_find?_eq_some h)
    · exact .inr (bad_of h)
  · rw [if_neg t] at h
    cases h
    exact .inr rfl
theorem chkT_of {k : Kit} {as : List PyData} {d it : PyData} (h : chkT k as d = some it) : it ∈ itemsD d ∨ it = .str "tests" := by
  unfold chkT at h
  by_cases t : isTupD d = true
  · rw [if_pos t] at h
    rcases Option.or_eq_some_iff.mp h with h | ⟨_, h⟩
    · exact .inl (List.mem_of_find?_eq_some h)
    · exact .inr (bad_of h)
  · rw [if_neg t] at h
    cases h
    exact .inr rfl
theorem due_of {d0 d1 d2 d3 d4 d5 d6 d7 d8 it : PyData} (h : dueD d0 d1 d2 d3 d4 d5 d6 d7 d8 = some it) : it ∈ itemsD d6 ∨ it ∈ itemsD d7 ∨ ∃ wd ∈ words9, it = .str wd := by
  unfold dueD at h
  rcases Option.or_eq_some_iff.mp h with h | ⟨_, h⟩
  · exact .inr (.inr ⟨_, by decide, bad_of h⟩)
  rcases Option.or_eq_some_iff.mp h with h | ⟨_, h⟩
  · exact .inr (.inr ⟨_, by decide, bad_of h⟩)
  rcases Option.or_eq_some_iff.mp h with h | ⟨_, h⟩
  · exact .inr (.inr ⟨_, by decide, bad_of h⟩)
  rcases Option.or_eq_some_iff.mp h with h | ⟨_, h⟩
  · exact .inr (.inr ⟨_, by decide, bad_of h⟩)
  rcases Option.or_eq_some_iff.mp h with h | ⟨_, h⟩
  · exact .inr (.inr ⟨_, by decide, bad_of h⟩)
  rcases Option.or_eq_some_iff.mp h with h | ⟨_, h⟩
  · exact .inr (.inr ⟨_, by decide, bad_of h⟩)
  rcases Option.or_eq_some_iff.mp h with h | ⟨_, h⟩
  · rcases chkA_of h with z | z
    · exact .inl z
    · exact .inr (.inr ⟨_, by decide, z⟩)
  rcases Option.or_eq_some_iff.mp h with h | ⟨_, h⟩
  · rcases chkT_of h with z | z
    · exact .inr (.inl z)
    · exact .inr (.inr ⟨_, by decide, z⟩)
  · exact .inr (.inr ⟨_, by decide, bad_of h⟩)
theorem shown_mem : ∀ {ds : List PyData} {d : PyData}, d ∈ ds → d.shown ∈ PyData.shownAll ds
  | x :: ds, d, h => by
    rw [PyData.shownAll]
    rcases List.mem_cons.mp h with rfl | h
    · exact .head _
    · exact .tail _ (shown_mem h)
theorem depth_mem : ∀ {ds : List PyData} {d : PyData}, d ∈ ds → d.depth ≤ PyData.depthAll ds
  | x :: ds, d, h => by
    show d.depth ≤ max x.depth (PyData.depthAll ds)
    rcases List.mem_cons.mp h with rfl | h
    · exact Nat.le_max_left _ _
    · exact Nat.le_trans (depth_mem h) (Nat.le_max_right _ _)
theorem showable_mem : ∀ {ds : List PyData} {d : PyData}, PyData.showableAll ds = true → d ∈ ds → d.showable = true
  | x :: ds, d, w, h => by
    have w' := Bool.and_eq_true_iff.mp (show (x.showable && PyData.showableAll ds) = true from w)
    rcases List.mem_cons.mp h with rfl | h
    · exact w'.1
    · exact showable_mem w'.2 h
theorem Seen.item {ds : List PyData} {d : PyData} (S : Seen (.list ds)) (h : d ∈ ds) : d.showable = true ∧ d.shown.length ≤ 4000000 ∧ d.depth ≤ 19 := by
  have z : (listText (PyData.shownAll ds)).length ≤ 4000000 := by simpa only [PyData.shown] using S.z
  have p : PyData.depthAll ds + 1 ≤ 20 := S.p
  exact ⟨showable_mem (by simpa [PyData.showable] using S.w) h, Nat.le_trans (listText_mem_le (shown_mem h)) z, Nat.le_trans (depth_mem h) (by omega)⟩
theorem sub_item {d it : PyData} (h1 : d.showable = true) (h2 : d.shown.length ≤ 1000000) (h3 : d.depth ≤ 19) (h : it ∈ itemsD d) : it.showable = true ∧ it.shown.length ≤ 1000000 ∧ it.depth ≤ 19 := by
  cases d with
  | tuple ds =>
    have z : (tupleText (PyData.shownAll ds)).length ≤ 1000000 := by simpa only [PyData.shown] using h2
    have p : PyData.depthAll ds + 1 ≤ 19 := h3
    have h : it ∈ ds := h
    exact ⟨showable_mem (by simpa [PyData.showable] using h1) h, Nat.le_trans (tupleText_mem_le (shown_mem h)) z, Nat.le_trans (depth_mem h) (by omega)⟩
  | _ => cases h
theorem told_seen {it : PyData} (h : it.showable = true ∧ it.shown.length ≤ 1000000 ∧ it.depth ≤ 19) : Seen (.list [it, .bool true]) := by
  refine ⟨?_, ?_, ?_⟩
  · show (it.showable && (true && true)) = true
    rw [h.1]
    rfl
  · have e : (PyData.list [it, .bool true]).shown = listText [it.shown, "True"] := by
      simp only [PyData.shown, PyData.shownAll, if_true]
    rw [e]
    refine Nat.le_trans (list_len _) ?_
    rw [piled_cons, piled_cons, piled_nil]
    have : ("True" : Str).length = 4 := by decide +kernel
    omega
  · show max it.depth (max 0 0) + 1 ≤ 20
    have := h.2.2
    omega
theorem word_ok {wd : Str} (h : wd ∈ words9) : (PyData.str wd).showable = true ∧ (PyData.str wd).shown.length ≤ 1000000 ∧ (PyData.str wd).depth ≤ 19 := by
  have z : (words9.all fun wd => decide ((PyData.str wd).shown.length ≤ 1000000)) = true := by decide +kernel
  exact ⟨rfl, of_decide_eq_true (List.all_eq_true.mp z wd h), Nat.zero_le _⟩
/-- nine parts that can be told -/
structure Nine (d0 d1 d2 d3 d4 d5 d6 d7 d8 : PyData) : Prop where
  sm : (smB d0 && smB d1 && smB d2 && smB d3 && smB d4 && smB d5 && smB d6 && smB d7 && smB d8) = true
  se : Seen (.list [d0, d1, d2, d3, d4, d5, d6, d7, d8])
  z : (PyData.list [d0, d1, d2, d3, d4, d5, d6, d7, d8]).shown.length ≤ 1000000
theorem Nine.item {d0 d1 d2 d3 d4 d5 d6 d7 d8 d : PyData} (N : Nine d0 d1 d2 d3 d4 d5 d6 d7 d8) (h : d ∈ [d0, d1, d2, d3, d4, d5, d6, d7, d8]) : d.showable = true ∧ d.shown.length ≤ 1000000 ∧ d.depth ≤ 19 := by
  have q := N.se.item h
  refine ⟨q.1, ?_, q.2.2⟩
  have z : (listText (PyData.shownAll [d0, d1, d2, d3, d4, d5, d6, d7, d8])).length ≤ 1000000 := by simpa only [PyData.shown] using N.z
  exact Nat.le_trans (listText_mem_le (shown_mem h)) z
theorem Nine.due {d0 d1 d2 d3 d4 d5 d6 d7 d8 it : PyData} (N : Nine d0 d1 d2 d3 d4 d5 d6 d7 d8) (h : dueD d0 d1 d2 d3 d4 d5 d6 d7 d8 = some it) : Seen (.list [it, .bool true]) := by
  rcases due_of h with h | h | ⟨wd, hw, rfl⟩
  · have q := N.item (d := d6) (by simp)
    exact told_seen (sub_item q.1 q.2.1 q.2.2 h)
  · have q := N.item (d := d7) (by simp)
    exact told_seen (sub_item q.1 q.2.1 q.2.2 h)
  · exact told_seen (word_ok hw)
end KL
set_option Elab.async false
set_option linter.all false
set_option maxRecDepth 100000
set_option maxHeartbeats 2000000
namespace KL
open PySem L2
/-! ### the deck -/
def dk (l : Addr) (m t : Int) : List (Key × V) := [(Sum.inr "cells", V.ref l), (Sum.inr "mixed", V.int m), (Sum.inr "turn", V.int t)]
theorem dk_cells (l : Addr) (m t : Int) : valV (dk l m t) (Sum.inr "cells") = some (V.ref l) := by rfl
theorem dk_mixed (l : Addr) (m t : Int) : valV (dk l m t) (Sum.inr "mixed") = some (V.int m) := by rfl
theorem dk_turn (l : Addr) (m t : Int) : valV (dk l m t) (Sum.inr "turn") = some (V.int t) := by rfl
theorem dk_put (l : Addr) (m t u : Int) : putK (dk l m t) (Sum.inr "turn") (V.int u) = dk l m u := by rfl
/-- H0 is what stays in H: neither the deck nor its list -/
structure DeckAt (H0 H : Hp) (p l : Addr) (t : Int) : Prop where
  s : Same H0 H
  p0 : H0 p = none
  l0 : H0 l = none
  d : ∃ (ns : List Int) (m : Int), H p = some (.dK (dk l m t)) ∧ H l = some (.lst (ns.map V.int)) ∧ ns.length ≤ 63 ∧ 0 ≤ m ∧ m < 2147483629
theorem DeckAt.notP {H0 H : Hp} {p l a : Addr} {t : Int} (D : DeckAt H0 H p l t) (n : H a = none) : a ≠ p ∧ a ≠ l := by
  obtain ⟨ns, m, hp, hl, _⟩ := D.d
  refine ⟨?_, ?_⟩
  · rintro rfl
    rw [hp] at n
    cases n
  · rintro rfl
    rw [hl] at n
    cases n
theorem DeckAt.ne {H0 H : Hp} {p l : Addr} {t : Int} (D : DeckAt H0 H p l t) : l ≠ p := by
  obtain ⟨ns, m, hp, hl, _⟩ := D.d
  exact ne_of hl hp (by intro q; cases q)
/-- something new, that stays -/
theorem DeckAt.new {H0 H : Hp} {p l a : Addr} {t : Int} {o : HO} (D : DeckAt H0 H p l t) (n : H a = none) : DeckAt (upd H0 a o) (upd H a o) p l t := by
  obtain ⟨ap, al⟩ := D.notP n
  obtain ⟨ns, m, hp, hl, r⟩ := D.d
  refine ⟨fun b u e => ?_, ?_, ?_, ns, m, ?_, ?_, r⟩
  · by_cases z : b = a
    · subst z
      rw [upd_same] at e ⊢
      exact e
    · rw [upd_ne z] at e ⊢
      exact D.s _ _ e
  · rw [upd_ne ap.symm]
    exact D.p0
  · rw [upd_ne al.symm]
    exact D.l0
  · rw [upd_ne ap.symm]
    exact hp
  · rw [upd_ne al.symm]
    exact hl
/-- something that does not stay: new, or changed -/
theorem DeckAt.put {H0 H : Hp} {p l a : Addr} {t : Int} {o : HO} (D : DeckAt H0 H p l t) (ap : a ≠ p) (al : a ≠ l) (n : H0 a = none) : DeckAt H0 (upd H a o) p l t := by
  obtain ⟨ns, m, hp, hl, r⟩ := D.d
  refine ⟨fun b u e => ?_, D.p0, D.l0, ns, m, ?_, ?_, r⟩
  · rw [upd_ne (ne_of_none e n)]
    exact D.s _ _ e
  · rw [upd_ne ap.symm]
    exact hp
  · rw [upd_ne al.symm]
    exact hl
theorem DeckAt.put0 {H0 H : Hp} {p l a : Addr} {t : Int} {o : HO} (D : DeckAt H0 H p l t) (n : H a = none) : DeckAt H0 (upd H a o) p l t :=
  D.put (D.notP n).1 (D.notP n).2 (D.s.free n)
/-- something that stood and stays from now on -/
theorem DeckAt.keep {H0 H : Hp} {p l a : Addr} {t : Int} {o : HO} (D : DeckAt H0 H p l t) (ap : a ≠ p) (al : a ≠ l) (h : H a = some o) : DeckAt (upd H0 a o) H p l t := by
  refine ⟨fun b u e => ?_, ?_, ?_, D.d⟩
  · by_cases z : b = a
    · subst z
      rw [upd_same] at e
      rw [h]
      exact e
    · rw [upd_ne z] at e
      exact D.s _ _ e
  · rw [upd_ne ap.symm]
    exact D.p0
  · rw [upd_ne al.symm]
    exact D.l0
theorem DeckAt.less {H0 H1 H : Hp} {p l : Addr} {t : Int} (D : DeckAt H1 H p l t) (S : Same H0 H1) : DeckAt H0 H p l t :=
  ⟨S.trans D.s, S.free D.p0, S.free D.l0, D.d⟩
/-- from a state (kept H0, heap H, turn t) to another one, by at most n draws -/
structure Go (p l : Addr) (H0 H : Hp) (t : Int) (H1 H' : Hp) (t' : Int) (n : Int) : Prop where
  s : Same H0 H1
  d : DeckAt H1 H' p l t'
  f : ∀ b o, b ≠ p → b ≠ l → H b = some o → H' b = some o
  o : ∀ b, H0 b = none → H b ≠ none → H1 b = none
  t0 : t ≤ t'
  t1 : t' ≤ t + n
theorem Go.refl {p l : Addr} {H0 H : Hp} {t : Int} (D : DeckAt H0 H p l t) : Go p l H0 H t H0 H t 0 := ⟨Same.refl _, D, fun _ _ _ _ e => e, fun _ e _ => e, by omega, by omega⟩
theorem Go.trans {p l : Addr} {H0 H H1 H' H2 H'' : Hp} {t t' t'' n n' : Int} (a : Go p l H0 H t H1 H' t' n) (b : Go p l H1 H' t' H2 H'' t'' n') : Go p l H0 H t H2 H'' t'' (n + n') := by
  refine ⟨a.s.trans b.s, b.d, fun c o cp cl e => b.f _ _ cp cl (a.f _ _ cp cl e), fun c e h => ?_, Int.le_trans a.t0 b.t0, ?_⟩
  · have h1 := a.o c e h
    by_cases cp : c = p
    · subst cp
      exact b.d.p0
    by_cases cl : c = l
    · subst cl
      exact b.d.l0
    cases z : H c with
    | none => exact absurd z h
    | some o => exact b.o c h1 (by rw [a.f c o cp cl z]; simp)
  · have := a.t1
    have := b.t1
    omega
theorem Go.more {p l : Addr} {H0 H H1 H' : Hp} {t t' n n' : Int} (a : Go p l H0 H t H1 H' t' n) (h : n ≤ n') : Go p l H0 H t H1 H' t' n' :=
  ⟨a.s, a.d, a.f, a.o, a.t0, Int.le_trans a.t1 (by omega)⟩
/-- something new that stays -/
theorem Go.new {p l a : Addr} {H0 H H1 H' : Hp} {t t' n : Int} {o : HO} (g : Go p l H0 H t H1 H' t' n) (na : H' a = none) : Go p l H0 H t (upd H1 a o) (upd H' a o) t' n := by
  have n1 : H1 a = none := g.d.s.free na
  refine ⟨fun b u e => ?_, g.d.new na, fun b u bp bl e => ?_, fun b e h => ?_, g.t0, g.t1⟩
  · have e1 := g.s _ _ e
    rw [upd_ne (ne_of_none e1 n1)]
    exact e1
  · have e1 := g.f _ _ bp bl e
    rw [upd_ne (ne_of_none e1 na)]
    exact e1
  · have e1 := g.o b e h
    by_cases z : b = a
    · subst z
      exfalso
      obtain ⟨bp, bl⟩ := g.d.notP na
      cases y : H b with
      | none => exact h y
      | some u =>
        have := g.f _ _ bp bl y
        rw [na] at this
        cases this
    · rw [upd_ne z]
      exact e1
/-- something new that does not stay as it is -/
theorem Go.put0 {p l a : Addr} {H0 H H1 H' : Hp} {t t' n : Int} {o : HO} (g : Go p l H0 H t H1 H' t' n) (na : H' a = none) : Go p l H0 H t H1 (upd H' a o) t' n :=
  ⟨g.s, g.d.put0 na, fun b u bp bl e => by
    have e1 := g.f _ _ bp bl e
    rw [upd_ne (ne_of_none e1 na)]
    exact e1, g.o, g.t0, g.t1⟩
/-- something of one's own that is changed -/
theorem Go.put {p l a : Addr} {H0 H H1 H' : Hp} {t t' n : Int} {o : HO} (g : Go p l H0 H t H1 H' t' n) (na : H a = none) (ap : a ≠ p) (al : a ≠ l) (n1 : H1 a = none) : Go p l H0 H t H1 (upd H' a o) t' n :=
  ⟨g.s, g.d.put ap al n1, fun b u bp bl e => by
    rw [upd_ne (ne_of_none e na)]
    exact g.f _ _ bp bl e, g.o, g.t0, g.t1⟩
/-- something of one's own that stays from now on -/
theorem Go.keep {p l a : Addr} {H0 H H1 H' : Hp} {t t' n : Int} {o : HO} (g : Go p l H0 H t H1 H' t' n) (na : H a = none) (ap : a ≠ p) (al : a ≠ l) (h : H' a = some o) (h1 : H1 a = none) : Go p l H0 H t (upd H1 a o) H' t' n :=
  ⟨fun b u e => by
    have e1 := g.s _ _ e
    rw [upd_ne (ne_of_none e1 h1)]
    exact e1, g.d.keep ap al h, g.f, fun b e hb => by
    rw [upd_ne (show b ≠ a from fun z => hb (by rw [z]; exact na))]
    exact g.o b e hb, g.t0, g.t1⟩
theorem Go.own {p l a : Addr} {H0 H H1 H' : Hp} {t t' n : Int} {o : HO} (g : Go p l H0 H t H1 H' t' n) (D : DeckAt H0 H p l t) (h : H a = some o) (n0 : H0 a = none) (ap : a ≠ p) (al : a ≠ l) : H' a = some o ∧ H1 a = none :=
  ⟨g.f _ _ ap al h, g.o _ n0 (by rw [h]; simp)⟩
def spDeck (K : PySem.W.Frag) : Sp := fun vs H Q _ => ∃ (a : Addr) (ns : List Int), vs = [.ref a] ∧ SqL K H a (ns.map V.int) ∧ ns.length ≤ 63 ∧ ∀ H' p l, DeckAt H H' p l 0 → Q (.ref p) H'
def spDrawS : Sp := fun vs H Q _ => ∃ (H0 : Hp) (p l : Addr) (t b : Int), vs = [.ref p, .int b] ∧ DeckAt H0 H p l t ∧ 0 ≤ t ∧ t < 1048576 ∧ 0 < b ∧ b < 1048576 ∧ ∀ H' r, DeckAt H0 H' p l (t + 1) → 0 ≤ r → r < b → Q (.int r) H'
def spDraw : Sp := fun vs H Q _ => ∃ (H0 : Hp) (p l : Addr) (t b : Int), vs = [.ref p, .int b] ∧ DeckAt H0 H p l t ∧ 0 ≤ t ∧ t < 1048576 ∧ 0 < b ∧ b < 1048576 ∧ ∀ H' r, Go p l H0 H t H0 H' (t + 1) 1 → 0 ≤ r → r < b → Q (.int r) H'
theorem draw_go {vs : List V} {H : Hp} {Q : VK} {E : XK} (h : spDraw vs H Q E) : spDrawS vs H Q E := by
  obtain ⟨H0, p, l, t, b, rfl, D, t0, t1, b0, b1, k⟩ := h
  refine ⟨fun c => if c = p ∨ c = l then none else H c, p, l, t, b, rfl, ⟨fun c o e => ?_, if_pos (.inl rfl), if_pos (.inr rfl), D.d⟩, t0, t1, b0, b1, fun H' r D' r0 rb => k H' r ?_ r0 rb⟩
  · have e : (if c = p ∨ c = l then none else H c) = some o := e
    by_cases z : c = p ∨ c = l
    · rw [if_pos z] at e
      cases e
    · rw [if_neg z] at e
      exact e
  · have f : ∀ c o, c ≠ p → c ≠ l → H c = some o → H' c = some o := fun c o cp cl e => D'.s _ _ (by
      show (if c = p ∨ c = l then none else H c) = some o
      rw [if_neg (by rintro (z | z); exact cp z; exact cl z), e])
    refine ⟨Same.refl _, ⟨fun c o e => ?_, D.p0, D.l0, D'.d⟩, f, fun _ e _ => e, by omega, by omega⟩
    refine f c o ?_ ?_ (D.s _ _ e)
    · rintro rfl
      rw [D.p0] at e
      cases e
    · rintro rfl
      rw [D.l0] at e
      cases e
end KL
set_option Elab.async false
set_option linter.all false
set_option maxRecDepth 100000
set_option maxHeartbeats 2000000
namespace KL
open PySem L2
structure TxtD (mg : Str → Option Value) : Prop where
  list : mg "list" = none
  int : mg "int" = none
  len : mg "len" = none
section
variable {P : Program} {w : World} {K : PySem.W.Frag} {mg : Str → Option Value} {base : Heap}
theorem scDeck : FnScope ["_law_script", "_law_cells", "_law_mixed", "_law_cell"] ["_law_script"] (defScope lDeck) := ⟨rfl, rfl, rfl, by decide +kernel, rfl, by decide +kernel, by decide +kernel⟩
theorem cut_ints (ns : List Int) (lo hi : Option Int) : ∃ ms : List Int, cutV (ns.map V.int) lo hi = ms.map V.int ∧ ms.length ≤ ns.length :=
  ⟨(ns.drop (HT.sIx (ns.map V.int).length 0 lo)).take (HT.sIx (ns.map V.int).length (ns.map V.int).length hi - HT.sIx (ns.map V.int).length 0 lo), by unfold cutV; rw [List.map_take, List.map_drop], by rw [List.length_take, List.length_drop]; omega⟩
theorem ok_deck {f : Addr} {fd : FuncData} (F : Fun K "_law_deck" "_law_deck" lDeck f fd) (T : TxtD mg) : FnOk P w K mg base CX0 1 f fd ["_law_script"] (spDeck K) := by
  refine F.ok scDeck (fun vs H Q E h => ?_) (fun cdv A outer s H vs Q E hr h => ?_)
  · obtain ⟨a, ns, rfl, _⟩ := h
    rfl
  · obtain ⟨a, ns, rfl, hS, hlen, k⟩ := h
    refine ⟨_, pss_cons (ps_par (i := 1) (j := 2) (by rfl) scDeck.nd rfl rfl (by decide) rfl rfl (pa_cons (pe_callTy call_list_of (by rfl) T.list (by decide +kernel) (pa_cons (pe_slice sl_list (pv 0) po_none (po_some pe_int)) pa_nil)) (pa_cons pe_int pa_nil)) (by rfl))
      (pss_cons (ps_for PassesOwn.never rfl (pi_list (pv 1)) (pg_name (i := 3) scDeck.nd rfl (.inl rfl))
        (pss_one (ps_set (i := 2) scDeck.nd rfl (.inl rfl) (pe_op op_mod (pe_callTy call_int1 (by rfl) T.int (by decide +kernel) (pa_cons (pe_op op_add (pe_op op_add (pe_op op_mul (pv 2) pe_int) (pe_op op_mod (pe_callTy call_int1 (by rfl) T.int (by decide +kernel) (pa_cons (pv 3) pa_nil)) pe_int)) pe_int) pa_nil)) pe_int))))
      (pss_one (ps_ret (pe_disp (pps_cons pe_str (pe_revL (pv 1)) (pps_cons pe_str (pv 2) (pps_cons pe_str pe_int pps_nil))) (by rfl) (by rfl) (fun z => by cases z) (by decide))))), ?_⟩
    refine ⟨_, rfl, _, rfl, a, _, rfl, hS, fun p0 hp0 => ?_⟩
    obtain ⟨ms, ems, hms⟩ := cut_ints ns none (some 63)
    refine ⟨p0, ms.map V.int, rfl, .inl (SqL.of (by rw [upd_same]; exact congrArg some (congrArg HO.lst ems))), fun l hl => ?_⟩
    have npl : l ≠ p0 := fun q => by
      rw [q, upd_same] at hl
      cases hl
    have hl0 : H l = none := by
      rw [upd_ne npl] at hl
      exact hl
    refine ⟨_, _, rfl, ?_⟩
    have hSm : SqL K (upd (upd H p0 (HO.lst (cutV (List.map V.int ns) none (some 63)))) l (HO.lst (List.map V.int ms))) l (ms.map V.int) := SqL.of upd_same
    refine ⟨_, rfl, l, rfl, ⟨_, hSm⟩, for_list (K := K) (a := l) (xs := ms.map V.int) (fun i σ H' => H' = upd (upd H p0 (HO.lst (cutV (List.map V.int ns) none (some 63)))) l (HO.lst (List.map V.int ms)) ∧ ∃ (m : Int) (v : Option V), σ = [some (.ref a), some (.ref l), some (.int m), v] ∧ 0 ≤ m ∧ m < 2147483629)
      ⟨rfl, 186302, none, rfl, by decide, by decide⟩ (fun i σ H' _ ⟨e, _⟩ => e ▸ hSm) ?_ ?_⟩
    · rintro i y σ H' hi ⟨rfl, m, v, rfl, m0, m1⟩
      obtain ⟨u, rfl⟩ : ∃ u, y = V.int u := by
        rw [List.getElem?_map] at hi
        cases e : ms[i]? with
        | none =>
          rw [e] at hi
          cases hi
        | some u =>
          rw [e] at hi
          exact ⟨u, (Option.some.inj hi).symm⟩
      refine ⟨_, rfl, _, _, rfl, rfl, .inl ⟨by omega, by omega⟩, ?_⟩
      refine ⟨_, rfl, .inl ⟨_, rfl, ?_⟩⟩
      refine ⟨_, _, rfl, rfl, (by show (0 : Int) < 2147483587; decide), ?_⟩
      refine ⟨_, _, rfl, rfl, _, _, rfl, rfl, .inl ⟨_, rfl, ?_⟩⟩
      refine ⟨_, _, rfl, rfl, (by show (0 : Int) < 2147483629; decide), ?_⟩
      exact ⟨rfl, _, _, rfl, Int.emod_nonneg _ (by decide), Int.emod_lt_of_pos _ (by decide)⟩
    · rintro σ H' ⟨rfl, m, v, rfl, m0, m1⟩
      have same1 : Same H (upd (upd H p0 (HO.lst (cutV (List.map V.int ns) none (some 63)))) l (HO.lst (List.map V.int ms))) := fun b o e => by
        rw [upd_ne (ne_of_none e hl0), upd_ne (ne_of_none e hp0)]
        exact e
      revert hSm same1
      generalize upd (upd H p0 (HO.lst (cutV (List.map V.int ns) none (some 63)))) l (HO.lst (List.map V.int ms)) = H1
      intro hSm same1 p hp
      refine ⟨_, rfl, l, _, rfl, Same.seq (fun b o e => by rw [upd_ne (ne_of_none e hp)]; exact e) hSm, fun q hq => ?_⟩
      have nqp : q ≠ p := fun z => by
        rw [z, upd_same] at hq
        cases hq
      have hq1 : H1 q = none := by
        rw [upd_ne nqp] at hq
        exact hq
      refine ⟨_, rfl, (by rw [upd_ne nqp.symm, upd_same]), [(Sum.inr "cells", V.ref q), (Sum.inr "mixed", V.int m), (Sum.inr "turn", V.int 0)], rfl, (by show 3 ≤ 15; decide), k _ _ _ ⟨fun b o e => ?_, same1.free hp, same1.free hq1, ms.reverse, m, upd_same, ?_, ?_, m0, m1⟩⟩
      · have e1 := same1 b o e
        rw [upd_ne (ne_of_none e1 hp), upd_ne (ne_of_none e1 hq1), upd_ne (ne_of_none e1 hp)]
        exact e1
      · rw [upd_ne nqp, upd_same, List.map_reverse]
      · rw [List.length_reverse]
        exact Nat.le_trans hms hlen
end
theorem dg_cells {H : Hp} {p l : Addr} {m t : Int} (h : H p = some (.dK (dk l m t))) : DGet H p (.str "cells") (some (.ref l)) := DGet.k (k := Sum.inr "cells") h
theorem dg_mixed {H : Hp} {p l : Addr} {m t : Int} (h : H p = some (.dK (dk l m t))) : DGet H p (.str "mixed") (some (.int m)) := DGet.k (k := Sum.inr "mixed") h
theorem dg_turn {H : Hp} {p l : Addr} {m t : Int} (h : H p = some (.dK (dk l m t))) : DGet H p (.str "turn") (some (.int t)) := DGet.k (k := Sum.inr "turn") h
theorem dp_turn {H : Hp} {p l : Addr} {m t u : Int} (h : H p = some (.dK (dk l m t))) : DPut H p (.str "turn") (.int u) (upd H p (.dK (dk l m u))) := DPut.k (k := Sum.inr "turn") h (by show 3 < sizeLine; decide)
theorem dp_ints {K : PySem.W.Frag} {H : Hp} : ∀ ns : List Int, DpAll K H (ns.map V.int) (ns.map PyData.int)
  | [] => .nil
  | n :: r => .cons (.int n) (dp_ints r)
theorem lay_ints : ∀ ns : List Int, PyData.canLayAll0 (ns.map PyData.int) = true
  | [] => rfl
  | n :: r => by
    show (true && PyData.canLayAll0 (r.map PyData.int)) = true
    rw [lay_ints r]
    rfl
theorem depth_ints : ∀ ns : List Int, PyData.depthAll (ns.map PyData.int) = 0
  | [] => rfl
  | n :: r => by
    show max 0 (PyData.depthAll (r.map PyData.int)) = 0
    rw [depth_ints r]
    rfl
theorem shaped_ints (ns : List Int) : SeqAt.shaped (PyData.list (ns.map PyData.int)) = true := by
  show (PyData.canLayAll0 (ns.map PyData.int) && decide (PyData.depthAll (ns.map PyData.int) + 1 ≤ 64)) = true
  rw [lay_ints, depth_ints]
  rfl
section
variable {P : Program} {w : World} {K : PySem.W.Frag} {mg : Str → Option Value} {base : Heap}
theorem scDraw : FnScope ["_law_deck_here", "_law_below", "_law_mixed", "_law_cell"] ["_law_deck_here", "_law_below"] (defScope lDraw) := ⟨rfl, rfl, rfl, by decide +kernel, rfl, by decide +kernel, by decide +kernel⟩
theorem ok_drawS {f : Addr} {fd : FuncData} (F : Fun K "_law_draw" "_law_draw" lDraw f fd) (T : TxtD mg) : FnOk P w K mg base CX0 1 f fd ["_law_deck_here", "_law_below"] spDrawS := by
  refine F.ok scDraw (fun vs H Q E h => ?_) (fun cdv A outer s H vs Q E hr h => ?_)
  · obtain ⟨H0, p, l, t, b, rfl, _⟩ := h
    rfl
  · obtain ⟨H0, p, l, t, b, rfl, ⟨s0, p0, l0, ns, m, hp, hl, hlen, m0, m1⟩, t0, t1, b0, b1, k⟩ := h
    have hu := hu_of hr
    have nlp : l ≠ p := ne_of hl hp (by intro q; cases q)
    refine ⟨_, pss_cons (ps_dput hu (pv 0) pe_str (pe_op op_add (pe_dget hu (pv 0) pe_str (fun _ _ => rfl)) pe_int) rfl)
      (pss_cons (ps_set (i := 2) scDraw.nd rfl (.inl rfl) (pe_op op_add (pe_dget hu (pv 0) pe_str (fun _ _ => rfl)) (pe_op op_mul (pe_op op_mul pe_int (pe_dget hu (pv 0) pe_str (fun _ _ => rfl))) (pe_dget hu (pv 0) pe_str (fun _ _ => rfl)))))
      (pss_cons (ps_if (pt_cmpR (op_neD hr.units) (pe_dget hu (pv 0) pe_str (fun _ _ => rfl)) (pe_lst pa_nil) (nomark _))
        (pss_cons (ps_set (i := 3) scDraw.nd rfl (.inl rfl) (pe_bm0 PySem.F.plainAttrs_list PySem.F.slot_list_pop PySem.F.type_list_pop mt_pop (pe_dget hu (pv 0) pe_str (fun _ _ => rfl))))
        (pss_cons (ps_if (pt_cmpR op_ge (pv 3) (pe_op op_pow pe_int pe_int) (nomark _))
          (pss_cons (ps_expr (pe_bm PySem.F.plainAttrs_list PySem.F.slot_list_append PySem.F.type_list_append mt_append (pe_dget hu (pv 0) pe_str (fun _ _ => rfl)) (pa_cons (pe_op op_fdiv (pv 3) (pv 1)) pa_nil)))
          (pss_one (ps_ret (pe_op op_mod (pe_callTy call_int1 (by rfl) T.int (by decide +kernel) (pa_cons (pv 3) pa_nil)) (pv 1))))) pss_nil)
        (pss_one (ps_set (i := 2) scDraw.nd rfl (.inl rfl) (pe_op op_add (pv 2) (pe_op op_mod (pe_callTy call_int1 (by rfl) T.int (by decide +kernel) (pa_cons (pv 3) pa_nil)) pe_int)))))) pss_nil)
      (pss_cons (ps_set (i := 2) scDraw.nd rfl (.inl rfl) (pe_op op_mod (pe_callTy call_int1 (by rfl) T.int (by decide +kernel) (pa_cons (pe_op op_add (pe_op op_mul (pe_op op_mod (pv 2) pe_int) pe_int) (pe_dget hu (pv 0) pe_str (fun _ _ => rfl))) pa_nil)) pe_int))
      (pss_cons (ps_set (i := 2) scDraw.nd rfl (.inl rfl) (pe_op op_mod (pe_callTy call_int1 (by rfl) T.int (by decide +kernel) (pa_cons (pe_op op_add (pe_op op_add (pe_op op_mul (pv 2) (pv 2)) (pe_op op_mul pe_int (pe_dget hu (pv 0) pe_str (fun _ _ => rfl)))) pe_int) pa_nil)) pe_int))
      (pss_one (ps_ret (pe_op op_mod (pe_op op_fdiv (pe_op op_mod (pe_callTy call_int1 (by rfl) T.int (by decide +kernel) (pa_cons (pe_op op_mul (pv 2) pe_int) pa_nil)) pe_int) pe_int) (pv 1)))))))), ?_⟩
    refine ⟨_, rfl, p, _, rfl, dg_turn hp, _, _, rfl, rfl, _, rfl, p, _, rfl, dp_turn hp, ?_⟩
    have hp1 : (upd H p (.dK (dk l m (t + 1)))) p = some (.dK (dk l m (t + 1))) := upd_same
    have hl1 : (upd H p (.dK (dk l m (t + 1)))) l = some (.lst (ns.map V.int)) := by rw [upd_ne nlp]; exact hl
    have s1 : Same H0 (upd H p (.dK (dk l m (t + 1)))) := fun b o e => by
      rw [upd_ne (ne_of_none e p0)]
      exact s0 b o e
    clear hp hl s0
    revert hp1 hl1 s1
    generalize upd H p (.dK (dk l m (t + 1))) = H1
    intro hp hl s0
    refine ⟨_, rfl, p, _, rfl, dg_mixed hp, _, rfl, p, _, rfl, dg_turn hp, _, _, rfl, rfl, .inl ⟨by decide, by decide⟩, ?_⟩
    refine ⟨_, rfl, p, _, rfl, dg_turn hp, _, _, rfl, rfl, .inr ⟨by omega, by omega⟩, _, _, rfl, rfl, ?_⟩
    refine ⟨_, rfl, p, _, rfl, dg_cells hp, Nat.zero_le _, fun q hq => ?_⟩
    have hp1 : (upd H1 q (.lst [])) p = some (.dK (dk l m (t + 1))) := by rw [upd_ne (ne_of_none hp hq)]; exact hp
    have hl1 : (upd H1 q (.lst [])) l = some (.lst (ns.map V.int)) := by rw [upd_ne (ne_of_none hl hq)]; exact hl
    have hq1 : (upd H1 q (.lst [])) q = some (.lst []) := upd_same
    have s1 : Same H0 (upd H1 q (.lst [])) := fun b o e => by
      have e1 := s0 b o e
      rw [upd_ne (ne_of_none e1 hq)]
      exact e1
    clear hp hl s0 hq
    revert hp1 hl1 s1 hq1
    generalize upd H1 q (.lst []) = H2
    intro hp hl hq s0
    refine ⟨.list (ns.map .int), .list [], .lst (SqL.of hl) (dp_ints ns), .lst (SqL.of hq) .nil, shaped_ints ns, by decide, _, rfl, ?_⟩
    revert hl
    rcases ns with _ | ⟨n0, nr⟩
    · intro hl
      refine iteF ?_
      generalize m + 186304 * (t + 1) * (t + 1) = M
      refine ⟨_, rfl, _, _, rfl, rfl, (by show (0 : Int) < 2147483549; decide), _, _, rfl, rfl, .inr ⟨by decide, by decide⟩, _, rfl, p, _, rfl, dg_turn hp, _, _, rfl, rfl, .inl ⟨_, rfl, _, _, rfl, rfl, (by show (0 : Int) < 2147483647; decide), ?_⟩⟩
      have c0 := Int.emod_nonneg (M % 2147483549 * 40692 + (t + 1)) (b := 2147483647) (by decide)
      have c1 := Int.emod_lt_of_pos (M % 2147483549 * 40692 + (t + 1)) (b := 2147483647) (by decide)
      revert c0 c1
      generalize (M % 2147483549 * 40692 + (t + 1)) % 2147483647 = M2
      intro c0 c1
      refine ⟨_, rfl, _, rfl, _, _, rfl, rfl, .inl ⟨by omega, by omega⟩, _, rfl, p, _, rfl, dg_turn hp, _, _, rfl, rfl, .inl ⟨by decide, by decide⟩, _, _, rfl, rfl, _, _, rfl, rfl, .inl ⟨_, rfl, _, _, rfl, rfl, (by show (0 : Int) < 2147483579; decide), ?_⟩⟩
      refine ⟨_, rfl, _, _, rfl, rfl, .inr ⟨by decide, by decide⟩, .inl ⟨_, rfl, _, _, rfl, rfl, (by show (0 : Int) < 2147483629; decide), _, _, rfl, rfl, ⟨by decide, by decide⟩, _, rfl, _, _, rfl, rfl, b0, ?_⟩⟩
      exact k _ _ ⟨s0, p0, l0, [], m, hp, hl, hlen, m0, m1⟩ (Int.emod_nonneg _ (by omega)) (Int.emod_lt_of_pos _ b0)
    · intro hl
      refine iteT ?_
      have hne : n0 :: nr ≠ [] := fun z => by cases z
      have elast : (List.map V.int (n0 :: nr))[(List.map V.int (n0 :: nr)).length - 1]? = some (V.int ((n0 :: nr).getLast hne)) := by
        rw [List.getElem?_map, List.length_map, ← List.getLast?_eq_getElem?, List.getLast?_eq_some_getLast hne]
        rfl
      refine ⟨_, rfl, p, _, rfl, dg_cells hp, .inl ⟨rfl, _, SqL.of hl⟩, l, _, _, rfl, rfl, hl, elast, ?_⟩
      have edrop : (List.map V.int (n0 :: nr)).dropLast = ((n0 :: nr).dropLast).map V.int := by
        rw [List.map_dropLast]
      have hd63 : (n0 :: nr).dropLast.length + 1 ≤ 63 := by
        rw [List.length_dropLast]
        have : 1 ≤ (n0 :: nr).length := by simp
        omega
      rw [edrop]
      generalize (n0 :: nr).getLast hne = c
      have hp1 : (upd H2 l (.lst (((n0 :: nr).dropLast).map V.int))) p = some (.dK (dk l m (t + 1))) := by rw [upd_ne nlp.symm]; exact hp
      have hl1 : (upd H2 l (.lst (((n0 :: nr).dropLast).map V.int))) l = some (.lst (((n0 :: nr).dropLast).map V.int)) := upd_same
      have s1 : Same H0 (upd H2 l (.lst (((n0 :: nr).dropLast).map V.int))) := fun b o e => by
        rw [upd_ne (ne_of_none e l0)]
        exact s0 b o e
      clear hp hl s0 hq
      revert hp1 hl1 s1 hd63
      generalize upd H2 l (.lst (((n0 :: nr).dropLast).map V.int)) = H3
      generalize (n0 :: nr).dropLast = ns
      intro hlen hp hl s0
      refine ⟨_, rfl, _, _, rfl, rfl, ⟨by decide, by decide, by decide⟩, _, _, rfl, rfl, _, rfl, ?_⟩
      refine ite2 (fun _ => ?_) (fun _ => ?_)
      · refine ⟨_, rfl, p, _, rfl, dg_cells hp, .inl ⟨rfl, _, SqL.of hl⟩, _, rfl, _, rfl, _, _, rfl, rfl, ⟨b0, by omega⟩, l, _, _, rfl, rfl, hl, ?_, ?_⟩
        · rw [List.length_map]
          exact Nat.lt_of_le_of_lt (Nat.le_of_succ_le hlen) (by decide)
        · refine ⟨_, rfl, .inl ⟨_, rfl, _, rfl, _, _, rfl, rfl, b0, ?_⟩⟩
          refine k _ _ ⟨fun b o e => ?_, p0, l0, ns ++ [c / b], m, ?_, ?_, ?_, m0, m1⟩ (Int.emod_nonneg _ (by omega)) (Int.emod_lt_of_pos _ b0)
          · rw [upd_ne (ne_of_none e l0)]
            exact s0 b o e
          · rw [upd_ne nlp.symm]
            exact hp
          · rw [upd_same, List.map_append]
            rfl
          · rw [List.length_append]
            exact hlen
      · refine ⟨_, rfl, _, rfl, .inl ⟨_, rfl, _, _, rfl, rfl, (by show (0 : Int) < 2147483563; decide), _, _, rfl, rfl, ?_⟩⟩
        have hlen : ns.length ≤ 63 := by omega
        generalize m + 186304 * (t + 1) * (t + 1) + c % 2147483563 = M
        refine ⟨_, rfl, _, _, rfl, rfl, (by show (0 : Int) < 2147483549; decide), _, _, rfl, rfl, .inr ⟨by decide, by decide⟩, _, rfl, p, _, rfl, dg_turn hp, _, _, rfl, rfl, .inl ⟨_, rfl, _, _, rfl, rfl, (by show (0 : Int) < 2147483647; decide), ?_⟩⟩
        have c0 := Int.emod_nonneg (M % 2147483549 * 40692 + (t + 1)) (b := 2147483647) (by decide)
        have c1 := Int.emod_lt_of_pos (M % 2147483549 * 40692 + (t + 1)) (b := 2147483647) (by decide)
        revert c0 c1
        generalize (M % 2147483549 * 40692 + (t + 1)) % 2147483647 = M2
        intro c0 c1
        refine ⟨_, rfl, _, rfl, _, _, rfl, rfl, .inl ⟨by omega, by omega⟩, _, rfl, p, _, rfl, dg_turn hp, _, _, rfl, rfl, .inl ⟨by decide, by decide⟩, _, _, rfl, rfl, _, _, rfl, rfl, .inl ⟨_, rfl, _, _, rfl, rfl, (by show (0 : Int) < 2147483579; decide), ?_⟩⟩
        refine ⟨_, rfl, _, _, rfl, rfl, .inr ⟨by decide, by decide⟩, .inl ⟨_, rfl, _, _, rfl, rfl, (by show (0 : Int) < 2147483629; decide), _, _, rfl, rfl, ⟨by decide, by decide⟩, _, rfl, _, _, rfl, rfl, b0, ?_⟩⟩
        exact k _ _ ⟨s0, p0, l0, ns, m, hp, hl, hlen, m0, m1⟩ (Int.emod_nonneg _ (by omega)) (Int.emod_lt_of_pos _ b0)
theorem ok_draw {f : Addr} {fd : FuncData} (F : Fun K "_law_draw" "_law_draw" lDraw f fd) (T : TxtD mg) : FnOk P w K mg base CX0 1 f fd ["_law_deck_here", "_law_below"] spDraw :=
  (ok_drawS F T).imp fun _ _ _ _ => draw_go
end
end KL
set_option Elab.async false
set_option linter.all false
set_option maxRecDepth 100000
set_option maxHeartbeats 4000000
namespace KL
open PySem L2 PySem.Spec PyProof.Rows
/-- once: the tuple itself -/
theorem tuple_once (l : Addr) (its : Array Value) (n : Nat) (dd : Option Addr) (sl : Array (Option Value)) (x : Int) (u : Tok) (c0 : (decide (x < -(2 ^ 63)) || decide (x ≥ 2 ^ 63)) = false) (c1 : (its.isEmpty || x == 1) = true) :
    Meets (Builtin.«tuple.__mul__» ⟨[.ref l, .int x u], []⟩) (fun _ R s => s.heap.get? l = some ⟨.type "tuple", dd, .seq its n, sl⟩ ∧ R (.ok (.ret (.ref l))) s) :=
  .of_wp fun prog w A R s hh => by
    obtain ⟨hp, g, d, tk, os⟩ := s
    obtain ⟨hl, hh⟩ := hh
    have f1 := AutoSeq1.idx_int
    wp_walk using wpAny_loadPart' hl
    repeat (first
      | (refine wpAny_ite_false (decide_eq_false (by rw [c0]; exact Bool.false_ne_true)) ?_; wp_walk using wpAny_loadPart' hl)
      | (refine wpAny_ite_true (decide_eq_true c1) ?_; wp_walk using wpAny_loadPart' hl))
    exact ⟨_, rfl, hh⟩
def rRepU (K : PySem.W.Frag) : R2 := fun x y H Q => ∃ l k xs, x = .ref l ∧ y = .int k ∧ SqT K H l xs ∧ xs ≠ [] ∧ 1 ≤ k ∧ k ≤ 1000 ∧ xs.length ≤ 1000 ∧ (k = 1 → Q (.ref l) H) ∧ (k ≠ 1 → ∀ p, H p = none → Q (.ref p) (upd H p (.tup (List.replicate k.toNat xs).flatten)))
theorem op_repU {X : Cx} : OpR X (binaryOp .Mult) (rRepU X.K) := by
  intro pins s σ H x y v u Q I rx ry h
  obtain ⟨l, k, xs, rfl, rfl, hT, hne, h1, h2, hz, q1, q2⟩ := h
  by_cases e : k = 1
  · subst e
    cases rx
    obtain ⟨t, rfl⟩ := ry
    obtain ⟨its, r, ⟨⟨cls, dd, data, sl⟩, ho, hc, n, hd⟩, hs⟩ := I.tuple hT
    simp only at hc hd
    subst hc hd
    refine wpAny_binaryOp_repeat_ref (T := "tuple") (U := "int") (by decide) ⟨_, ho, rfl⟩ (fun s' => typeIs_int s' 1 t) noFill_tuple_mul F.fills_int_mul F.slot_int_rmul repeat_tuple F.slot_int_index.lookup ?_
    refine call_meets F.slot_int_rmul (typeIs_int s 1 t) F.entry_int_rmul (F.args_int_rmul_2 _ _) (int_rmul_tuple 1 t l its.toArray n dd sl) ⟨ho, rfl, ⟨_, ho, rfl⟩, ?_⟩
    refine call_meets F.slot_tuple_mul ⟨_, ho, rfl⟩ F.entry_tuple_mul (F.args_tuple_mul_2 _ _) (tuple_once l its.toArray n dd sl 1 t (by decide) (by simp)) ⟨ho, ?_⟩
    exact ⟨.ref l, H, I, rfl, q1 rfl⟩
  · exact op_repT pins s σ H _ _ v u Q I rx ry ⟨l, k, xs, rfl, rfl, hT, hne, by omega, h2, hz, q2 e⟩
end KL
set_option Elab.async false
set_option linter.all false
set_option maxRecDepth 100000
set_option maxHeartbeats 4000000
namespace KL
open PySem L2
/-- an object of one's own, that changes -/
structure Own (p l a : Addr) (Hb H0 H : Hp) (o : HO) : Prop where
  b : Hb a = none
  ap : a ≠ p
  al : a ≠ l
  n : H0 a = none
  h : H a = some o
section
variable {p l a b : Addr} {Hs Hb H0 H H1 H' : Hp} {t t' t'' n c : Int} {o o' ob : HO}
theorem Own.start (g : Go p l Hs Hb t H0 H t' n) (na : H a = none) : Own p l a Hb H0 (upd H a o) o := by
  obtain ⟨ap, al⟩ := g.d.notP na
  refine ⟨?_, ap, al, g.d.s.free na, upd_same⟩
  cases z : Hb a with
  | none => rfl
  | some u =>
    have := g.f _ _ ap al z
    rw [na] at this
    cases this
theorem Own.go (w : Own p l a Hb H0 H o) (g : Go p l H0 H t H1 H' t' c) : Own p l a Hb H1 H' o :=
  ⟨w.b, w.ap, w.al, g.o _ w.n (by rw [w.h]; simp), g.f _ _ w.ap w.al w.h⟩
theorem Own.upd (w : Own p l a Hb H0 H o) (ne : a ≠ b) : Own p l a Hb H0 (upd H b o') o :=
  ⟨w.b, w.ap, w.al, w.n, by rw [upd_ne ne]; exact w.h⟩
theorem Own.ne (w : Own p l a Hb H0 H o) (nb : H b = none) : a ≠ b := fun z => by
  subst z
  rw [w.h] at nb
  cases nb
theorem Own.put (w : Own p l a Hb H0 H o) (nb : H b = none) : Own p l a Hb H0 (L2.upd H b o') o := w.upd (w.ne nb)
theorem Own.new (w : Own p l a Hb H0 H o) (nb : H b = none) : Own p l a Hb (L2.upd H0 b ob) (L2.upd H b ob) o :=
  ⟨w.b, w.ap, w.al, by rw [upd_ne (w.ne nb)]; exact w.n, by rw [upd_ne (w.ne nb)]; exact w.h⟩
theorem Own.set (w : Own p l a Hb H0 H o) : Own p l a Hb H0 (L2.upd H a o') o' := ⟨w.b, w.ap, w.al, w.n, upd_same⟩
theorem Own.freeze (w : Own p l a Hb H0 H o) (ne : a ≠ b) : Own p l a Hb (L2.upd H0 b ob) H o := ⟨w.b, w.ap, w.al, by rw [upd_ne ne]; exact w.n, w.h⟩
theorem Go.setO (g : Go p l Hs Hb t H0 H t' n) (w : Own p l a Hb H0 H o) : Go p l Hs Hb t H0 (L2.upd H a o') t' n := g.put w.b w.ap w.al w.n
theorem Go.keepO (g : Go p l Hs Hb t H0 H t' n) (w : Own p l a Hb H0 H o) : Go p l Hs Hb t (L2.upd H0 a o) H t' n := g.keep w.b w.ap w.al w.h w.n
end
/-- a list that is being made, behind i turns of at most c draws -/
def Making (p l D : Addr) (Hs Hb : Hp) (t c : Int) (P : Nat → List PyData → Prop) (i : Nat) (H : Hp) : Prop :=
  ∃ H0 t' ys ds, Go p l Hs Hb t H0 H t' ((i : Int) * c) ∧ Own p l D Hb H0 H (.lst ys) ∧ DqAll H0 ys ds ∧ P i ds
theorem dq_len {H : Hp} {ys : List V} {ds : List PyData} (q : DqAll H ys ds) : ys.length = ds.length := q.len
section
variable {p l D : Addr} {Hs Hb H0 H H1 H' : Hp} {t t' t'' n c : Int} {P : Nat → List PyData → Prop} {i : Nat} {ys : List V} {ds : List PyData}
theorem Making.start (dk : DeckAt Hs Hb p l t) (nD : Hb D = none) (h : P 0 []) : Making p l D Hs Hb t c P 0 (upd Hb D (.lst [])) :=
  ⟨Hs, t, [], [], ((Go.refl dk).put0 nD).more (by omega), Own.start (Go.refl dk) nD, .nil, h⟩
theorem Making.turn (g : Go p l Hs Hb t H0 H t' ((i : Int) * c)) (w : Own p l D Hb H0 H (.lst ys)) (q : DqAll H0 ys ds) (g2 : Go p l H0 H t' H1 H' t'' c) {v : V} {d : PyData} (hd : Dq H1 v d) (hn : ds.length < 1000) (hp : P (i + 1) (ds ++ [d])) :
    ∃ acc, H' D = some (.lst acc) ∧ acc.length < sizeLine ∧ Making p l D Hs Hb t c P (i + 1) (upd H' D (.lst (acc ++ [v]))) := by
  have w2 := w.go g2
  refine ⟨ys, w2.h, by rw [dq_len q, sizeLine_eq]; omega, H1, t'', ys ++ [v], ds ++ [d], ?_, w2.set, (DqAll.same g2.s _ _ q).snoc hd, hp⟩
  refine ((g.trans g2).more ?_).setO w2
  rw [Int.natCast_add, Int.add_mul]
  omega
theorem Making.skip (g : Go p l Hs Hb t H0 H t' ((i : Int) * c)) (w : Own p l D Hb H0 H (.lst ys)) (q : DqAll H0 ys ds) (g2 : Go p l H0 H t' H1 H' t'' c) (hp : P (i + 1) ds) : Making p l D Hs Hb t c P (i + 1) H' := by
  refine ⟨H1, t'', ys, ds, (g.trans g2).more ?_, w.go g2, DqAll.same g2.s _ _ q, hp⟩
  rw [Int.natCast_add, Int.add_mul]
  omega
theorem dq_new {H : Hp} {q : Addr} {ys : List V} {ds : List PyData} (nq : H q = none) (h : DqAll H ys ds) : Dq (upd H q (.tup ys)) (.ref q) (.tuple ds) := .tup upd_same (DqAll.same (same_new nq) _ _ h)
end
/-- what a def hands back that draws at most n times -/
def Gives (p l : Addr) (H0 H : Hp) (t n : Int) (G : PyData → Prop) (Q : VK) : Prop := ∀ H1 H' t' v d, Go p l H0 H t H1 H' t' n → Dq H1 v d → G d → Q v H'
theorem Gives.of {p l : Addr} {Hs Hb H0 H : Hp} {t t' n m k : Int} {G : PyData → Prop} {Q : VK} (h : Gives p l Hs Hb t k G Q) (g : Go p l Hs Hb t H0 H t' n) (e : n + m ≤ k) : Gives p l H0 H t' m G Q :=
  fun _ _ _ _ _ g2 hd hG => h _ _ _ _ _ ((g.trans g2).more e) hd hG
/-- a form of n registers with small numbers -/
def FormS (n : Int) (d : PyData) : Prop := ∃ ns : List Int, d = .tuple (ns.map .int) ∧ (ns.length : Int) = n + 1 ∧ ∀ i ∈ ns, -10 ≤ i ∧ i ≤ 10
def spPick : Sp := fun vs H Q _ => ∃ (H0 : Hp) (p l : Addr) (t : Int) (a : Addr) (xs : List V), vs = [.ref p, .ref a] ∧ DeckAt H0 H p l t ∧ 0 ≤ t ∧ t < 1048576 ∧ H a = some (.lst xs) ∧ a ≠ p ∧ a ≠ l ∧ 0 < xs.length ∧ xs.length < 1000 ∧ ∀ H' (i : Nat) v, Go p l H0 H t H0 H' (t + 1) 1 → xs[i]? = some v → Q v H'
section
variable {P : Program} {w : World} {K : PySem.W.Frag} {mg : Str → Option Value} {base : Heap}
theorem scPick : FnScope ["_law_deck_here", "_law_some"] ["_law_deck_here", "_law_some"] (defScope lPick) := ⟨rfl, rfl, rfl, by decide +kernel, rfl, by decide +kernel, by decide +kernel⟩
theorem ok_pick {f g : Addr} {fd gd : FuncData} (F : Fun K "_law_pick" "_law_pick" lPick f fd) (T : TxtD mg) (G : FnOk P w K mg base CX0 1 g gd ["_law_deck_here", "_law_below"] spDraw) (c : Cal K mg "_law_draw" g gd ["_law_deck_here", "_law_below"]) :
    FnOk P w K mg base CX0 2 f fd ["_law_deck_here", "_law_some"] spPick := by
  refine F.ok scPick (fun vs H Q E h => ?_) (fun cdv A outer s H vs Q E hr h => ?_)
  · obtain ⟨H0, p, l, t, a, xs, rfl, _⟩ := h
    rfl
  · obtain ⟨H0, p, l, t, a, xs, rfl, D, t0, t1, ha, ap, al, hx0, hx1, k⟩ := h
    refine ⟨_, pss_one (ps_ret (pe_ix ix_list (pv 1) (pe_call G hr rfl c.m c.k c.b .nil pass0 (pa_cons (pv 0) (pa_cons (pe_callB call_len_seq (by rfl) T.len PySem.boot_len (pa_cons (pv 1) pa_nil)) pa_nil))) (fun _ _ => rfl))), ?_⟩
    refine ⟨_, rfl, _, rfl, _, rfl, a, xs, rfl, .inl (SqL.of ha), H0, p, l, t, _, rfl, D, t0, t1, by omega, by omega, fun H' r g r0 rb => ?_⟩
    obtain ⟨j, rfl⟩ := Int.eq_ofNat_of_zero_le r0
    have hj : j < xs.length := by omega
    exact ⟨a, xs, _, xs[j], rfl, rfl, SqL.of (g.f _ _ ap al ha), atI_nat (List.getElem?_eq_getElem hj), k H' j _ g (List.getElem?_eq_getElem hj)⟩
def spUnit : Sp := fun vs H Q _ => ∃ (H0 : Hp) (p l : Addr) (t size kk bs fa : Int), vs = [.int size, .int kk, .int bs, .int fa] ∧ DeckAt H0 H p l t ∧ 1 ≤ size ∧ size ≤ 3 ∧ -10 ≤ bs ∧ bs ≤ 10 ∧ -10 ≤ fa ∧ fa ≤ 10 ∧ Gives p l H0 H t 0 (FormS size) Q
abbrev nUnit : List Str := ["_law_size", "_law_k", "_law_base", "_law_factor", "_law_j"]
theorem scUnit : FnScope nUnit ["_law_size", "_law_k", "_law_base", "_law_factor"] (defScope lUnit) := ⟨rfl, rfl, rfl, by decide +kernel, rfl, by decide +kernel, by decide +kernel⟩
def SmallTo (i : Nat) (ds : List PyData) : Prop := ∃ ns : List Int, ds = ns.map .int ∧ ns.length = i ∧ ∀ j ∈ ns, -10 ≤ j ∧ j ≤ 10
theorem SmallTo.zero : SmallTo 0 [] := ⟨[], rfl, rfl, fun _ h => nomatch h⟩
theorem SmallTo.turn {i : Nat} {ds : List PyData} (h : SmallTo i ds) {j : Int} (h1 : -10 ≤ j) (h2 : j ≤ 10) : SmallTo (i + 1) (ds ++ [.int j]) := by
  obtain ⟨ns, rfl, rfl, q⟩ := h
  refine ⟨ns ++ [j], by simp, by simp, fun x hx => ?_⟩
  rcases List.mem_append.mp hx with z | z
  · exact q x z
  · rw [List.mem_singleton.mp z]
    exact ⟨h1, h2⟩
theorem SmallTo.form {i : Nat} {ds : List PyData} (h : SmallTo i ds) {j n : Int} (h1 : -10 ≤ j) (h2 : j ≤ 10) (hn : (i : Int) = n) : FormS n (.tuple (.int j :: ds)) := by
  obtain ⟨ns, rfl, rfl, q⟩ := h
  refine ⟨j :: ns, rfl, by simp; omega, fun x hx => ?_⟩
  rcases List.mem_cons.mp hx with z | z
  · rw [z]
    exact ⟨h1, h2⟩
  · exact q x z
theorem SmallTo.len {i : Nat} {ds : List PyData} (h : SmallTo i ds) : ds.length = i := by
  obtain ⟨ns, rfl, rfl, q⟩ := h
  simp
structure TxtG (mg : Str → Option Value) : Prop where
  d : TxtD mg
  range : mg "range" = none
  tuple : mg "tuple" = none
theorem ok_unit {f : Addr} {fd : FuncData} (F : Fun K "_law_unit" "_law_unit" lUnit f fd) (T : TxtG mg) : FnOk P w K mg base CX0 1 f fd ["_law_size", "_law_k", "_law_base", "_law_factor"] spUnit := by
  refine F.ok scUnit (fun vs H Q E h => ?_) (fun cdv A outer s H vs Q E hr h => ?_)
  · obtain ⟨H0, p, l, t, size, kk, bs, fa, rfl, _⟩ := h
    rfl
  · obtain ⟨H0, p, l, t, size, kk, bs, fa, rfl, D, s0, s1, b0, b1, f0, f1, k⟩ := h
    refine ⟨_, pss_one (ps_ret (pe_op op_catT (pe_tup (pa_cons (pv 2) pa_nil)) (pe_tupleOf (by rfl) T.tuple (pe_lc (own := [("_law_j", 4)]) (g := gName 4) (tt := tYes) rfl scUnit.nd (pi_range1 (by rfl) T.range (pa_cons (pv 0) pa_nil)) (blkOk_by (N := nUnit) (sc := defScope lUnit) (by decide +kernel)) (fun _ _ _ _ _ => pg_name (i := 4) scUnit.nd rfl (.inl rfl)) (fun _ _ _ _ _ => pts_nil)
      (fun _ _ _ _ _ => pe_op op_mul (pv 3) (pe_callTy call_int1 (by rfl) T.d.int (by decide +kernel) (pa_cons (pe_cmpR op_eq (pv 4) (pv 1) (nomark _)) pa_nil))))))), ?_⟩
    refine ⟨_, rfl, (by show 1 ≤ sizeLine; decide), fun a na => ?_⟩
    have g1 := (Go.refl D).new (o := .tup [V.int bs]) na
    have ha : upd H a (.tup [V.int bs]) a = some (.tup [V.int bs]) := upd_same
    have ha0 : upd H0 a (.tup [V.int bs]) a = some (.tup [V.int bs]) := upd_same
    revert g1 ha ha0
    generalize upd H a (.tup [V.int bs]) = H1
    generalize upd H0 a (.tup [V.int bs]) = H01
    intro g1 ha ha0
    refine ⟨_, rfl, size, rfl, by omega, by omega, fun B nB => ?_⟩
    refine lc_range (fun i H2 => Making p l B H01 H1 t 0 SmallTo i H2) (Making.start g1.d nB SmallTo.zero) ?_ ?_
    · intro i H2 hi M
      obtain ⟨H02, t2, ys, ds, g, w, q, hP⟩ := M
      refine ⟨rfl, _, rfl, _, rfl, _, rfl, rfl, .inr ⟨_, rfl, ?_⟩⟩
      refine ⟨_, _, rfl, rfl, .inl ⟨by omega, by omega⟩, ?_⟩
      have hl := hP.len
      have hs : (i : Int) < size := by omega
      refine Making.turn g w q (Go.refl g.d) (.int _) (by omega) (hP.turn ?_ ?_) <;> (split <;> omega)
    · rintro H2 ⟨H02, t2, ys, ds, g, w, q, hP⟩
      refine .inl ⟨B, ys, rfl, SqL.of w.h, fun e ne => ?_⟩
      have g2 := (g1.trans g).new (o := .tup ys) ne
      have q2 := DqAll.same (same_new (o := .tup ys) (g.d.s.free ne)) _ _ q
      have ha2 := g2.d.s _ _ (same_new (o := .tup ys) (g.d.s.free ne) _ _ (g.s _ _ ha0))
      have he : upd H2 e (.tup ys) e = some (.tup ys) := upd_same
      revert g2 q2 ha2 he
      generalize upd H2 e (.tup ys) = H3
      generalize upd H02 e (.tup ys) = H03
      intro g2 q2 ha2 he
      have hl := hP.len
      have hy := dq_len q
      have h1 : ys ≠ [] := fun z => by
        subst z
        simp at hy
        omega
      refine ⟨a, e, _, ys, rfl, rfl, SqT.of ha2, SqT.of he, (fun z => nomatch z), ?_, fun z => absurd z h1, fun _ r nr => ?_⟩
      · show 1 + ys.length ≤ sizeLine
        rw [sizeLine_eq]
        omega
      · exact k _ _ _ _ _ ((g2.new nr).more (by omega)) (dq_new (g2.d.s.free nr) (.cons (.int bs) q2)) (hP.form b0 b1 (by omega))
end
end KL
set_option Elab.async false
set_option linter.all false
set_option maxRecDepth 100000
set_option maxHeartbeats 4000000
namespace KL
open PySem L2
def spFormG : Sp := fun vs H Q _ => ∃ (H0 : Hp) (p l : Addr) (t size top : Int), vs = [.ref p, .int size, .int top] ∧ DeckAt H0 H p l t ∧ 0 ≤ t ∧ t < 1000000 ∧ 1 ≤ size ∧ size ≤ 3 ∧ 0 ≤ top ∧ top ≤ 3 ∧ Gives p l H0 H t 3 (FormS size) Q
abbrev nForm : List Str := ["_law_deck_here", "_law_size", "_law_top", "_law_way", "_law_k", "_law_sign", "_law_j"]
theorem rep_zero (n : Nat) : (List.replicate n [V.int 0]).flatten = (List.replicate n (0 : Int)).map V.int := by
  induction n with
  | zero => rfl
  | succ n ih => rw [List.replicate_succ, List.flatten_cons, ih, List.replicate_succ]; rfl
theorem dq_ints {H : Hp} : ∀ ns : List Int, DqAll H (ns.map V.int) (ns.map PyData.int)
  | [] => .nil
  | n :: r => .cons (.int n) (dq_ints r)
theorem DeckAt.neF {H0 H : Hp} {p l a : Addr} {t : Int} {o : HO} (D : DeckAt H0 H p l t) (h : H0 a = some o) : a ≠ p ∧ a ≠ l := by
  refine ⟨?_, ?_⟩
  · rintro rfl
    rw [D.p0] at h
    cases h
  · rintro rfl
    rw [D.l0] at h
    cases h
section
variable {P : Program} {w : World} {K : PySem.W.Frag} {mg : Str → Option Value} {base : Heap}
theorem scForm : FnScope nForm ["_law_deck_here", "_law_size", "_law_top"] (defScope lForm) := ⟨rfl, rfl, rfl, by decide +kernel, rfl, by decide +kernel, by decide +kernel⟩
theorem ok_formG {f g : Addr} {fd gd : FuncData} (F : Fun K "_law_form" "_law_form" lForm f fd) (T : TxtG mg) (G : FnOk P w K mg base CX0 1 g gd ["_law_deck_here", "_law_below"] spDraw) (c : Cal K mg "_law_draw" g gd ["_law_deck_here", "_law_below"]) :
    FnOk P w K mg base CX0 2 f fd ["_law_deck_here", "_law_size", "_law_top"] spFormG := by
  refine F.ok scForm (fun vs H Q E h => ?_) (fun cdv A outer s H vs Q E hr h => ?_)
  · obtain ⟨H0, p, l, t, size, top, rfl, _⟩ := h
    rfl
  · obtain ⟨H0, p, l, t, size, top, rfl, D, t0, t1, s0, s1, b0, b1, k⟩ := h
    refine ⟨_, pss_cons (ps_asg (pe_tup (pa_cons (pe_call G hr rfl c.m c.k c.b .nil pass0 (pa_cons (pv 0) (pa_cons pe_int pa_nil))) (pa_cons (pe_call G hr rfl c.m c.k c.b .nil pass0 (pa_cons (pv 0) (pa_cons (pv 1) pa_nil))) pa_nil))) (pg_tup rfl (pgs_cons (pg_name (i := 3) scForm.nd rfl (.inl rfl)) (pgs_cons (pg_name (i := 4) scForm.nd rfl (.inr rfl)) pgs_nil))))
      (pss_cons (ps_if (pt_cmpR op_eq (pv 3) pe_int (nomark _)) (pss_one (ps_ret (pe_op op_catT (pe_tup (pa_cons (pe_call G hr rfl c.m c.k c.b .nil pass0 (pa_cons (pv 0) (pa_cons (pe_op op_add (pv 2) pe_int) pa_nil))) pa_nil)) (pe_op op_repU (pe_tup (pa_cons pe_int pa_nil)) (pv 1))))) pss_nil)
      (pss_cons (ps_set (i := 5) scForm.nd rfl (.inr rfl) (pe_ifExp (pt_cmpR op_lt (pv 3) pe_int (nomark _)) pe_int (pe_un un_neg pe_int)))
      (pss_one (ps_ret (pe_op op_catT (pe_tup (pa_cons (pe_ifExp (pt_cmpR op_lt (pv 3) pe_int (nomark _)) pe_int (pv 2)) pa_nil)) (pe_tupleOf (by rfl) T.tuple (pe_lc (own := [("_law_j", 6)]) (g := gName 6) (tt := tYes) rfl scForm.nd (pi_range1 (by rfl) T.range (pa_cons (pv 1) pa_nil)) (blkOk_by (N := nForm) (sc := defScope lForm) (by decide +kernel)) (fun _ _ _ _ _ => pg_name (i := 6) scForm.nd rfl (.inl rfl)) (fun _ _ _ _ _ => pts_nil)
        (fun _ _ _ _ _ => pe_op op_mul (pv 5) (pe_callTy call_int1 (by rfl) T.d.int (by decide +kernel) (pa_cons (pe_cmpR op_eq (pv 6) (pv 4) (nomark _)) pa_nil)))))))))), ?_⟩
    refine ⟨_, rfl, H0, p, l, t, 4, rfl, D, t0, by omega, by omega, by omega, fun H1 way g1 w0 w1 => ?_⟩
    refine ⟨_, rfl, _, rfl, H0, p, l, t + 1, size, rfl, g1.d, by omega, by omega, by omega, by omega, fun H2 kk g2 k0 k1 => ?_⟩
    refine ⟨(by show 2 ≤ sizeLine; decide), fun tp ntp => ⟨tp, _, rfl, SqT.of upd_same, rfl, _, _, rfl, _, _, rfl, rfl, ?_⟩⟩
    have g12 := (g1.trans g2).put0 (o := .tup [V.int way, V.int kk]) ntp
    revert g12
    generalize upd H2 tp (.tup [V.int way, V.int kk]) = H3
    intro g12
    refine ⟨_, rfl, rfl, _, rfl, ?_⟩
    by_cases e0 : way = 0
    · subst e0
      refine iteYes rfl ?_
      refine ⟨_, rfl, _, rfl, _, _, rfl, rfl, H0, p, l, _, _, rfl, g12.d, by omega, by omega, by omega, by omega, fun H4 r g3 r0 r1 => ?_⟩
      have g123 := g12.trans g3
      refine ⟨(by show 1 ≤ sizeLine; decide), fun a na => ?_⟩
      have g4 := g123.new (o := .tup [V.int r]) na
      have ha : upd H0 a (.tup [V.int r]) a = some (.tup [V.int r]) := upd_same
      revert g4 ha
      generalize upd H4 a (.tup [V.int r]) = H5
      generalize upd H0 a (.tup [V.int r]) = H05
      intro g4 ha
      refine ⟨(by show 1 ≤ sizeLine; decide), fun z nz => ?_⟩
      have g5 := g4.new (o := .tup [V.int 0]) nz
      have hz : upd H05 z (.tup [V.int 0]) z = some (.tup [V.int 0]) := upd_same
      have ha5 := same_new (o := .tup [V.int 0]) (g4.d.s.free nz) _ _ ha
      revert g5 hz ha5
      generalize upd H5 z (.tup [V.int 0]) = H6
      generalize upd H05 z (.tup [V.int 0]) = H06
      intro g5 hz ha5
      have fin : ∀ (H7 H07 : Hp) (y : Addr) (ys : List V) (ds : List PyData), Go p l H0 H t H07 H7 (t + 1 + 1 + 1) (1 + 1 + 1) → H07 y = some (.tup ys) → H07 a = some (.tup [V.int r]) → DqAll H07 ys ds → SmallTo size.toNat ds → ys ≠ [] → rCatT K (V.ref a) (V.ref y) H7 Q := by
        intro H7 H07 y ys ds g7 hy ha7 qd hs hn
        have ly := dq_len qd
        have lz := hs.len
        refine ⟨a, y, _, ys, rfl, rfl, SqT.of (g7.d.s _ _ ha7), SqT.of (g7.d.s _ _ hy), (fun q => nomatch q), ?_, fun q => absurd q hn, fun _ e ne => ?_⟩
        · show 1 + ys.length ≤ sizeLine
          rw [sizeLine_eq]
          omega
        · exact k _ _ _ _ _ ((g7.new ne).more (by omega)) (dq_new (g7.d.s.free ne) (.cons (.int r) qd)) (hs.form (by omega) (by omega) (by omega))
      refine ⟨_, rfl, z, size, _, rfl, rfl, SqT.of (g5.d.s _ _ hz), (fun q => nomatch q), s0, by omega, (by show 1 ≤ 1000; decide), fun e1 => ?_, fun e1 y ny => ?_⟩
      · subst e1
        exact fin _ _ z _ [.int 0] g5 hz ha5 (.cons (.int 0) .nil) ⟨[0], rfl, rfl, by simp⟩ (fun q => nomatch q)
      · rw [rep_zero]
        have g6 := g5.new (o := .tup ((List.replicate size.toNat (0 : Int)).map V.int)) ny
        refine fin _ _ y _ ((List.replicate size.toNat (0 : Int)).map .int) g6 upd_same (same_new (g5.d.s.free ny) _ _ ha5) (dq_ints _) ⟨_, rfl, by simp, ?_⟩ ?_
        · intro j hj
          rw [List.mem_replicate] at hj
          omega
        · intro q
          have := congrArg List.length q
          simp at this
          omega
    · refine iteNo (by simpa using e0) ?_
      by_cases e3 : way < 3
      · refine ⟨_, rfl, _, _, rfl, rfl, _, rfl, iteYes (decide_eq_true e3) ?_⟩
        refine ⟨_, rfl, _, _, rfl, rfl, _, rfl, iteYes (decide_eq_true e3) ?_⟩
        refine ⟨(by show 1 ≤ sizeLine; decide), fun a na => ?_⟩
        have g4 := g12.new (o := .tup [V.int 0]) na
        have ha : upd H0 a (.tup [V.int 0]) a = some (.tup [V.int 0]) := upd_same
        revert g4 ha
        generalize upd H3 a (.tup [V.int 0]) = H4
        generalize upd H0 a (.tup [V.int 0]) = H04
        intro g4 ha
        refine ⟨_, rfl, size, rfl, by omega, by omega, fun B nB => ?_⟩
        refine lc_range (fun i H2 => Making p l B H04 H4 (t + 1 + 1) 0 SmallTo i H2) (Making.start g4.d nB SmallTo.zero) ?_ ?_
        · intro i H2 hi M
          obtain ⟨H02, t2, ys, ds, g, w, q, hP⟩ := M
          refine ⟨rfl, _, rfl, _, rfl, _, rfl, rfl, .inr ⟨_, rfl, ?_⟩⟩
          refine ⟨_, _, rfl, rfl, .inl ⟨by omega, by omega⟩, ?_⟩
          have hl := hP.len
          have hs : (i : Int) < size := by omega
          refine Making.turn g w q (Go.refl g.d) (.int _) (by omega) (hP.turn ?_ ?_) <;> (split <;> omega)
        · rintro H2 ⟨H02, t2, ys, ds, g, w, q, hP⟩
          refine .inl ⟨B, ys, rfl, SqL.of w.h, fun e ne => ?_⟩
          have g2 := (g4.trans g).new (o := .tup ys) ne
          have q2 := DqAll.same (same_new (o := .tup ys) (g.d.s.free ne)) _ _ q
          have ha2 := g2.d.s _ _ (same_new (o := .tup ys) (g.d.s.free ne) _ _ (g.s _ _ ha))
          have he : upd H2 e (.tup ys) e = some (.tup ys) := upd_same
          revert g2 q2 ha2 he
          generalize upd H2 e (.tup ys) = H5
          generalize upd H02 e (.tup ys) = H05
          intro g2 q2 ha2 he
          have hl := hP.len
          have hy := dq_len q
          have h1 : ys ≠ [] := fun z => by
            subst z
            simp at hy
            omega
          refine ⟨a, e, _, ys, rfl, rfl, SqT.of ha2, SqT.of he, (fun z => nomatch z), ?_, fun z => absurd z h1, fun _ r nr => ?_⟩
          · show 1 + ys.length ≤ sizeLine
            rw [sizeLine_eq]
            omega
          · exact k _ _ _ _ _ ((g2.new nr).more (by omega)) (dq_new (g2.d.s.free nr) (.cons (.int 0) q2)) (hP.form (by omega) (by omega) (by omega))
      · refine ⟨_, rfl, _, _, rfl, rfl, _, rfl, iteNo (decide_eq_false e3) ?_⟩
        refine ⟨_, rfl, ?_⟩
        refine ⟨_, rfl, _, _, rfl, rfl, _, rfl, iteNo (decide_eq_false e3) ?_⟩
        refine ⟨_, rfl, ?_⟩
        refine ⟨(by show 1 ≤ sizeLine; decide), fun a na => ?_⟩
        have g4 := g12.new (o := .tup [V.int top]) na
        have ha : upd H0 a (.tup [V.int top]) a = some (.tup [V.int top]) := upd_same
        revert g4 ha
        generalize upd H3 a (.tup [V.int top]) = H4
        generalize upd H0 a (.tup [V.int top]) = H04
        intro g4 ha
        refine ⟨_, rfl, size, rfl, by omega, by omega, fun B nB => ?_⟩
        refine lc_range (fun i H2 => Making p l B H04 H4 (t + 1 + 1) 0 SmallTo i H2) (Making.start g4.d nB SmallTo.zero) ?_ ?_
        · intro i H2 hi M
          obtain ⟨H02, t2, ys, ds, g, w, q, hP⟩ := M
          refine ⟨rfl, _, rfl, _, rfl, _, rfl, rfl, .inr ⟨_, rfl, ?_⟩⟩
          refine ⟨_, _, rfl, rfl, .inl ⟨by omega, by omega⟩, ?_⟩
          have hl := hP.len
          have hs : (i : Int) < size := by omega
          refine Making.turn g w q (Go.refl g.d) (.int _) (by omega) (hP.turn ?_ ?_) <;> (split <;> omega)
        · rintro H2 ⟨H02, t2, ys, ds, g, w, q, hP⟩
          refine .inl ⟨B, ys, rfl, SqL.of w.h, fun e ne => ?_⟩
          have g2 := (g4.trans g).new (o := .tup ys) ne
          have q2 := DqAll.same (same_new (o := .tup ys) (g.d.s.free ne)) _ _ q
          have ha2 := g2.d.s _ _ (same_new (o := .tup ys) (g.d.s.free ne) _ _ (g.s _ _ ha))
          have he : upd H2 e (.tup ys) e = some (.tup ys) := upd_same
          revert g2 q2 ha2 he
          generalize upd H2 e (.tup ys) = H5
          generalize upd H02 e (.tup ys) = H05
          intro g2 q2 ha2 he
          have hl := hP.len
          have hy := dq_len q
          have h1 : ys ≠ [] := fun z => by
            subst z
            simp at hy
            omega
          refine ⟨a, e, _, ys, rfl, rfl, SqT.of ha2, SqT.of he, (fun z => nomatch z), ?_, fun z => absurd z h1, fun _ r nr => ?_⟩
          · show 1 + ys.length ≤ sizeLine
            rw [sizeLine_eq]
            omega
          · exact k _ _ _ _ _ ((g2.new nr).more (by omega)) (dq_new (g2.d.s.free nr) (.cons (.int top) q2)) (hP.form (by omega) (by omega) (by omega))
end
end KL
set_option Elab.async false
set_option linter.all false
set_option maxRecDepth 100000
set_option maxHeartbeats 4000000
namespace KL
open PySem L2
/-- some data, each of a size -/
def Many (n w p W : Nat) (ds : List PyData) : Prop := ds.length ≤ n ∧ ∀ d ∈ ds, Gd w p W d
theorem Many.nil {w p W : Nat} : Many 0 w p W [] := ⟨Nat.le_refl _, fun _ h => nomatch h⟩
theorem Many.snoc {n w p W : Nat} {ds : List PyData} {d : PyData} (h : Many n w p W ds) (g : Gd w p W d) : Many (n + 1) w p W (ds ++ [d]) := by
  refine ⟨by have := h.1; simp; omega, fun x hx => ?_⟩
  rcases List.mem_append.mp hx with z | z
  · exact h.2 x z
  · rw [List.mem_singleton.mp z]
    exact g
theorem Many.more {n m w p W : Nat} {ds : List PyData} (h : Many n w p W ds) (e : n ≤ m) : Many m w p W ds := ⟨Nat.le_trans h.1 e, h.2⟩
theorem Many.cons {n w p W : Nat} {ds : List PyData} {d : PyData} (g : Gd w p W d) (h : Many n w p W ds) : Many (n + 1) w p W (d :: ds) := by
  refine ⟨by have := h.1; simp; omega, fun x hx => ?_⟩
  rcases List.mem_cons.mp hx with rfl | z
  · exact g
  · exact h.2 x z
theorem wdAll_le {n w p W : Nat} : ∀ {ds : List PyData}, Many n w p W ds → wdAll ds ≤ w
  | [], _ => Nat.zero_le _
  | d :: r, h => Nat.max_le.mpr ⟨(h.2 d (.head _)).wd, wdAll_le (n := n) ⟨Nat.le_trans (Nat.le_succ _) h.1, fun x hx => h.2 x (.tail _ hx)⟩⟩
theorem dpAll_le {n w p W : Nat} : ∀ {ds : List PyData}, Many n w p W ds → PyData.depthAll ds ≤ p
  | [], _ => Nat.zero_le _
  | d :: r, h => Nat.max_le.mpr ⟨(h.2 d (.head _)).dp, dpAll_le (n := n) ⟨Nat.le_trans (Nat.le_succ _) h.1, fun x hx => h.2 x (.tail _ hx)⟩⟩
theorem txAll_of {n w p W : Nat} : ∀ {ds : List PyData}, Many n w p W ds → txAll ds = true
  | [], _ => rfl
  | d :: r, h => by
    show (txD d && txAll r) = true
    rw [(h.2 d (.head _)).tx, txAll_of (n := n) ⟨Nat.le_trans (Nat.le_succ _) h.1, fun x hx => h.2 x (.tail _ hx)⟩]
    rfl
theorem wtAll_le {w p W : Nat} : ∀ {ds : List PyData} (n : Nat), Many n w p W ds → wtAll ds ≤ n * (W + 2)
  | [], _, _ => Nat.zero_le _
  | d :: r, 0, h => absurd h.1 (by simp)
  | d :: r, n + 1, h => by
    have h1 := (h.2 d (.head _)).wt
    have h2 := wtAll_le n (ds := r) ⟨by have := h.1; simp at this; exact this, fun x hx => h.2 x (.tail _ hx)⟩
    show wt d + 2 + wtAll r ≤ (n + 1) * (W + 2)
    rw [Nat.succ_mul]
    omega
theorem Many.tup {n w p W : Nat} {ds : List PyData} (h : Many n w p W ds) : Gd (max w n) (p + 1) (n * (W + 2) + 3) (.tuple ds) := by
  refine ⟨?_, Nat.succ_le_succ (dpAll_le h), Nat.add_le_add_right (wtAll_le n h) 3, txAll_of h⟩
  exact Nat.max_le.mpr ⟨Nat.le_trans h.1 (Nat.le_max_right _ _), Nat.le_trans (wdAll_le h) (Nat.le_max_left _ _)⟩
theorem gd_int {i : Int} (h1 : -1000 ≤ i) (h2 : i ≤ 1000) : Gd 20 0 30 (.int i) := by
  have e : i.natAbs.log2 ≤ 10 := by
    have : i.natAbs < 2 ^ 10 := by omega
    by_cases z : i.natAbs = 0
    · rw [z]
      decide
    · exact Nat.le_of_lt ((Nat.log2_lt z).mpr this)
  refine ⟨?_, Nat.zero_le _, ?_, rfl⟩
  · show i.natAbs.log2 ≤ 20
    omega
  · show i.natAbs.log2 + 2 ≤ 30
    omega
theorem gd_str {x : Str} (h : txS x = true) (e : x.length ≤ 2) : Gd 20 0 30 (.str x) := by
  refine ⟨?_, Nat.zero_le _, ?_, h⟩
  · show x.length ≤ 20
    omega
  · show 10 * x.length + 2 ≤ 30
    omega
theorem FormS.gd {n : Int} {d : PyData} (h : FormS n d) (h1 : n ≤ 3) : Gd 20 1 140 d := by
  obtain ⟨ns, rfl, e, q⟩ := h
  have : Many 4 20 0 30 (ns.map .int) := by
    refine ⟨by simp; omega, fun x hx => ?_⟩
    obtain ⟨i, hi, rfl⟩ := List.mem_map.mp hx
    have := q i hi
    exact gd_int (by omega) (by omega)
  exact this.tup.mono (by decide) (by decide) (by decide)
/-- the letters of a house -/
def lets5 : List Str := ["ab", "abc", "kz", "a", "xyz"]
theorem lets_ok {x : Str} (h : x ∈ lets5) : x.cps.size ≤ 3 ∧ ∀ (i : Nat) (c : Nat), x.cps[i]? = some c → c < 128 := by
  have z : (lets5.all fun x => decide (x.cps.size ≤ 3) && x.cps.toList.all fun c => decide (c < 128)) = true := by decide +kernel
  have y := List.all_eq_true.mp z x h
  simp only [Bool.and_eq_true, decide_eq_true_eq] at y
  refine ⟨y.1, fun i c hc => ?_⟩
  have hm : c ∈ x.cps.toList := by
    rw [Array.mem_toList_iff]
    exact Array.mem_of_getElem? hc
  exact of_decide_eq_true (List.all_eq_true.mp y.2 c hm)
theorem gd_sign {x : Str} (h : x ∈ lets5) {i c : Nat} (e : x.cps[i]? = some c) : Gd 20 0 30 (.str ⟨#[c]⟩) := by
  refine gd_str ?_ (by show 1 ≤ 2; decide)
  show ([c].all fun c => decide (c < 128)) = true
  simp [(lets_ok h).2 i c e]
/-! ### the dict of a house -/
def names9 : List Key := [Sum.inr "people", Sum.inr "deeds", Sum.inr "start", Sum.inr "places", Sum.inr "ends", Sum.inr "logs", Sum.inr "arrows", Sum.inr "tests", Sum.inr "looks"]
def wk (vs : List V) : List (Key × V) := names9.zip vs
theorem wk_start (a b v : V) : putK (wk [a, b]) (Sum.inr "start") v = wk [a, b, v] := by rfl
theorem wk_places (a b c v : V) : putK (wk [a, b, c]) (Sum.inr "places") v = wk [a, b, c, v] := by rfl
theorem wk_ends (a b c d v : V) : putK (wk [a, b, c, d]) (Sum.inr "ends") v = wk [a, b, c, d, v] := by rfl
theorem wk_logs (a b c d e v : V) : putK (wk [a, b, c, d, e]) (Sum.inr "logs") v = wk [a, b, c, d, e, v] := by rfl
theorem wk_arrows (a b c d e f v : V) : putK (wk [a, b, c, d, e, f]) (Sum.inr "arrows") v = wk [a, b, c, d, e, f, v] := by rfl
theorem wk_tests (a b c d e f g v : V) : putK (wk [a, b, c, d, e, f, g]) (Sum.inr "tests") v = wk [a, b, c, d, e, f, g, v] := by rfl
theorem wk_looks (a b c d e f g h v : V) : putK (wk [a, b, c, d, e, f, g, h]) (Sum.inr "looks") v = wk [a, b, c, d, e, f, g, h, v] := by rfl
theorem wk_two (a b : V) : mergeK [] [(Sum.inr "people", a), (Sum.inr "deeds", b)] = wk [a, b] := by rfl
theorem wk_getlogs (a b c d e f : V) : valV (wk [a, b, c, d, e, f]) (Sum.inr "logs") = some f := by rfl
end KL
set_option Elab.async false
set_option linter.all false
set_option maxRecDepth 100000
set_option maxHeartbeats 8000000
namespace KL
open PySem L2
abbrev nHouse : List Str := ["_law_deck_here", "_law_places", "_law_size", "_law_top", "_law_many", "_law_people", "_law_letters", "_law_w", "_law_arrows", "_law_tests", "_law_place", "_law_letter", "_law_forms", "_law_marks", "_law_low", "_law_unit_here", "_law_looks", "_law_person", "_law_row", "_law_near", "_law_far", "_law_k"]
/-- nine parts of a size, kept in H, made by at most 200 draws -/
def Nines (H : Hp) (vs : List V) (ds : List PyData) : Prop := DqAll H vs ds ∧ ds.length = 9 ∧ ∀ d ∈ ds, Gd 20 4 20000 d
def spHouse : Sp := fun vs H Q _ => ∃ (H0 : Hp) (p l : Addr) (t n : Int), vs = [.ref p, .int n] ∧ DeckAt H0 H p l t ∧ 0 ≤ t ∧ t < 900000 ∧ 1 ≤ n ∧ n ≤ 3 ∧ ∀ H1 H' t' w vs' ds, Go p l H0 H t H1 H' t' 200 → H1 w = some (.dK (wk vs')) → Nines H1 vs' ds → Q (.ref w) H'
/-- in the loop over places and letters: m turns so far, c draws; sl: the slots 10 to 15; X: what is known besides -/
def Lp (p l : Addr) (Hs Hb : Hp) (t n size top many people : Int) (x : Str) (w : Addr) (vs : List V) (ds : List PyData) (a b : Addr) (c : Int) (m m2 : Nat) (sl : List (Option V)) (X : Hp → Prop) (σ : L2.St) (H : Hp) : Prop :=
  ∃ H0 t' as bs da db, σ = [some (.ref p), some (.int n), some (.int size), some (.int top), some (.int many), some (.int people), some (.str x), some (.ref w), some (.ref a), some (.ref b)] ++ sl ++ [none, none, none, none, none, none] ∧
    Go p l Hs Hb t H0 H t' c ∧ Own p l w Hb H0 H (.dK (wk vs)) ∧ DqAll H0 vs ds ∧ Own p l a Hb H0 H (.lst as) ∧ DqAll H0 as da ∧ Own p l b Hb H0 H (.lst bs) ∧ DqAll H0 bs db ∧ Many m 20 3 2000 da ∧ Many m2 20 3 2000 db ∧ X H0
def LpO (p l : Addr) (Hs Hb : Hp) (t n size top many people : Int) (x : Str) (w : Addr) (vs : List V) (ds : List PyData) (a b : Addr) (m : Nat) (σ : L2.St) (H : Hp) : Prop :=
  ∃ o1 o2 o3 o4 o5 o6, Lp p l Hs Hb t n size top many people x w vs ds a b (14 + 14 * (m : Int)) m m [o1, o2, o3, o4, o5, o6] (fun _ => True) σ H
theorem LpO.more {p l : Addr} {Hs Hb : Hp} {t n size top many people : Int} {x : Str} {w : Addr} {vs : List V} {ds : List PyData} {a b : Addr} {m m' : Nat} {σ : L2.St} {H : Hp} (h : LpO p l Hs Hb t n size top many people x w vs ds a b m σ H) (e : m ≤ m') :
    LpO p l Hs Hb t n size top many people x w vs ds a b m' σ H := by
  obtain ⟨o1, o2, o3, o4, o5, o6, H0, t', as, bs, da, db, h1, g, hw, hd, ha, qa, hb, qb, ma, mb, _⟩ := h
  exact ⟨o1, o2, o3, o4, o5, o6, H0, t', as, bs, da, db, h1, g.more (by omega), hw, hd, ha, qa, hb, qb, ma.more e, mb.more e, trivial⟩
/-- in the loop over people: m turns so far, c draws; sl: the slots 10 to 20; X: what is known besides -/
def Lk (p l : Addr) (Hs Hb : Hp) (t n size top many people : Int) (x : Str) (w : Addr) (vs : List V) (ds : List PyData) (a b k : Addr) (c : Int) (m : Nat) (sl : List (Option V)) (X : Hp → Hp → Prop) (σ : L2.St) (H : Hp) : Prop :=
  ∃ H0 t' rs dr, σ = [some (.ref p), some (.int n), some (.int size), some (.int top), some (.int many), some (.int people), some (.str x), some (.ref w), some (.ref a), some (.ref b)] ++ sl ++ [none] ∧
    Go p l Hs Hb t H0 H t' c ∧ Own p l w Hb H0 H (.dK (wk vs)) ∧ DqAll H0 vs ds ∧ Own p l k Hb H0 H (.lst rs) ∧ DqAll H0 rs dr ∧ Many m 20 3 1000 dr ∧ X H0 H
def LkO (p l : Addr) (Hs Hb : Hp) (t n size top many people : Int) (x : Str) (w : Addr) (vs : List V) (ds : List PyData) (a b k : Addr) (m : Nat) (σ : L2.St) (H : Hp) : Prop :=
  ∃ o1 o2 o3 o4 o5 o6 o7 o8 o9 o10, Lk p l Hs Hb t n size top many people x w vs ds a b k (140 + 3 * (m : Int)) m [o1, o2, o3, o4, o5, o6, some (.ref k), o7, o8, o9, o10] (fun _ _ => True) σ H
/-- a row of looks that is being made -/
def RowX (p l : Addr) (Hb : Hp) (r : Addr) (j : Nat) (H0 H : Hp) : Prop := ∃ ys dy, Own p l r Hb H0 H (.lst ys) ∧ DqAll H0 ys dy ∧ Many j 20 2 300 dy
theorem LkO.more {p l : Addr} {Hs Hb : Hp} {t n size top many people : Int} {x : Str} {w : Addr} {vs : List V} {ds : List PyData} {a b k : Addr} {m m' : Nat} {σ : L2.St} {H : Hp} (h : LkO p l Hs Hb t n size top many people x w vs ds a b k m σ H) (e : m ≤ m') :
    LkO p l Hs Hb t n size top many people x w vs ds a b k m' σ H := by
  obtain ⟨o1, o2, o3, o4, o5, o6, o7, o8, o9, o10, H0, t', rs, dr, h1, g, hw, hd, hk, qk, mk, _⟩ := h
  exact ⟨o1, o2, o3, o4, o5, o6, o7, o8, o9, o10, H0, t', rs, dr, h1, g.more (by omega), hw, hd, hk, qk, mk.more e, trivial⟩
section
variable {P : Program} {w : World} {K : PySem.W.Frag} {mg : Str → Option Value} {base : Heap}
theorem scHouse : FnScope nHouse ["_law_deck_here", "_law_places"] (defScope lHouse) := ⟨rfl, rfl, rfl, by decide +kernel, rfl, by decide +kernel, by decide +kernel⟩
/-- behind the first statement -/
def Mid0 (p l : Addr) (Hs Hb : Hp) (t n : Int) (σ : L2.St) (H : Hp) : Prop :=
  ∃ t' size top many, σ = [some (.ref p), some (.int n), some (.int size), some (.int top), some (.int many), none, none, none, none, none, none, none, none, none, none, none, none, none, none, none, none, none] ∧
    Go p l Hs Hb t Hs H t' 3 ∧ 1 ≤ size ∧ size ≤ 2 ∧ 1 ≤ top ∧ top ≤ 2 ∧ 1 ≤ many ∧ many ≤ 3
/-- behind the second one -/
def Mid1 (p l : Addr) (Hs Hb : Hp) (t n : Int) (σ : L2.St) (H : Hp) : Prop :=
  ∃ t' size top many people x, σ = [some (.ref p), some (.int n), some (.int size), some (.int top), some (.int many), some (.int people), some (.str x), none, none, none, none, none, none, none, none, none, none, none, none, none, none, none] ∧
    Go p l Hs Hb t Hs H t' 5 ∧ 1 ≤ size ∧ size ≤ 2 ∧ 1 ≤ top ∧ top ≤ 2 ∧ 1 ≤ many ∧ many ≤ 3 ∧ 1 ≤ people ∧ people ≤ 3 ∧ x ∈ lets5
/-- with the dict; m draws so far -/
def MidW (p l : Addr) (Hs Hb : Hp) (t n : Int) (c m : Int) (N : Nat) (σ : L2.St) (H : Hp) : Prop :=
  ∃ H0 t' size top many people x w vs ds, σ = [some (.ref p), some (.int n), some (.int size), some (.int top), some (.int many), some (.int people), some (.str x), some (.ref w), none, none, none, none, none, none, none, none, none, none, none, none, none, none] ∧
    Go p l Hs Hb t H0 H t' c ∧ 1 ≤ size ∧ size ≤ 2 ∧ 1 ≤ top ∧ top ≤ 2 ∧ 1 ≤ many ∧ many ≤ 3 ∧ 1 ≤ people ∧ people ≤ 3 ∧ x ∈ lets5 ∧ Own p l w Hb H0 H (.dK (wk vs)) ∧ DqAll H0 vs ds ∧ ds.length = N ∧ Many N 20 4 20000 ds
theorem ok_house {f g1 g2 g3 g4 : Addr} {fd gd1 gd2 gd3 gd4 : FuncData} (F : Fun K "_law_house" "_law_house" lHouse f fd) (T : TxtG mg)
    (G1 : FnOk P w K mg base CX0 1 g1 gd1 ["_law_deck_here", "_law_below"] spDraw) (c1 : Cal K mg "_law_draw" g1 gd1 ["_law_deck_here", "_law_below"])
    (G2 : FnOk P w K mg base CX0 2 g2 gd2 ["_law_deck_here", "_law_some"] spPick) (c2 : Cal K mg "_law_pick" g2 gd2 ["_law_deck_here", "_law_some"])
    (G3 : FnOk P w K mg base CX0 2 g3 gd3 ["_law_deck_here", "_law_size", "_law_top"] spFormG) (c3 : Cal K mg "_law_form" g3 gd3 ["_law_deck_here", "_law_size", "_law_top"])
    (G4 : FnOk P w K mg base CX0 1 g4 gd4 ["_law_size", "_law_k", "_law_base", "_law_factor"] spUnit) (c4 : Cal K mg "_law_unit" g4 gd4 ["_law_size", "_law_k", "_law_base", "_law_factor"]) :
    FnOk P w K mg base CX0 3 f fd ["_law_deck_here", "_law_places"] spHouse := by
  refine F.ok scHouse (fun vs H Q E h => ?_) (fun cdv A outer s H vs Q E hr h => ?_)
  · obtain ⟨H0, p, l, t, n, rfl, _⟩ := h
    rfl
  · obtain ⟨Hs, p, l, t, n, rfl, D, t0, t1, n1, n3, k⟩ := h
    have hu := hu_of hr
    have r1 : Room 1 _ := hr.mono (by decide)
    have nd := scHouse.nd
    refine ⟨_, C8.pss_cut (ps_asg (pe_tup (pa_cons (pe_op op_add pe_int (pe_call G1 r1 rfl c1.m c1.k c1.b .nil pass0 (pa_cons (pv 0) (pa_cons pe_int pa_nil)))) (pa_cons (pe_op op_add pe_int (pe_callTy call_int1 (by rfl) T.d.int (by decide +kernel) (pa_cons (pe_cmpR op_eq (pe_call G1 r1 rfl c1.m c1.k c1.b .nil pass0 (pa_cons (pv 0) (pa_cons pe_int pa_nil))) pe_int (nomark _)) pa_nil))) (pa_cons (pe_op op_add pe_int (pe_call G1 r1 rfl c1.m c1.k c1.b .nil pass0 (pa_cons (pv 0) (pa_cons (pv 1) pa_nil)))) pa_nil)))) (pg_tup rfl (pgs_cons (pg_name (i := 2) nd rfl (.inr rfl)) (pgs_cons (pg_name (i := 3) nd rfl (.inr rfl)) (pgs_cons (pg_name (i := 4) nd rfl (.inl rfl)) pgs_nil)))))
      (C8.pss_cut (ps_asg (pe_tup (pa_cons (pe_op op_add pe_int (pe_call G1 r1 rfl c1.m c1.k c1.b .nil pass0 (pa_cons (pv 0) (pa_cons pe_int pa_nil)))) (pa_cons (pe_call G2 hr rfl c2.m c2.k c2.b .nil pass0 (pa_cons (pv 0) (pa_cons (pe_lst (pa_cons pe_str (pa_cons pe_str (pa_cons pe_str (pa_cons pe_str (pa_cons pe_str pa_nil)))))) pa_nil))) pa_nil))) (pg_tup rfl (pgs_cons (pg_name (i := 5) nd rfl (.inr rfl)) (pgs_cons (pg_name (i := 6) nd rfl (.inl rfl)) pgs_nil))))
      (C8.pss_cut (ps_set (i := 7) nd rfl (.inl rfl) (pe_disp (pps_cons pe_str (pv 5) (pps_cons pe_str (pe_tupleOf (by rfl) T.tuple (pe_lc (own := [("_law_letter", 11)]) (g := gName 11) (tt := tYes) rfl nd (pi_str (pv 6)) (blkOk_by (N := nHouse) (sc := defScope lHouse) (by decide +kernel)) (fun _ _ _ _ _ => pg_name (i := 11) nd rfl (.inl rfl)) (fun _ _ _ _ _ => pts_nil) (fun _ _ _ _ _ => (pe_tup (pa_cons (pv 11) (pa_cons (pe_call G1 r1 rfl c1.m c1.k c1.b .nil pass0 (pa_cons (pv 0) (pa_cons (pv 5) pa_nil))) pa_nil)))))) pps_nil)) (by rfl) (by rfl) (fun z => by cases z) (by decide)))
      (C8.pss_cut (ps_asg (pe_tup (pa_cons (pe_tupleOf (by rfl) T.tuple (pe_lc (own := [("_law_k", 21)]) (g := gName 21) (tt := tYes) rfl nd (pi_range1 (by rfl) T.range (pa_cons (pv 2) pa_nil)) (blkOk_by (N := nHouse) (sc := defScope lHouse) (by decide +kernel)) (fun _ _ _ _ _ => pg_name (i := 21) nd rfl (.inl rfl)) (fun _ _ _ _ _ => pts_nil) (fun _ _ _ _ _ => (pe_call G1 r1 rfl c1.m c1.k c1.b .nil pass0 (pa_cons (pv 0) (pa_cons (pe_op op_add (pv 3) pe_int) pa_nil)))))) (pa_cons (pv 4) pa_nil))) (pg_tup rfl (pgs_cons (pg_sub (pv 7) pe_str (set_dict hu)) (pgs_cons (pg_sub (pv 7) pe_str (set_dict hu)) pgs_nil))))
      (C8.pss_cut (ps_dput hu (pv 7) pe_str (pe_tupleOf (by rfl) T.tuple (pe_lc (own := [("_law_place", 10)]) (g := gName 10) rfl nd (pi_range1 (by rfl) T.range (pa_cons (pv 4) pa_nil)) (blkOk_by (N := nHouse) (sc := defScope lHouse) (by decide +kernel)) (fun _ _ _ _ _ => pg_name (i := 10) nd rfl (.inl rfl)) (fun _ _ _ _ _ => (pts_one (pt_cmpR op_gt (pe_call G1 r1 rfl c1.m c1.k c1.b .nil pass0 (pa_cons (pv 0) (pa_cons pe_int pa_nil))) pe_int (nomark _)))) (fun _ _ _ _ _ => (pv 10)))) rfl)
      (C8.pss_cut (ps_asg (pe_tup (pa_cons (pe_call G1 r1 rfl c1.m c1.k c1.b .nil pass0 (pa_cons (pv 0) (pa_cons pe_int pa_nil))) (pa_cons (pe_lst pa_nil) (pa_cons (pe_lst pa_nil) pa_nil)))) (pg_tup rfl (pgs_cons (pg_sub (pv 7) pe_str (set_dict hu)) (pgs_cons (pg_name (i := 8) nd rfl (.inl rfl)) (pgs_cons (pg_name (i := 9) nd rfl (.inl rfl)) pgs_nil)))))
      (C8.pss_cut (ps_for PassesOwn.never rfl (pi_range1 (by rfl) T.range (pa_cons (pv 4) pa_nil)) (pg_name (i := 10) nd rfl (.inl rfl)) (pss_one (ps_for PassesOwn.never rfl (pi_str (pv 6)) (pg_name (i := 11) nd rfl (.inl rfl)) (pss_one
        (ps_if (pt_cmpR op_gt (pe_call G1 r1 rfl c1.m c1.k c1.b .nil pass0 (pa_cons (pv 0) (pa_cons pe_int pa_nil))) pe_int (nomark _)) (C8.pss_cut (ps_set (i := 12) nd rfl (.inl rfl) (pe_tupleOf (by rfl) T.tuple (pe_lc (own := [("_law_k", 21)]) (g := gName 21) (tt := tYes) rfl nd (pi_range1 (by rfl) T.range (pa_cons (pv 2) pa_nil)) (blkOk_by (N := nHouse) (sc := defScope lHouse) (by decide +kernel)) (fun _ _ _ _ _ => pg_name (i := 21) nd rfl (.inl rfl)) (fun _ _ _ _ _ => pts_nil) (fun _ _ _ _ _ => (pe_call G3 hr rfl c3.m c3.k c3.b .nil pass0 (pa_cons (pv 0) (pa_cons (pv 2) (pa_cons (pv 3) pa_nil))))))))
          (C8.pss_cut (ps_set (i := 13) nd rfl (.inl rfl) (pe_tupleOf (by rfl) T.tuple (pe_lc (own := [("_law_k", 21)]) (g := gName 21) (tt := tYes) rfl nd (pi_range1 (by rfl) T.range (pa_cons (pe_dget hu (pv 7) pe_str (fun _ _ => rfl)) pa_nil)) (blkOk_by (N := nHouse) (sc := defScope lHouse) (by decide +kernel)) (fun _ _ _ _ _ => pg_name (i := 21) nd rfl (.inl rfl)) (fun _ _ _ _ _ => pts_nil) (fun _ _ _ _ _ => (pe_call G2 hr rfl c2.m c2.k c2.b .nil pass0 (pa_cons (pv 0) (pa_cons (pe_lst (pa_cons pe_str (pa_cons pe_str (pa_cons pe_str (pa_cons pe_str pa_nil))))) pa_nil)))))))
          (C8.pss_cut (ps_expr (pe_bm PySem.F.plainAttrs_list PySem.F.slot_list_append PySem.F.type_list_append mt_append (pv 8) (pa_cons (pe_tup (pa_cons (pv 10) (pa_cons (pv 11) (pa_cons (pe_call G1 r1 rfl c1.m c1.k c1.b .nil pass0 (pa_cons (pv 0) (pa_cons (pv 4) pa_nil))) (pa_cons (pv 12) (pa_cons (pv 13) pa_nil)))))) pa_nil)))
          (pss_one (ps_if (PW.pt (pw_and (pt_cmpR op_eq (pe_call G1 r1 rfl c1.m c1.k c1.b .nil pass0 (pa_cons (pv 0) (pa_cons pe_int pa_nil))) pe_int (nomark _)) (pw_and1 (pt_cmpR op_lt (pe_callB call_len_seq (by rfl) T.d.len PySem.boot_len (pa_cons (pv 9) pa_nil)) pe_int (nomark _))))) (C8.pss_cut (ps_set (i := 14) nd rfl (.inl rfl) (pe_call G1 r1 rfl c1.m c1.k c1.b .nil pass0 (pa_cons (pv 0) (pa_cons (pe_op op_add (pv 3) pe_int) pa_nil))))
            (C8.pss_cut (ps_set (i := 15) nd rfl (.inl rfl) (pe_call G4 r1 rfl c4.m c4.k c4.b .nil pass0 (pa_cons (pv 2) (pa_cons (pe_call G1 r1 rfl c1.m c1.k c1.b .nil pass0 (pa_cons (pv 0) (pa_cons (pv 2) pa_nil))) (pa_cons pe_int (pa_cons pe_int pa_nil))))))
            (pss_one (ps_expr (pe_bm PySem.F.plainAttrs_list PySem.F.slot_list_append PySem.F.type_list_append mt_append (pv 9) (pa_cons (pe_tup (pa_cons (pv 10) (pa_cons (pv 11) (pa_cons (pv 15) (pa_cons (pv 14) (pa_cons (pe_op op_add (pv 14) (pe_call G1 r1 rfl c1.m c1.k c1.b .nil pass0 (pa_cons (pv 0) (pa_cons pe_int pa_nil)))) pa_nil)))))) pa_nil)))))) pss_nil))))) pss_nil)))))
      (C8.pss_cut (ps_asg (pe_tup (pa_cons (pe_tupleOf (by rfl) T.tuple (pv 8)) (pa_cons (pe_tupleOf (by rfl) T.tuple (pv 9)) (pa_cons (pe_lst pa_nil) pa_nil)))) (pg_tup rfl (pgs_cons (pg_sub (pv 7) pe_str (set_dict hu)) (pgs_cons (pg_sub (pv 7) pe_str (set_dict hu)) (pgs_cons (pg_name (i := 16) nd rfl (.inl rfl)) pgs_nil)))))
      (C8.pss_cut (ps_for PassesOwn.never rfl (pi_range1 (by rfl) T.range (pa_cons (pv 5) pa_nil)) (pg_name (i := 17) nd rfl (.inl rfl)) (C8.pss_cut (ps_set (i := 18) nd rfl (.inl rfl) (pe_lst pa_nil))
        (C8.pss_cut (ps_for PassesOwn.never rfl (pi_range1 (by rfl) T.range (pa_cons (pv 4) pa_nil)) (pg_name (i := 10) nd rfl (.inl rfl)) (C8.pss_cut (ps_par (i := 19) (j := 20) (by rfl) nd rfl rfl (by decide) rfl rfl (pa_cons (pe_call G4 r1 rfl c4.m c4.k c4.b .nil pass0 (pa_cons (pv 2) (pa_cons pe_int (pa_cons pe_int (pa_cons pe_int pa_nil))))) (pa_cons (pe_call G4 r1 rfl c4.m c4.k c4.b .nil pass0 (pa_cons (pv 2) (pa_cons (pe_op op_sub (pv 2) pe_int) (pa_cons pe_int (pa_cons (pe_un un_neg pe_int) pa_nil))))) pa_nil)) (by rfl))
          (pss_one (ps_expr (pe_bm PySem.F.plainAttrs_list PySem.F.slot_list_append PySem.F.type_list_append mt_append (pv 18) (pa_cons (pe_call G2 hr rfl c2.m c2.k c2.b .nil pass0 (pa_cons (pv 0) (pa_cons (pe_lst (pa_cons (pe_tup pa_nil) (pa_cons (pe_tup (pa_cons (pv 19) pa_nil)) (pa_cons (pe_tup (pa_cons (pv 20) pa_nil)) (pa_cons (pe_tup (pa_cons (pv 20) (pa_cons (pv 19) pa_nil))) pa_nil))))) pa_nil))) pa_nil))))))
        (pss_one (ps_expr (pe_bm PySem.F.plainAttrs_list PySem.F.slot_list_append PySem.F.type_list_append mt_append (pv 16) (pa_cons (pe_tupleOf (by rfl) T.tuple (pv 18)) pa_nil)))))))
      (C8.pss_cut (ps_dput hu (pv 7) pe_str (pe_tupleOf (by rfl) T.tuple (pv 16)) rfl)
      (pss_one (ps_ret (pv 7)))))))))))), ?_⟩
    refine ⟨Mid0 p l Hs H t n, ?_, ?_⟩
    · refine ⟨_, rfl, Hs, p, l, t, 2, rfl, D, t0, by omega, by omega, by omega, fun H1 a ga a0 a1 => ?_⟩
      refine ⟨_, _, rfl, rfl, _, rfl, Hs, p, l, _, 3, rfl, ga.d, by omega, by omega, by omega, by omega, fun H2 b gb b0 b1 => ?_⟩
      refine ⟨rfl, .inr ⟨_, rfl, _, _, rfl, rfl, ?_⟩⟩
      refine ⟨_, rfl, _, rfl, Hs, p, l, _, n, rfl, gb.d, by omega, by omega, by omega, by omega, fun H3 m gm m0 m1 => ?_⟩
      refine ⟨_, _, rfl, rfl, (by show 3 ≤ sizeLine; decide), fun tp ntp => ⟨tp, _, rfl, SqT.of upd_same, rfl, _, _, rfl, _, _, rfl, _, _, rfl, rfl, ?_⟩⟩
      refine ⟨_, 1 + a, _, 1 + m, rfl, (((ga.trans gb).trans gm).put0 ntp).more (by omega), by omega, by omega, ?_, ?_, by omega, by omega⟩ <;> (split <;> omega)
    rintro σ1 H1 ⟨t', size, top, many, rfl, g, s0, s1, p0, p1, m0, m1⟩
    have gt := g.t1
    have gt0 := g.t0
    refine ⟨Mid1 p l Hs H t n, ?_, ?_⟩
    · refine ⟨_, rfl, Hs, p, l, _, 3, rfl, g.d, by omega, by omega, by omega, by omega, fun H2 a ga a0 a1 => ?_⟩
      refine ⟨_, _, rfl, rfl, _, rfl, (by show 5 ≤ sizeLine; decide), fun q nq => ?_⟩
      have hq := Own.start (o := .lst [V.str "ab", V.str "abc", V.str "kz", V.str "a", V.str "xyz"]) ga nq
      have g2 := (g.trans ga).put0 (o := .lst [V.str "ab", V.str "abc", V.str "kz", V.str "a", V.str "xyz"]) nq
      revert hq g2
      generalize upd H2 q (.lst [V.str "ab", V.str "abc", V.str "kz", V.str "a", V.str "xyz"]) = H3
      intro hq g2
      refine ⟨Hs, p, l, _, q, _, rfl, g2.d, by omega, by omega, hq.h, hq.ap, hq.al, by decide, by decide, fun H4 i v gv hv => ?_⟩
      have hx : ∃ x, v = .str x ∧ x ∈ lets5 := by
        have e : v ∈ (lets5.map V.str) := List.mem_of_getElem? hv
        obtain ⟨x, hx, rfl⟩ := List.mem_map.mp e
        exact ⟨x, rfl, hx⟩
      obtain ⟨x, rfl, hx⟩ := hx
      refine ⟨(by show 2 ≤ sizeLine; decide), fun tp ntp => ⟨tp, _, rfl, SqT.of upd_same, rfl, _, _, rfl, _, _, rfl, rfl, ?_⟩⟩
      exact ⟨_, size, top, many, _, x, rfl, ((g2.trans gv).put0 ntp).more (by omega), s0, s1, p0, p1, m0, m1, by omega, by omega, hx⟩
    clear g s0 s1 p0 p1 m0 m1 gt gt0
    rintro σ1 H1 ⟨t', size, top, many, people, x, rfl, g, s0, s1, p0, p1, m0, m1, q0, q1, hx⟩
    have gt := g.t1
    have gt0 := g.t0
    refine ⟨MidW p l Hs H t n 8 0 2, ?_, ?_⟩
    · intro w nw
      have gw := g.put0 (o := .dK []) nw
      have hw := Own.start (o := .dK []) g nw
      revert gw hw
      generalize upd H1 w (.dK []) = H2
      intro gw hw
      refine ⟨_, rfl, _, rfl, x, rfl, fun B nB => ?_⟩
      refine lc_it walk_str (fun i H3 => Making p l B Hs H2 t' 1 (fun i ds => Many i 20 1 100 ds) i H3) (Making.start gw.d nB Many.nil) (fun _ _ _ _ => trivial) ?_ ?_
      · rintro i y H3 H3' hi ⟨H02, t2, ys, ds, g3, w3, q3, hP⟩ ⟨rfl, c, hc, rfl⟩
        have g3t := g3.t1
        have g3t0 := g3.t0
        have hi3 : i < 3 := Nat.lt_of_lt_of_le hi (lets_ok hx).1
        refine ⟨rfl, _, rfl, _, rfl, _, rfl, H02, p, l, t2, people, rfl, g3.d, by omega, by omega, by omega, by omega, fun H4 r g4 r0 r1 => ⟨(by show 2 ≤ sizeLine; decide), fun tp ntp => ?_⟩⟩
        have g5 := g4.new (o := .tup [V.str ⟨#[c]⟩, V.int r]) ntp
        refine Making.turn g3 w3 q3 g5 (dq_new (g4.d.s.free ntp) (.cons (.str _) (.cons (.int _) .nil))) (by have := hP.1; omega) (hP.snoc ?_)
        exact (Many.cons (gd_sign hx hc) (Many.cons (gd_int (by omega) (by omega)) Many.nil)).tup.mono (by decide) (by decide) (by decide)
      · rintro H3 ⟨H02, t2, ys, ds, g3, w3, q3, hP⟩
        refine .inl ⟨B, ys, rfl, SqL.of w3.h, fun e ne => ?_⟩
        have g4 := g3.new (o := .tup ys) ne
        have w4 := hw.go g4
        have d4 := dq_new (g3.d.s.free ne) q3
        have nl := (lets_ok hx).1
        revert g4 w4 d4
        generalize upd H3 e (.tup ys) = H4
        generalize upd H02 e (.tup ys) = H04
        intro g4 w4 d4
        refine ⟨w4.h, [(Sum.inr "people", .int people), (Sum.inr "deeds", .ref e)], rfl, (by show 2 ≤ 15; decide), ?_⟩
        rw [wk_two]
        refine ⟨H04, t2, size, top, many, people, x, w, _, _, rfl, ((gw.trans g4).more (by omega)).setO w4, s0, s1, p0, p1, m0, m1, q0, q1, hx, w4.set, .cons (.int _) (.cons d4 .nil), rfl, ?_⟩
        exact Many.cons ((gd_int (by omega) (by omega)).mono (by decide) (by decide) (by decide)) (Many.cons ((hP.more nl).tup.mono (by decide) (by decide) (by decide)) Many.nil)
    clear g s0 s1 p0 p1 m0 m1 gt gt0 q0 q1 hx
    rintro σ1 H1 ⟨H01, t', size, top, many, people, x, w, vs, ds, rfl, g, s0, s1, p0, p1, m0, m1, q0, q1, hx, hw, hd, hn, hm⟩
    have gt := g.t1
    have gt0 := g.t0
    refine ⟨MidW p l Hs H t n 10 0 4, ?_, ?_⟩
    · refine ⟨_, rfl, size, rfl, by omega, by omega, fun B nB => ?_⟩
      refine lc_range (fun i H3 => Making p l B H01 H1 t' 1 (fun i ds => Many i 20 0 30 ds) i H3) (Making.start g.d nB Many.nil) ?_ ?_
      · rintro i H3 hi ⟨H02, t2, ys, ds', g3, w3, q3, hP⟩
        have g3t := g3.t1
        have g3t0 := g3.t0
        refine ⟨rfl, _, rfl, _, rfl, _, _, rfl, rfl, H02, p, l, t2, _, rfl, g3.d, by omega, by omega, by omega, by omega, fun H4 r g4 r0 r1 => ?_⟩
        exact Making.turn g3 w3 q3 g4 (.int r) (by have := hP.1; omega) (hP.snoc (gd_int (by omega) (by omega)))
      · rintro H3 ⟨H02, t2, ys, ds', g3, w3, q3, hP⟩
        refine .inl ⟨B, ys, rfl, SqL.of w3.h, fun e ne => ?_⟩
        have g4 := g3.new (o := .tup ys) ne
        have w4 := hw.go g4
        have d4 := dq_new (g3.d.s.free ne) q3
        have dd := DqAll.same g4.s _ _ hd
        revert g4 w4 d4 dd
        generalize upd H3 e (.tup ys) = H4
        generalize upd H02 e (.tup ys) = H04
        intro g4 w4 d4 dd
        refine ⟨_, rfl, (by show 2 ≤ sizeLine; decide), fun tp ntp => ⟨tp, _, rfl, SqT.of upd_same, rfl, _, _, rfl, ?_⟩⟩
        have g5 := (g.trans g4).put0 (o := .tup [V.ref e, V.int many]) ntp
        have w5 := w4.put (o' := .tup [V.ref e, V.int many]) ntp
        revert g5 w5
        generalize upd H4 tp (.tup [V.ref e, V.int many]) = H5
        intro g5 w5
        obtain ⟨v1, vr, rfl⟩ : ∃ v1 v2, vs = [v1, v2] := by
          have := dq_len hd
          rw [hn] at this
          match vs, this with
          | [a, b], _ => exact ⟨a, b, rfl⟩
        refine ⟨_, rfl, w, _, rfl, DPut.k (k := Sum.inr "start") w5.h (by show 2 < sizeLine; decide), _, _, rfl, _, rfl, w, _, rfl, DPut.k (k := Sum.inr "places") upd_same (by show 3 < sizeLine; decide), rfl, ?_⟩
        rw [wk_start, wk_places]
        refine ⟨H04, t2, size, top, many, people, x, w, [v1, vr, .ref e, .int many], ds ++ [.tuple ds', .int many], rfl, ((g5.more (by omega)).setO w5).setO w5.set, s0, s1, p0, p1, m0, m1, q0, q1, hx, w5.set.set, ?_, by simp [hn], ?_⟩
        · have := (dd.snoc d4).snoc (.int many)
          simpa using this
        · have h1 := (hm.snoc ((hP.tup).mono (w' := 20) (p' := 4) (W' := 20000) (by omega) (by decide) (by omega))).snoc ((gd_int (i := many) (by omega) (by omega)).mono (w' := 20) (p' := 4) (W' := 20000) (by decide) (by decide) (by decide))
          simpa using h1
    clear g s0 s1 p0 p1 m0 m1 gt gt0 q0 q1 hx hw hd hn hm
    rintro σ1 H1 ⟨H01, t', size, top, many, people, x, w, vs, ds, rfl, g, s0, s1, p0, p1, m0, m1, q0, q1, hx, hw, hd, hn, hm⟩
    have gt := g.t1
    have gt0 := g.t0
    refine ⟨MidW p l Hs H t n 13 0 5, ?_, ?_⟩
    · refine ⟨_, rfl, many, rfl, by omega, by omega, fun B nB => ?_⟩
      refine lc_range (fun i H3 => Making p l B H01 H1 t' 1 (fun i ds => Many i 20 0 30 ds) i H3) (Making.start g.d nB Many.nil) ?_ ?_
      · rintro i H3 hi ⟨H02, t2, ys, ds', g3, w3, q3, hP⟩
        have g3t := g3.t1
        have g3t0 := g3.t0
        refine ⟨rfl, _, rfl, H02, p, l, t2, _, rfl, g3.d, by omega, by omega, by omega, by omega, fun H4 r g4 r0 r1 => ?_⟩
        refine ⟨_, _, rfl, rfl, _, rfl, ?_⟩
        by_cases e : 0 < r
        · refine iteYes (decide_eq_true e) ⟨_, rfl, ?_⟩
          exact Making.turn g3 w3 q3 g4 (.int _) (by have := hP.1; omega) (hP.snoc (gd_int (by omega) (by omega)))
        · refine iteNo (decide_eq_false e) ?_
          exact Making.skip g3 w3 q3 g4 (hP.more (by omega))
      · rintro H3 ⟨H02, t2, ys, ds', g3, w3, q3, hP⟩
        refine .inl ⟨B, ys, rfl, SqL.of w3.h, fun e ne => ?_⟩
        have g4 := g3.new (o := .tup ys) ne
        have w4 := hw.go g4
        have d4 := dq_new (g3.d.s.free ne) q3
        have dd := DqAll.same g4.s _ _ hd
        revert g4 w4 d4 dd
        generalize upd H3 e (.tup ys) = H4
        generalize upd H02 e (.tup ys) = H04
        intro g4 w4 d4 dd
        obtain ⟨v1, v2, v3, v4, rfl⟩ : ∃ v1 v2 v3 v4, vs = [v1, v2, v3, v4] := by
          have := dq_len hd
          rw [hn] at this
          match vs, this with
          | [a, b, c, d], _ => exact ⟨a, b, c, d, rfl⟩
        refine ⟨_, rfl, w, _, rfl, DPut.k (k := Sum.inr "ends") w4.h (by show 4 < sizeLine; decide), ?_⟩
        rw [wk_ends]
        refine ⟨H04, t2, size, top, many, people, x, w, [v1, v2, v3, v4, .ref e], ds ++ [.tuple ds'], rfl, ((g.trans g4).more (by omega)).setO w4, s0, s1, p0, p1, m0, m1, q0, q1, hx, w4.set, ?_, by simp [hn], ?_⟩
        · exact dd.snoc d4
        · exact hm.snoc ((hP.tup).mono (by omega) (by decide) (by omega))
    clear g s0 s1 p0 p1 m0 m1 gt gt0 q0 q1 hx hw hd hn hm
    rintro σ1 H1 ⟨H01, t', size, top, many, people, x, w, vs, ds, rfl, g, s0, s1, p0, p1, m0, m1, q0, q1, hx, hw, hd, hn, hm⟩
    have gt := g.t1
    have gt0 := g.t0
    obtain ⟨v1, v2, v3, v4, v5, rfl⟩ : ∃ v1 v2 v3 v4 v5, vs = [v1, v2, v3, v4, v5] := by
      have := dq_len hd
      rw [hn] at this
      match vs, this with
      | [a, b, c, d, e], _ => exact ⟨a, b, c, d, e, rfl⟩
    refine ⟨fun σ H' => ∃ lg a b, 0 ≤ lg ∧ lg ≤ 2 ∧ a ≠ b ∧ LpO p l Hs H t n size top many people x w [v1, v2, v3, v4, v5, .int lg] (ds ++ [.int lg]) a b 0 σ H', ?_, ?_⟩
    · refine ⟨_, rfl, H01, p, l, t', 3, rfl, g.d, by omega, by omega, by omega, by omega, fun H2 lg g2 l0 l1 => ?_⟩
      refine ⟨(by show 0 ≤ sizeLine; decide), fun a na => ?_⟩
      have ga := g.trans g2
      have wa := Own.start (o := .lst []) ga na
      have hwa := (hw.go g2).put (o' := .lst []) na
      have ga := ga.put0 (o := .lst []) na
      revert ga wa hwa
      generalize upd H2 a (.lst []) = H3
      intro wa hwa ga
      refine ⟨(by show 0 ≤ sizeLine; decide), fun b nb => ?_⟩
      have ab := wa.ne nb
      have wb := Own.start (o := .lst []) ga nb
      have wa := wa.put (o' := .lst []) nb
      have hwb := hwa.put (o' := .lst []) nb
      have gb := ga.put0 (o := .lst []) nb
      revert gb wa wb hwb
      generalize upd H3 b (.lst []) = H4
      intro wb wa hwb gb
      refine ⟨(by show 3 ≤ sizeLine; decide), fun tp ntp => ⟨tp, _, rfl, SqT.of upd_same, rfl, ?_⟩⟩
      have gc := gb.put0 (o := .tup [.int lg, .ref a, .ref b]) ntp
      have wa := wa.put (o' := .tup [.int lg, .ref a, .ref b]) ntp
      have wb := wb.put (o' := .tup [.int lg, .ref a, .ref b]) ntp
      have hwc := hwb.put (o' := .tup [.int lg, .ref a, .ref b]) ntp
      revert gc wa wb hwc
      generalize upd H4 tp (.tup [.int lg, .ref a, .ref b]) = H5
      intro gc wa wb hwc
      refine ⟨_, _, rfl, _, rfl, w, _, rfl, DPut.k (k := Sum.inr "logs") hwc.h (by show 5 < sizeLine; decide), _, _, rfl, _, _, rfl, rfl, ?_⟩
      rw [wk_logs]
      have nwa : a ≠ w := ne_of wa.h hwc.h (by intro z; cases z)
      have nwb : b ≠ w := ne_of wb.h hwc.h (by intro z; cases z)
      refine ⟨lg, a, b, l0, by omega, ab, none, none, none, none, none, none, H01, _, [], [], [], [], rfl, (gc.setO hwc).more (by omega), hwc.set, ?_, wa.upd nwa, .nil, wb.upd nwb, .nil, Many.nil, Many.nil, trivial⟩
      exact hd.snoc (.int lg)
    -- loop over places
    clear g hw hd gt gt0
    rintro σ1 H1 ⟨lg, a, b, l0, l1, ab, hL⟩
    refine ⟨LpO p l Hs H t n size top many people x w [v1, v2, v3, v4, v5, .int lg] (ds ++ [.int lg]) a b 9, ?_, ?_⟩
    · have hL0 := hL
      obtain ⟨o1, o2, o3, o4, o5, o6, H0, t', as, bs, da, db, rfl, _⟩ := hL
      refine ⟨_, rfl, many, rfl, by omega, by omega, for_range (fun i σ H' => LpO p l Hs H t n size top many people x w [v1, v2, v3, v4, v5, .int lg] (ds ++ [.int lg]) a b (3 * i) σ H') hL0 ?_ (fun σ H' h => h.more (by omega))⟩
      rintro i σ H2 hi hL
      have hi3 : i < 3 := by omega
      obtain ⟨o1, o2, o3, o4, o5, o6, hL⟩ := hL
      have hs : ∃ o2 o3 o4 o5 o6, Lp p l Hs H t n size top many people x w [v1, v2, v3, v4, v5, .int lg] (ds ++ [.int lg]) a b (14 + 14 * ((3 * i + 0 : Nat) : Int)) (3 * i + 0) (3 * i + 0) [some (.int (0 + (i : Int))), o2, o3, o4, o5, o6] (fun _ => True) (σ.set 10 (some (.int (0 + (i : Int))))) H2 := by
        obtain ⟨H0, t', as, bs, da, db, rfl, r⟩ := hL
        exact ⟨o2, o3, o4, o5, o6, H0, t', as, bs, da, db, rfl, r⟩
      obtain ⟨H0, t', as, bs, da, db, rfl, _⟩ := hL
      refine ⟨_, rfl, x, rfl, for_it walk_str (fun j σ H' => ∃ o2 o3 o4 o5 o6, Lp p l Hs H t n size top many people x w [v1, v2, v3, v4, v5, .int lg] (ds ++ [.int lg]) a b (14 + 14 * ((3 * i + j : Nat) : Int)) (3 * i + j) (3 * i + j) [some (.int (0 + (i : Int))), o2, o3, o4, o5, o6] (fun _ => True) σ H') hs (fun _ _ _ _ _ => trivial) ?_ ?_⟩
      · rintro j v σ H3 H3' hj ⟨o2, o3, o4, o5, o6, H0, t2, as, bs, da, db, rfl, g, hw, hd, ha, qa, hb, qb, ma, mb, _⟩ ⟨rfl, c, hc, rfl⟩
        have hj3 : j < 3 := Nat.lt_of_lt_of_le hj (lets_ok hx).1
        have gt := g.t1
        have gt0 := g.t0
        generalize hm0 : 3 * i + j = m at *
        have hm9 : m < 9 := by omega
        refine ⟨_, rfl, H0, p, l, t2, 6, rfl, g.d, by omega, by omega, by omega, by omega, fun H4 r g4 r0 r1 => ⟨_, _, rfl, rfl, _, rfl, ?_⟩⟩
        by_cases e : 0 < r
        · refine iteYes (decide_eq_true e) ?_
          have g5 := g.trans g4
          have hw5 := hw.go g4
          have ha5 := ha.go g4
          have hb5 := hb.go g4
          have gt5 := g5.t1
          refine ⟨fun σ H' => ∃ v d o4 o5 o6, Lp p l Hs H t n size top many people x w [v1, v2, v3, v4, v5, .int lg] (ds ++ [.int lg]) a b (14 + 14 * (m : Int) + 7) m m [some (.int (0 + (i : Int))), some (.str ⟨#[c]⟩), some v, o4, o5, o6] (fun H0 => Dq H0 v d ∧ Gd 20 2 300 d) σ H', ?_, ?_⟩
          · refine ⟨_, rfl, size, rfl, by omega, by omega, fun B nB => ?_⟩
            refine lc_range (fun i H5 => Making p l B H0 H4 (t2 + 1) 3 (fun i ds => Many i 20 1 140 ds) i H5) (Making.start g5.d nB Many.nil) ?_ ?_
            · rintro k' H5 hk ⟨H02, t3, ys, ds', g3, w3, q3, hP⟩
              have g3t := g3.t1
              have g3t0 := g3.t0
              refine ⟨rfl, _, rfl, _, rfl, _, rfl, H02, p, l, t3, size, top, rfl, g3.d, by omega, by omega, by omega, by omega, by omega, by omega, fun H6 H6' t6 v d g6 hdv hG => ?_⟩
              exact Making.turn g3 w3 q3 g6 hdv (by have := hP.1; omega) (hP.snoc (hG.gd (by omega)))
            · rintro H5 ⟨H02, t3, ys, ds', g3, w3, q3, hP⟩
              refine .inl ⟨B, ys, rfl, SqL.of w3.h, fun q nq => ?_⟩
              have g6 := g3.new (o := .tup ys) nq
              have d6 := dq_new (g3.d.s.free nq) q3
              refine ⟨.ref q, .tuple ds', o4, o5, o6, _, _, as, bs, da, db, rfl, (g5.trans g6).more (by omega), hw5.go g6, DqAll.same g6.s _ _ hd, ha5.go g6, DqAll.same g6.s _ _ qa, hb5.go g6, DqAll.same g6.s _ _ qb, ma, mb, d6, ?_⟩
              exact (hP.more (m := 2) (by omega)).tup.mono (by decide) (by decide) (by decide)
          clear g5 hw5 ha5 hb5 gt5 g hw hd ha hb qa qb ma mb as bs da db g4 gt gt0 o3 o4 o5 o6
          rintro σ2 H5 ⟨v12, d12, o4, o5, o6, H0, t2, as, bs, da, db, rfl, g, hw, hd, ha, qa, hb, qb, ma, mb, q12, s12⟩
          have gt := g.t1
          have gt0 := g.t0
          refine ⟨fun σ H' => ∃ v d o5 o6, Lp p l Hs H t n size top many people x w [v1, v2, v3, v4, v5, .int lg] (ds ++ [.int lg]) a b (14 + 14 * (m : Int) + 9) m m [some (.int (0 + (i : Int))), some (.str ⟨#[c]⟩), some v12, some v, o5, o6] (fun H0 => Dq H0 v12 d12 ∧ Gd 20 2 300 d12 ∧ Dq H0 v d ∧ Gd 20 1 200 d) σ H', ?_, ?_⟩
          · refine ⟨_, rfl, w, _, rfl, (show DGet _ w _ (some (V.int lg)) from DGet.k (k := Sum.inr "logs") hw.h), lg, rfl, by omega, by omega, fun B nB => ?_⟩
            refine lc_range (fun i H5 => Making p l B H0 _ t2 1 (fun i ds => Many i 20 0 30 ds) i H5) (Making.start g.d nB Many.nil) ?_ ?_
            · rintro k' H5 hk ⟨H02, t3, ys, ds', g3, w3, q3, hP⟩
              have g3t := g3.t1
              have g3t0 := g3.t0
              refine ⟨rfl, _, rfl, (by show 4 ≤ sizeLine; decide), fun q nq => ?_⟩
              have gq := (Go.refl g3.d).put0 (o := .lst [V.str "", V.str "x", V.str "y", V.str "x"]) nq
              have hq := Own.start (o := .lst [V.str "", V.str "x", V.str "y", V.str "x"]) (Go.refl g3.d) nq
              revert gq hq
              generalize upd H5 q (.lst [V.str "", V.str "x", V.str "y", V.str "x"]) = H6
              intro gq hq
              refine ⟨H02, p, l, t3, q, _, rfl, gq.d, by omega, by omega, hq.h, hq.ap, hq.al, by decide, by decide, fun H7 k7 v gv hv => ?_⟩
              have hx : ∃ x, v = .str x ∧ x ∈ (["", "x", "y", "x"] : List Str) := by
                have e : v ∈ ((["", "x", "y", "x"] : List Str).map V.str) := List.mem_of_getElem? hv
                obtain ⟨x, hx, rfl⟩ := List.mem_map.mp e
                exact ⟨x, rfl, hx⟩
              obtain ⟨y, rfl, hy⟩ := hx
              have gy : txS y = true ∧ y.length ≤ 2 := by
                have z : ((["", "x", "y", "x"] : List Str).all fun y => txS y && decide (y.length ≤ 2)) = true := by decide +kernel
                have := List.all_eq_true.mp z y hy
                simpa using this
              exact Making.turn g3 w3 q3 ((gq.trans gv).more (by omega)) (.str y) (by have := hP.1; omega) (hP.snoc (gd_str gy.1 gy.2))
            · rintro H5 ⟨H02, t3, ys, ds', g3, w3, q3, hP⟩
              refine .inl ⟨B, ys, rfl, SqL.of w3.h, fun q nq => ?_⟩
              have g6 := g3.new (o := .tup ys) nq
              have d6 := dq_new (g3.d.s.free nq) q3
              refine ⟨.ref q, .tuple ds', o5, o6, _, _, as, bs, da, db, rfl, (g.trans g6).more (by omega), hw.go g6, DqAll.same g6.s _ _ hd, ha.go g6, DqAll.same g6.s _ _ qa, hb.go g6, DqAll.same g6.s _ _ qb, ma, mb, Dq.same g6.s _ _ q12, s12, d6, ?_⟩
              exact (hP.more (m := 2) (by omega)).tup.mono (by decide) (by decide) (by decide)
          clear g hw hd ha hb qa qb ma mb as bs da db gt gt0 q12 s12 o4 o5 o6
          rintro σ3 H6 ⟨v13, d13, o5, o6, H0, t2, as, bs, da, db, rfl, g, hw, hd, ha, qa, hb, qb, ma, mb, q12, s12, q13, s13⟩
          have gt := g.t1
          have gt0 := g.t0
          refine ⟨fun σ H' => ∃ o5 o6, Lp p l Hs H t n size top many people x w [v1, v2, v3, v4, v5, .int lg] (ds ++ [.int lg]) a b (14 + 14 * (m : Int) + 10) (m + 1) m [some (.int (0 + (i : Int))), some (.str ⟨#[c]⟩), some v12, some v13, o5, o6] (fun _ => True) σ H', ?_, ?_⟩
          · refine ⟨_, rfl, .inl ⟨rfl, _, SqL.of ha.h⟩, _, rfl, _, rfl, _, rfl, _, rfl, H0, p, l, t2, many, rfl, g.d, by omega, by omega, by omega, by omega, fun H7 tg g7 tg0 tg1 => ?_⟩
            refine ⟨_, rfl, _, rfl, (by show 5 ≤ sizeLine; decide), fun tp ntp => ?_⟩
            have ha7 := ha.go g7
            have g8 := g7.new (o := .tup [V.int (0 + (i : Int)), V.str ⟨#[c]⟩, V.int tg, v12, v13]) ntp
            have d8 := dq_new (g7.d.s.free ntp) (.cons (.int (0 + (i : Int))) (.cons (.str ⟨#[c]⟩) (.cons (.int tg) (.cons (Dq.same g7.s _ _ q12) (.cons (Dq.same g7.s _ _ q13) .nil)))))
            have ha8 := ha.go g8
            have hw8 := hw.go g8
            have hb8 := hb.go g8
            revert g8 d8 ha8 hw8 hb8
            generalize upd H7 tp (.tup [V.int (0 + (i : Int)), V.str ⟨#[c]⟩, V.int tg, v12, v13]) = H8
            generalize upd H0 tp (.tup [V.int (0 + (i : Int)), V.str ⟨#[c]⟩, V.int tg, v12, v13]) = H08
            intro g8 d8 ha8 hw8 hb8
            refine ⟨a, _, _, rfl, rfl, ha8.h, ?_, ?_⟩
            · have := dq_len qa
              have := ma.1
              rw [sizeLine_eq]
              omega
            · refine ⟨o5, o6, H08, _, _, bs, _, db, rfl, ((g.trans g8).more (by omega)).setO ha8, hw8.upd (fun z => ?_), DqAll.same g8.s _ _ hd, ha8.set, (DqAll.same g8.s _ _ qa).snoc d8, hb8.upd (fun z => ab z.symm), DqAll.same g8.s _ _ qb, ma.snoc ?_, mb, trivial⟩
              · subst z
                have := hw8.h
                rw [ha8.h] at this
                cases this
              · have z0 : Many 5 20 2 300 [PyData.int (0 + (i : Int)), .str ⟨#[c]⟩, .int tg, d12, d13] := by
                  refine Many.cons ((gd_int (by omega) (by omega)).mono (by decide) (by decide) (by decide)) (Many.cons ((gd_sign hx hc).mono (by decide) (by decide) (by decide)) (Many.cons ((gd_int (by omega) (by omega)).mono (by decide) (by decide) (by decide)) (Many.cons s12 (Many.cons (s13.mono (by decide) (by decide) (by decide)) Many.nil))))
                exact z0.tup.mono (by decide) (by decide) (by decide)
          clear g hw hd ha hb qa qb ma mb as bs da db gt gt0 q12 s12 q13 s13 o5 o6
          rintro σ4 H8 ⟨o5, o6, H0, t2, as, bs, da, db, rfl, g, hw, hd, ha, qa, hb, qb, ma, mb, _⟩
          have gt := g.t1
          have gt0 := g.t0
          refine ⟨_, rfl, H0, p, l, t2, 6, rfl, g.d, by omega, by omega, by omega, by omega, fun H9 r' g9 r0' r1' => ⟨rfl, _, rfl, ?_⟩⟩
          have g10 := g.trans g9
          have gt10 := g10.t1
          have hw9 := hw.go g9
          have ha9 := ha.go g9
          have hb9 := hb.go g9
          by_cases e6 : r' = 0
          · refine iteYes (by rw [e6]; simp) ?_
            refine ⟨_, rfl, b, _, rfl, .inl (SqL.of hb9.h), _, _, rfl, rfl, _, rfl, ?_⟩
            by_cases e4 : ((bs.length : Nat) : Int) < 4
            · refine iteYes (decide_eq_true e4) ?_
              refine ⟨fun σ H' => ∃ lo o6, 0 ≤ lo ∧ lo ≤ 2 ∧ Lp p l Hs H t n size top many people x w [v1, v2, v3, v4, v5, .int lg] (ds ++ [.int lg]) a b (14 + 14 * (m : Int) + 12) (m + 1) m [some (.int (0 + (i : Int))), some (.str ⟨#[c]⟩), some v12, some v13, some (.int lo), o6] (fun _ => True) σ H', ?_, ?_⟩
              · refine ⟨_, rfl, _, rfl, _, _, rfl, rfl, H0, p, l, _, _, rfl, g10.d, by omega, by omega, by omega, by omega, fun H11 lo g11 lo0 lo1 => ?_⟩
                exact ⟨lo, o6, lo0, by omega, H0, _, as, bs, da, db, rfl, (g10.trans g11).more (by omega), hw9.go g11, hd, ha9.go g11, qa, hb9.go g11, qb, ma, mb, trivial⟩
              clear g hw hd ha hb qa qb ma mb as bs da db gt gt0 o5 o6 e4 g10 gt10 hw9 ha9 hb9 g9
              rintro σ5 H10 ⟨lo, o6, lo0, lo2, H0, t2, as, bs, da, db, rfl, g, hw, hd, ha, qa, hb, qb, ma, mb, _⟩
              have gt := g.t1
              have gt0 := g.t0
              refine ⟨fun σ H' => ∃ u du, Lp p l Hs H t n size top many people x w [v1, v2, v3, v4, v5, .int lg] (ds ++ [.int lg]) a b (14 + 14 * (m : Int) + 13) (m + 1) m [some (.int (0 + (i : Int))), some (.str ⟨#[c]⟩), some v12, some v13, some (.int lo), some u] (fun H0 => Dq H0 u du ∧ Gd 20 1 140 du) σ H', ?_, ?_⟩
              · refine ⟨_, rfl, _, rfl, _, rfl, H0, p, l, _, _, rfl, g.d, by omega, by omega, by omega, by omega, fun H11 kk g11 kk0 kk1 => ?_⟩
                refine ⟨H0, p, l, _, size, kk, 0, 1, rfl, g11.d, by omega, by omega, by omega, by omega, by omega, by omega, fun H12 H12' t12 u du g12 hu' hG => ?_⟩
                have gx := g11.trans g12
                exact ⟨u, du, H12, _, as, bs, da, db, rfl, (g.trans gx).more (by omega), hw.go gx, DqAll.same gx.s _ _ hd, ha.go gx, DqAll.same gx.s _ _ qa, hb.go gx, DqAll.same gx.s _ _ qb, ma, mb, hu', hG.gd (by omega)⟩
              clear g hw hd ha hb qa qb ma mb as bs da db gt gt0 o6
              rintro σ6 H11 ⟨u, du, H0, t2, as, bs, da, db, rfl, g, hw, hd, ha, qa, hb, qb, ma, mb, qu, su⟩
              have gt := g.t1
              have gt0 := g.t0
              refine ⟨_, rfl, .inl ⟨rfl, _, SqL.of hb.h⟩, _, rfl, _, rfl, _, rfl, _, rfl, _, rfl, _, rfl, H0, p, l, t2, 2, rfl, g.d, by omega, by omega, by omega, by omega, fun H12 hi2 g12 hi0 hi1 => ?_⟩
              refine ⟨_, _, rfl, rfl, (by show 5 ≤ sizeLine; decide), fun tp ntp => ?_⟩
              have g8 := g12.new (o := .tup [V.int (0 + (i : Int)), V.str ⟨#[c]⟩, u, V.int lo, V.int (lo + hi2)]) ntp
              have d8 := dq_new (g12.d.s.free ntp) (.cons (.int (0 + (i : Int))) (.cons (.str ⟨#[c]⟩) (.cons (Dq.same g12.s _ _ qu) (.cons (.int lo) (.cons (.int (lo + hi2)) .nil)))))
              have ha8 := ha.go g8
              have hw8 := hw.go g8
              have hb8 := hb.go g8
              revert g8 d8 ha8 hw8 hb8
              generalize upd H12 tp (.tup [V.int (0 + (i : Int)), V.str ⟨#[c]⟩, u, V.int lo, V.int (lo + hi2)]) = H8
              generalize upd H0 tp (.tup [V.int (0 + (i : Int)), V.str ⟨#[c]⟩, u, V.int lo, V.int (lo + hi2)]) = H08
              intro g8 d8 ha8 hw8 hb8
              refine ⟨b, _, _, rfl, rfl, hb8.h, ?_, ?_⟩
              · have := dq_len qb
                have := mb.1
                rw [sizeLine_eq]
                omega
              · refine ⟨_, _, _, _, _, H08, _, as, _, da, _, rfl, ((g.trans g8).more (by omega)).setO hb8, hw8.upd (fun z => ?_), DqAll.same g8.s _ _ hd, ha8.upd (fun z => ab z), DqAll.same g8.s _ _ qa, hb8.set, (DqAll.same g8.s _ _ qb).snoc d8, ma.more (by omega), (mb.snoc ?_).more (by omega), trivial⟩
                · subst z
                  have := hw8.h
                  rw [hb8.h] at this
                  cases this
                · have z0 : Many 5 20 2 300 [PyData.int (0 + (i : Int)), .str ⟨#[c]⟩, du, .int lo, .int (lo + hi2)] := by
                    refine Many.cons ((gd_int (by omega) (by omega)).mono (by decide) (by decide) (by decide)) (Many.cons ((gd_sign hx hc).mono (by decide) (by decide) (by decide)) (Many.cons (su.mono (by decide) (by decide) (by decide)) (Many.cons ((gd_int (by omega) (by omega)).mono (by decide) (by decide) (by decide)) (Many.cons ((gd_int (by omega) (by omega)).mono (by decide) (by decide) (by decide)) Many.nil))))
                  exact z0.tup.mono (by decide) (by decide) (by decide)
            · refine iteNo (decide_eq_false e4) ?_
              exact ⟨_, _, _, _, _, H0, _, as, bs, da, db, rfl, g10.more (by omega), hw9, hd, ha9, qa, hb9, qb, ma.more (by omega), mb.more (by omega), trivial⟩
          · refine iteNo (by simpa using e6) ?_
            refine iteNo rfl ?_
            exact ⟨_, _, _, _, _, H0, _, as, bs, da, db, rfl, g10.more (by omega), hw9, hd, ha9, qa, hb9, qb, ma.more (by omega), mb.more (by omega), trivial⟩
        · refine iteNo (decide_eq_false e) ?_
          refine ⟨_, _, _, _, _, H0, _, as, bs, da, db, rfl, ((g.trans g4).more (by omega)), hw.go g4, hd, ha.go g4, qa, hb.go g4, qb, ma.more (by omega), mb.more (by omega), trivial⟩
      · rintro σ2 H3 ⟨o2, o3, o4, o5, o6, hL⟩
        exact LpO.more ⟨_, _, _, _, _, _, hL⟩ (by have := (lets_ok hx).1; omega)
    -- looks
    have fin := k
    clear k
    rintro σ1 H1 ⟨o1, o2, o3, o4, o5, o6, H0, t', as, bs, da, db, rfl, g, hw, hd, ha, qa, hb, qb, ma, mb, _⟩
    have gt := g.t1
    have gt0 := g.t0
    refine ⟨fun σ H' => ∃ qa qb da db k, Many 9 20 3 2000 da ∧ Many 9 20 3 2000 db ∧ LkO p l Hs H t n size top many people x w [v1, v2, v3, v4, v5, .int lg, .ref qa, .ref qb] (ds ++ [.int lg, .tuple da, .tuple db]) a b k 0 σ H', ?_, ?_⟩
    · refine ⟨_, rfl, .inl ⟨a, as, rfl, SqL.of ha.h, fun q1 nq1 => ?_⟩⟩
      have ga := g.new (o := .tup as) nq1
      have da1 := dq_new (g.d.s.free nq1) qa
      have qb1 := DqAll.same (same_new (o := .tup as) (g.d.s.free nq1)) _ _ qb
      have hd1 := DqAll.same (same_new (o := .tup as) (g.d.s.free nq1)) _ _ hd
      have hw1 := hw.new (ob := .tup as) nq1
      have hb1 := hb.new (ob := .tup as) nq1
      clear g hw hd ha qa hb qb
      revert ga da1 qb1 hd1 hw1 hb1
      generalize upd H1 q1 (.tup as) = H2
      generalize upd H0 q1 (.tup as) = H02
      intro ga da1 qb1 hd1 hw1 hb1
      refine ⟨_, rfl, .inl ⟨b, bs, rfl, SqL.of hb1.h, fun q2 nq2 => ?_⟩⟩
      have gb := ga.new (o := .tup bs) nq2
      have db2 := dq_new (ga.d.s.free nq2) qb1
      have da2 := Dq.same (same_new (o := .tup bs) (ga.d.s.free nq2)) _ _ da1
      have hd2 := DqAll.same (same_new (o := .tup bs) (ga.d.s.free nq2)) _ _ hd1
      have hw2 := hw1.new (ob := .tup bs) nq2
      clear ga da1 qb1 hd1 hw1 hb1
      revert gb db2 da2 hd2 hw2
      generalize upd H2 q2 (.tup bs) = H3
      generalize upd H02 q2 (.tup bs) = H03
      intro gb db2 da2 hd2 hw2
      refine ⟨(by show 0 ≤ sizeLine; decide), fun k nk => ?_⟩
      have hk := Own.start (o := .lst []) gb nk
      have hw3 := hw2.put (o' := .lst []) nk
      have gk := gb.put0 (o := .lst []) nk
      clear gb hw2
      revert hk hw3 gk
      generalize upd H3 k (.lst []) = H4
      intro hk hw3 gk
      refine ⟨(by show 3 ≤ sizeLine; decide), fun tp ntp => ⟨tp, _, rfl, SqT.of upd_same, rfl, ?_⟩⟩
      have gc := gk.put0 (o := .tup [.ref q1, .ref q2, .ref k]) ntp
      have hk4 := hk.put (o' := .tup [.ref q1, .ref q2, .ref k]) ntp
      have hw4 := hw3.put (o' := .tup [.ref q1, .ref q2, .ref k]) ntp
      clear gk hk hw3
      revert gc hk4 hw4
      generalize upd H4 tp (.tup [.ref q1, .ref q2, .ref k]) = H5
      intro gc hk4 hw4
      have nkw : k ≠ w := ne_of hk4.h hw4.h (by intro z; cases z)
      refine ⟨_, _, rfl, _, rfl, w, _, rfl, DPut.k (k := Sum.inr "arrows") hw4.h (by show 6 < sizeLine; decide), _, _, rfl, _, rfl, w, _, rfl, DPut.k (k := Sum.inr "tests") upd_same (by show 7 < sizeLine; decide), _, _, rfl, rfl, ?_⟩
      rw [wk_arrows, wk_tests]
      refine ⟨q1, q2, da, db, k, ma, mb, o1, o2, o3, o4, o5, o6, none, none, none, none, H03, _, [], [], rfl, ((gc.more (by omega)).setO hw4).setO hw4.set, hw4.set.set, ?_, (hk4.upd nkw).upd nkw, .nil, Many.nil, trivial⟩
      have z := (hd2.snoc da2).snoc db2
      simpa using z
    clear g hw hd ha qa hb qb ma mb as bs da db gt gt0 o1 o2 o3 o4 o5 o6
    rintro σ1 H1 ⟨qa, qb, da, db, k, ma, mb, hL⟩
    refine ⟨LkO p l Hs H t n size top many people x w [v1, v2, v3, v4, v5, .int lg, .ref qa, .ref qb] (ds ++ [.int lg, .tuple da, .tuple db]) a b k 3, ?_, ?_⟩
    · have hL0 := hL
      obtain ⟨o1, o2, o3, o4, o5, o6, o7, o8, o9, o10, H0, t', rs, dr, rfl, _⟩ := hL
      refine ⟨_, rfl, people, rfl, by omega, by omega, for_range (fun i σ H' => LkO p l Hs H t n size top many people x w [v1, v2, v3, v4, v5, .int lg, .ref qa, .ref qb] (ds ++ [.int lg, .tuple da, .tuple db]) a b k i σ H') hL0 ?_ (fun σ H' h => h.more (by omega))⟩
      rintro i σ H2 hi ⟨o1, o2, o3, o4, o5, o6, o7, o8, o9, o10, H0, t', rs, dr, rfl, g, hw, hd, hk, qk, mk, _⟩
      have gt := g.t1
      have gt0 := g.t0
      have hi3 : i < 3 := by omega
      refine ⟨fun σ H' => ∃ r o1 o2 o3 o4 o5 o6 o9 o10, r ≠ k ∧ Lk p l Hs H t n size top many people x w [v1, v2, v3, v4, v5, .int lg, .ref qa, .ref qb] (ds ++ [.int lg, .tuple da, .tuple db]) a b k (140 + 3 * (i : Int)) i [o1, o2, o3, o4, o5, o6, some (.ref k), some (.int (0 + (i : Int))), some (.ref r), o9, o10] (RowX p l H r 0) σ H', ?_, ?_⟩
      · refine ⟨(by show 0 ≤ sizeLine; decide), fun r nr => ?_⟩
        exact ⟨r, o1, o2, o3, o4, o5, o6, o9, o10, (hk.ne nr).symm, H0, t', rs, dr, rfl, g.put0 nr, hw.put nr, hd, hk.put nr, qk, mk, [], [], Own.start g nr, .nil, Many.nil⟩
      clear g hw hd hk qk mk rs dr gt gt0 o1 o2 o3 o4 o5 o6 o7 o8 o9 o10 H0 t'
      rintro σ H2 ⟨r, o1, o2, o3, o4, o5, o6, o9, o10, nrk, hL⟩
      refine ⟨fun σ H' => ∃ o1 o2 o3 o4 o5 o6 o9 o10, Lk p l Hs H t n size top many people x w [v1, v2, v3, v4, v5, .int lg, .ref qa, .ref qb] (ds ++ [.int lg, .tuple da, .tuple db]) a b k (140 + 3 * (i : Int) + 3) i [o1, o2, o3, o4, o5, o6, some (.ref k), some (.int (0 + (i : Int))), some (.ref r), o9, o10] (RowX p l H r 3) σ H', ?_, ?_⟩
      · have hs : ∃ o1 o2 o3 o4 o5 o6 o9 o10, Lk p l Hs H t n size top many people x w [v1, v2, v3, v4, v5, .int lg, .ref qa, .ref qb] (ds ++ [.int lg, .tuple da, .tuple db]) a b k (140 + 3 * (i : Int) + ((0 : Nat) : Int)) i [o1, o2, o3, o4, o5, o6, some (.ref k), some (.int (0 + (i : Int))), some (.ref r), o9, o10] (RowX p l H r 0) σ H2 := by
          obtain ⟨H0, t', rs, dr, rfl, g, rest⟩ := hL
          exact ⟨o1, o2, o3, o4, o5, o6, o9, o10, H0, t', rs, dr, rfl, g.more (by omega), rest⟩
        obtain ⟨H0, t', rs, dr, rfl, _⟩ := hL
        refine ⟨_, rfl, many, rfl, by omega, by omega, for_range (fun j σ H' => ∃ o1 o2 o3 o4 o5 o6 o9 o10, Lk p l Hs H t n size top many people x w [v1, v2, v3, v4, v5, .int lg, .ref qa, .ref qb] (ds ++ [.int lg, .tuple da, .tuple db]) a b k (140 + 3 * (i : Int) + (j : Int)) i [o1, o2, o3, o4, o5, o6, some (.ref k), some (.int (0 + (i : Int))), some (.ref r), o9, o10] (RowX p l H r j) σ H') hs ?_ ?_⟩
        · rintro j σ H3 hj ⟨o1, o2, o3, o4, o5, o6, o9, o10, H0, t2, rs, dr, rfl, g, hw, hd, hk, qk, mk, ys, dy, hr', qr, mr⟩
          have gt := g.t1
          have gt0 := g.t0
          have hj3 : j < 3 := by omega
          refine ⟨fun σ H' => ∃ nv fv dn df, Lk p l Hs H t n size top many people x w [v1, v2, v3, v4, v5, .int lg, .ref qa, .ref qb] (ds ++ [.int lg, .tuple da, .tuple db]) a b k (140 + 3 * (i : Int) + (j : Int)) i [some (.int (0 + (j : Int))), o2, o3, o4, o5, o6, some (.ref k), some (.int (0 + (i : Int))), some (.ref r), some nv, some fv] (fun H0 H' => RowX p l H r j H0 H' ∧ Dq H0 nv dn ∧ Gd 20 1 140 dn ∧ Dq H0 fv df ∧ Gd 20 1 140 df) σ H', ?_, ?_⟩
          · refine ⟨_, rfl, H0, p, l, t2, size, 0, 0, 1, rfl, g.d, by omega, by omega, by omega, by omega, by omega, by omega, fun H4 H4' t4 nv dn g4 hn4 gn => ?_⟩
            refine ⟨_, rfl, _, rfl, _, _, rfl, rfl, _, rfl, H4, p, l, t4, size, _, 3, -2, rfl, g4.d, by omega, by omega, by omega, by omega, by omega, by omega, fun H5 H5' t5 fv df g5 hf5 gf => ?_⟩
            have gx := g4.trans g5
            exact ⟨_, _, rfl, nv, fv, dn, df, H5, t5, rs, dr, rfl, (g.trans gx).more (by omega), hw.go gx, DqAll.same gx.s _ _ hd, hk.go gx, DqAll.same gx.s _ _ qk, mk, ⟨ys, dy, hr'.go gx, DqAll.same gx.s _ _ qr, mr⟩, Dq.same g5.s _ _ hn4, gn.gd (by omega), hf5, gf.gd (by omega)⟩
          clear g hw hd hk qk mk ys dy hr' qr mr gt gt0 rs dr o1 o9 o10
          rintro σ H4 ⟨nv, fv, dn, df, H0, t2, rs, dr, rfl, g, hw, hd, hk, qk, mk, ⟨ys, dy, hr', qr, mr⟩, hn', sn, hf', sf⟩
          have gt := g.t1
          have gt0 := g.t0
          refine ⟨_, rfl, .inl ⟨rfl, _, SqL.of hr'.h⟩, _, rfl, ?_⟩
          refine ⟨(by show 0 ≤ sizeLine; decide), fun e0 ne0 => ?_⟩
          have g0 := (Go.refl g.d).new (o := .tup []) ne0
          have d0 := dq_new (g.d.s.free ne0) (DqAll.nil (H := H0))
          have nn0 := Dq.same (same_new (o := .tup []) (g.d.s.free ne0)) _ _ hn'
          have nf0 := Dq.same (same_new (o := .tup []) (g.d.s.free ne0)) _ _ hf'
          revert g0 d0 nn0 nf0
          generalize upd H4 e0 (.tup []) = K0
          generalize upd H0 e0 (.tup []) = L0
          intro g0 d0 nn0 nf0
          refine ⟨_, rfl, (by show 1 ≤ sizeLine; decide), fun e1 ne1 => ?_⟩
          have g1' := g0.new (o := .tup [nv]) ne1
          have S1 := same_new (o := .tup [nv]) (g0.d.s.free ne1)
          have d1 := dq_new (g0.d.s.free ne1) (DqAll.cons nn0 .nil)
          have d0 := Dq.same S1 _ _ d0
          have nn1 := Dq.same S1 _ _ nn0
          have nf1 := Dq.same S1 _ _ nf0
          clear S1 g0 nn0 nf0
          revert g1' d1 d0 nn1 nf1
          generalize upd K0 e1 (.tup [nv]) = K1
          generalize upd L0 e1 (.tup [nv]) = L1
          intro g1' d1 d0 nn1 nf1
          refine ⟨_, rfl, (by show 1 ≤ sizeLine; decide), fun e2 ne2 => ?_⟩
          have g2' := g1'.new (o := .tup [fv]) ne2
          have S1 := same_new (o := .tup [fv]) (g1'.d.s.free ne2)
          have d2 := dq_new (g1'.d.s.free ne2) (DqAll.cons nf1 .nil)
          have d0 := Dq.same S1 _ _ d0
          have d1 := Dq.same S1 _ _ d1
          have nn2 := Dq.same S1 _ _ nn1
          have nf2 := Dq.same S1 _ _ nf1
          clear S1 g1' nn1 nf1
          revert g2' d2 d0 d1 nn2 nf2
          generalize upd K1 e2 (.tup [fv]) = K2
          generalize upd L1 e2 (.tup [fv]) = L2'
          intro g2' d2 d0 d1 nn2 nf2
          refine ⟨_, rfl, _, rfl, (by show 2 ≤ sizeLine; decide), fun e3 ne3 => ?_⟩
          have g3' := g2'.new (o := .tup [fv, nv]) ne3
          have S1 := same_new (o := .tup [fv, nv]) (g2'.d.s.free ne3)
          have d3 := dq_new (g2'.d.s.free ne3) (DqAll.cons nf2 (.cons nn2 .nil))
          have d0 := Dq.same S1 _ _ d0
          have d1 := Dq.same S1 _ _ d1
          have d2 := Dq.same S1 _ _ d2
          clear S1 g2' nn2 nf2
          revert g3' d3 d0 d1 d2
          generalize upd K2 e3 (.tup [fv, nv]) = K3
          generalize upd L2' e3 (.tup [fv, nv]) = L3
          intro g3' d3 d0 d1 d2
          have dd : DqAll L3 [.ref e0, .ref e1, .ref e2, .ref e3] [.tuple [], .tuple [dn], .tuple [df], .tuple [df, dn]] := .cons d0 (.cons d1 (.cons d2 (.cons d3 .nil)))
          have md : ∀ d ∈ [PyData.tuple [], .tuple [dn], .tuple [df], .tuple [df, dn]], Gd 20 2 300 d := by
            have z0 : Gd 20 2 300 (.tuple []) := (Many.more (m := 1) (Many.nil (w := 20) (p := 1) (W := 140)) (by decide)).tup.mono (by decide) (by decide) (by decide)
            have z1 : Gd 20 2 300 (.tuple [dn]) := (Many.cons sn Many.nil).tup.mono (by decide) (by decide) (by decide)
            have z2 : Gd 20 2 300 (.tuple [df]) := (Many.cons sf Many.nil).tup.mono (by decide) (by decide) (by decide)
            have z3 : Gd 20 2 300 (.tuple [df, dn]) := (Many.cons sf (Many.cons sn Many.nil)).tup.mono (by decide) (by decide) (by decide)
            intro d hd
            simp only [List.mem_cons, List.not_mem_nil, or_false] at hd
            rcases hd with rfl | rfl | rfl | rfl
            · exact z0
            · exact z1
            · exact z2
            · exact z3
          refine ⟨(by show 4 ≤ sizeLine; decide), fun e4 ne4 => ?_⟩
          have g4' := g3'.put0 (o := .lst [.ref e0, .ref e1, .ref e2, .ref e3]) ne4
          have w4 := Own.start (o := .lst [.ref e0, .ref e1, .ref e2, .ref e3]) g3' ne4
          clear g3' d0 d1 d2 d3
          revert g4' w4
          generalize upd K3 e4 (.lst [.ref e0, .ref e1, .ref e2, .ref e3]) = K4
          intro g4' w4
          refine ⟨L3, p, l, t2, e4, _, rfl, g4'.d, by omega, by omega, w4.h, w4.ap, w4.al, (by show 0 < 4; decide), (by show 4 < 1000; decide), fun H7 k7 v gv hv => ?_⟩
          obtain ⟨d, hd7, hdv⟩ := DqAll.at dd hv
          have sd := md d (List.mem_of_getElem? hd7)
          have gx := g4'.trans gv
          have hr7 := hr'.go gx
          have nrw : r ≠ w := ne_of hr7.h (hw.go gx).h (by intro z; cases z)
          refine ⟨r, _, _, rfl, rfl, hr7.h, ?_, ?_⟩
          · have := dq_len qr
            have := mr.1
            rw [sizeLine_eq]
            omega
          · exact ⟨_, o2, o3, o4, o5, o6, _, _, L3, _, rs, dr, rfl, ((g.trans gx).more (by omega)).setO hr7, (hw.go gx).upd nrw.symm, DqAll.same gx.s _ _ hd, (hk.go gx).upd nrk.symm, DqAll.same gx.s _ _ qk, mk, _, _, hr7.set, (DqAll.same gx.s _ _ qr).snoc hdv, mr.snoc sd⟩
        · rintro σ H3 ⟨o1, o2, o3, o4, o5, o6, o9, o10, H0, t2, rs, dr, rfl, g, hw, hd, hk, qk, mk, ys, dy, hr', qr, mr⟩
          exact ⟨o1, o2, o3, o4, o5, o6, o9, o10, H0, t2, rs, dr, rfl, g.more (by omega), hw, hd, hk, qk, mk, ys, dy, hr', qr, mr.more (by omega)⟩
      rintro σ H3 ⟨o1, o2, o3, o4, o5, o6, o9, o10, H0, t2, rs, dr, rfl, g, hw, hd, hk, qk, mk, ys, dy, hr', qr, mr⟩
      have gt := g.t1
      have gt0 := g.t0
      refine ⟨_, rfl, .inl ⟨rfl, _, SqL.of hk.h⟩, _, rfl, .inl ⟨r, ys, rfl, SqL.of hr'.h, fun q nq => ?_⟩⟩
      have gq := g.new (o := .tup ys) nq
      have dq := dq_new (g.d.s.free nq) qr
      have hk2 := hk.new (ob := .tup ys) nq
      have hw2 := hw.new (ob := .tup ys) nq
      have S := same_new (o := .tup ys) (g.d.s.free nq)
      have nkw : w ≠ k := ne_of hw.h hk.h (by intro z; cases z)
      refine ⟨k, _, _, rfl, rfl, hk2.h, ?_, ?_⟩
      · have := dq_len qk
        have := mk.1
        rw [sizeLine_eq]
        omega
      · refine ⟨o1, o2, o3, o4, o5, o6, _, _, o9, o10, _, t2, _, _, rfl, (gq.more (by omega)).setO hk2, hw2.upd nkw, DqAll.same S _ _ hd, hk2.set, (DqAll.same S _ _ qk).snoc dq, mk.snoc ?_, trivial⟩
        exact mr.tup.mono (by decide) (by decide) (by decide)
    rintro σ1 H1 ⟨o1, o2, o3, o4, o5, o6, o7, o8, o9, o10, H0, t', rs, dr, rfl, g, hw, hd, hk, qk, mk, _⟩
    have gt := g.t1
    have gt0 := g.t0
    refine ⟨fun σ H' => σ[7]? = some (some (.ref w)) ∧ ∃ H0 t' vs ds', Go p l Hs H t H0 H' t' 200 ∧ Own p l w H H0 H' (.dK (wk vs)) ∧ Nines H0 vs ds', ?_, ?_⟩
    · refine ⟨_, rfl, .inl ⟨k, rs, rfl, SqL.of hk.h, fun q nq => ?_⟩⟩
      have gq := g.new (o := .tup rs) nq
      have dq := dq_new (g.d.s.free nq) qk
      have hw2 := hw.new (ob := .tup rs) nq
      have hd2 := DqAll.same (same_new (o := .tup rs) (g.d.s.free nq)) _ _ hd
      refine ⟨_, rfl, w, _, rfl, DPut.k (k := Sum.inr "looks") hw2.h (by show 8 < sizeLine; decide), ?_⟩
      rw [wk_looks]
      have z := hd2.snoc dq
      refine ⟨rfl, _, _, [v1, v2, v3, v4, v5, .int lg, .ref qa, .ref qb, .ref q], _, (gq.more (by omega)).setO hw2, hw2.set, ⟨by simpa using z, by simp [hn], ?_⟩⟩
      intro d hd
      simp only [List.append_assoc, List.cons_append, List.nil_append, List.mem_append, List.mem_cons, List.not_mem_nil, or_false] at hd
      rcases hd with hd | rfl | rfl | rfl | rfl
      · exact (hm.2 d hd)
      · exact (gd_int (by omega) (by omega)).mono (by decide) (by decide) (by decide)
      · exact ma.tup.mono (by decide) (by decide) (by decide)
      · exact mb.tup.mono (by decide) (by decide) (by decide)
      · exact mk.tup.mono (by decide) (by decide) (by decide)
    rintro σ2 H2 ⟨e7, H0, t', vs, ds', g, hw, hN⟩
    have g2 := g.keepO hw
    exact ⟨_, e7, fin _ _ _ w vs ds' g2 upd_same ⟨DqAll.same (fun b o e => by rw [upd_ne (ne_of_none e hw.n)]; exact e) _ _ hN.1, hN.2⟩⟩
end
end KL
set_option Elab.async false
set_option linter.all false
set_option maxRecDepth 100000
set_option maxHeartbeats 4000000
namespace KL
open PySem L2 PySem.Spec PyProof.Rows HT
theorem rev_bounds (n : Nat) : Builtin.Slice.sliceAdjust none none (-1) (n : Int) = ((n : Int) - 1, -1) := by
  have h : (-1 : Int) < 0 := by decide
  unfold Builtin.Slice.sliceAdjust
  simp only [h, if_true]
theorem rev_count (n : Nat) : Builtin.Slice.slicePlaces ((n : Int) - 1) (-1) (-1) = n := by
  have h : ¬ ((-1 : Int) > 0) := by decide
  unfold Builtin.Slice.slicePlaces
  simp only [h, if_false, Int.neg_neg, Int.ediv_one]
  split <;> omega
theorem rev_pick (xs : Array Value) : ((List.range xs.size).filterMap fun (k : Nat) => xs[((xs.size : Int) - 1 + (k : Int) * (-1)).toNat]?).toArray = xs.toList.reverse.toArray := by
  congr 1
  have e : ∀ (m : Nat), m ≤ xs.size → (List.range m).filterMap (fun (k : Nat) => xs[((xs.size : Int) - 1 + (k : Int) * (-1)).toNat]?) = xs.toList.reverse.take m := by
    intro m
    induction m with
    | zero => intro _; rfl
    | succ m ih =>
      intro hm
      rw [List.range_succ, List.filterMap_append, ih (by omega), List.take_add_one]
      congr 1
      have i1 : ((xs.size : Int) - 1 + ((m : Nat) : Int) * (-1)).toNat = xs.size - 1 - m := by omega
      have i2 : xs.toList.reverse[m]? = xs[xs.size - 1 - m]? := by
        rw [List.getElem?_reverse (by simp; omega)]
        simp
      rw [i2]
      show List.filterMap _ [m] = _
      rw [List.filterMap_cons, i1]
      cases z : xs[xs.size - 1 - m]? <;> rfl
  have := e xs.size (Nat.le_refl _)
  rw [this, List.take_of_length_le (by simp)]
section
variable {prog : Program} {w : World} {A : Around} {E : Value → Shared → Prop} {s : Shared}
theorem tup_rev {t sl : Addr} {items : Array Value} {u : Tok} {Q : Value → Shared → Prop} (ht : IsTup s.heap t items) (hs : s.heap.IsSliceOf sl .none .none (.int (-1) u))
    (h : Q (.ref s.heap.objs.size) { s with heap := s.heap.push { cls := .type "tuple", data := .seq items.toList.reverse.toArray } }) (hz : items.size ≤ sizeLine) : wpAny (model prog w) A (getItem (.ref t) (.ref sl)) Q E s := by
  have ok : sizeOk (.seq items.toList.reverse.toArray) := by
    show items.toList.reverse.toArray.size ≤ sizeLine
    rw [List.size_toArray, List.length_reverse, Array.length_toList]
    exact hz
  obtain ⟨os, h1, h2, h3⟩ := id hs
  have tS : s.TypeIs (.ref sl) "slice" := ⟨os, h1, h2⟩
  unfold getItem
  try with_reducible refine wpAny_holding ?_
  first | refine wpAny_bind (wpAny_pure ?_) | skip
  refine wpAny_bind (wpAny_sequenceKey ht.typeIs (by decide) ?_)
  refine wpAny_bind (wpAny_callSpecial?_slot (name := Str.ofString "__getitem__") ht.typeIs slot_tuple_getitem (wpAny_call_entry slot_tuple_getitem ht.typeIs entry_tuple_getitem ?_ (args_tuple_getitem _ _)))
  refine wpAny_bind (m := Builtin.Tuple.tupleItemsOf (.ref t)) (tupleItemsOf_ ht (wpAny_bind (wpAny_typeOf tS ?_)))
  rw [if_pos (by decide)]
  refine wpAny_bind (m := Builtin.Slice.sliceApplied (.ref sl) (pure (items.size : Int))) ?_
  unfold Builtin.Slice.sliceApplied Builtin.Slice.sliceFields
  refine wpAny_bind (wpAny_bind (wpAny_field h1 h3 (x := Value.none) rfl (wpAny_bind (wpAny_field h1 h3 (x := Value.none) rfl (wpAny_bind (wpAny_field h1 h3 (x := .int (-1) u) rfl (wpAny_pure ?_)))))))
  refine wpAny_bind (slicePart_int ?_)
  show wpAny _ _ (if ((-1 : Int) == 0) = true then _ else _) _ _ s
  rw [if_neg (by decide)]
  refine wpAny_bind (slicePart_none (wpAny_bind (slicePart_none (wpAny_bind (wpAny_pure ?_)))))
  show wpAny _ _ (match Builtin.Slice.sliceAdjust none none (-1) (items.size : Int) with | (a, b) => pure (a, (-1 : Int), Builtin.Slice.slicePlaces a b (-1))) _ _ s
  rw [rev_bounds]
  show wpAny _ _ (pure ((items.size : Int) - 1, (-1 : Int), Builtin.Slice.slicePlaces ((items.size : Int) - 1) (-1) (-1))) _ _ s
  rw [rev_count]
  refine wpAny_pure ?_
  show wpAny _ _ (if (((items.size : Int) - 1 == 0) && ((-1 : Int) == 1) && (items.size == items.size)) = true then _ else _) _ _ s
  rw [if_neg (by simp), rev_pick]
  first
    | exact wpAny_bind (m := Builtin.Tuple.tupleExact _) (wpAny_newObj_type (wpAny_pure ⟨_, rfl, wpAny_pure h⟩) ok)
    | exact wpAny_bind (m := Builtin.Tuple.tupleExact _) (wpAny_newObj_type (wpAny_bind (wpAny_pure (wpAny_pure ⟨_, rfl, wpAny_pure h⟩))) ok)
    | exact wpAny_bind (wpAny_bind (m := Builtin.Tuple.tupleExact _) (wpAny_newObj_type (wpAny_pure (wpAny_pure ⟨_, rfl, wpAny_pure h⟩)) ok))
    | exact wpAny_bind (wpAny_bind (m := Builtin.Tuple.tupleExact _) (wpAny_newObj_type (wpAny_pure ⟨_, rfl, wpAny_pure h⟩) ok))
end
def tRevT (K : PySem.W.Frag) (te : TE) : TE := fun σ H Q => te σ H fun x H1 => ∃ a xs, x = .ref a ∧ SqT K H1 a xs ∧ ∀ p, H1 p = none → Q (.ref p) (upd H1 p (.tup xs.reverse))
section
variable {X : Cx}
theorem pe_revT {e : Expr} {te : TE} {k : Nat} {p1 p2 p3 pos : Pos} (he : PE X e te) : PE X (.Subscript e (.Slice none none (some (.UnaryOp .USub (.Constant (.int 1) k p1) p2)) p3) pos) (tRevT X.K te) := by
  refine ⟨fun pins s σ H Q I h => ?_⟩
  refine Subscript_ (thn (he.run pins s σ H _ I h) fun v s1 ⟨x, H1, I1, r1, a, xs, ex, hx, q⟩ => ?_)
  subst ex
  cases r1
  have st : PO X (some (.UnaryOp .USub (.Constant (.int 1) k p1) p2)) (tPart (tUn (rU fun i => .int (-i)) (tC (.int 1)))) := po_some (pe_un un_neg pe_int)
  refine wpAny_Slice (thn (po_none.run pins s1 σ H1 (fun o H2 => o = none ∧ H2 = H1) I1 ⟨rfl, rfl⟩) fun vl s2 ⟨l, H2, I2, pl, el, e2⟩ => ?_)
  subst el e2
  refine thn (po_none.run pins s2 σ H2 (fun o H3 => o = none ∧ H3 = H2) I2 ⟨rfl, rfl⟩) fun vu s3 ⟨u, H3, I3, pu, eu, e3⟩ => ?_
  subst eu e3
  refine thn (st.run pins s3 σ H3 (fun o H4 => o = some (-1) ∧ H4 = H3) I3 ⟨1, rfl, -1, rfl, rfl, rfl⟩) fun vs s4 ⟨o, H4, I4, ps, eo, e4⟩ => ?_
  subst eo e4
  have I5 : Inv X pins σ H4 { s4 with heap := s4.heap.push ⟨.type "slice", none, .fields #[vl, vu, vs], #[]⟩ } := I4.kept (t' := s4.toks) fun b ob q => Heap.get?_push_of_some _ q
  cases pl
  cases pu
  cases ps with
  | int i tk =>
    obtain ⟨its, r, ht, hz⟩ := I5.tuple hx
    have hl := r.length
    refine tail_any (ops := [.ref a, .ref s4.heap.objs.size]) ht.typeIs (slot_tuple_getitem.lookup) ?_ (by with_unfolding_all rfl)
    refine tup_rev ht (Heap.IsSliceOf.new _ .none .none (.int (-1) tk)) ?_ (by rw [List.size_toArray]; omega)
    refine ⟨.ref _, _, I5.laid (t' := s4.toks) (o := .tup xs.reverse) (fun b ob q => Heap.get?_push_of_some _ q) (Nat.le_refl _) ?_, rfl, q _ (I5.hok.fresh (Nat.le_refl _))⟩
    exact ⟨by rw [List.length_reverse]; exact hz, _, r.reverse, IsTup.new _ _⟩
/-- an int or a bool, and a number -/
def numB : V → Option Int
  | .int i => some i
  | .bl b => some (if b = true then 1 else 0)
  | _ => none
def rNumB (g : Int → Int → Int) : R2 := fun x y H Q => ∃ i j, numB x = some i ∧ y = .int j ∧ Q (.int (g i j)) H
theorem op_addB : OpR X (binaryOp .Add) (rNumB fun i j => i + j) := by
  intro pins s σ H x y v u Q I rx ry h
  obtain ⟨i, j, hx, rfl, q⟩ := h
  cases x with
  | int i' =>
    cases hx
    exact op_add pins s σ H _ _ v u Q I rx ry ⟨_, _, rfl, rfl, q⟩
  | bl b =>
    cases hx
    obtain ⟨t, rfl⟩ := ry
    cases rx
    exact PySem.IntBool.add_bool_int ⟨.int _, H, I.tok _, ⟨_, rfl⟩, q⟩
  | _ => cases hx
theorem op_subB : OpR X (binaryOp .Sub) (rNumB fun i j => i - j) := by
  intro pins s σ H x y v u Q I rx ry h
  obtain ⟨i, j, hx, rfl, q⟩ := h
  cases x with
  | int i' =>
    cases hx
    exact op_sub pins s σ H _ _ v u Q I rx ry ⟨_, _, rfl, rfl, q⟩
  | bl b =>
    cases hx
    obtain ⟨t, rfl⟩ := ry
    cases rx
    exact PySem.IntBool.sub_bool_int ⟨.int _, H, I.tok _, ⟨_, rfl⟩, q⟩
  | _ => cases hx
def rEqB : R2 := fun x y H Q => ∃ i j, numB x = some i ∧ y = .int j ∧ ∀ b, Q (.bl b) H
theorem op_eqB : OpR X (compareOp .Eq) rEqB := by
  intro pins s σ H x y v u Q I rx ry h
  obtain ⟨i, j, hx, rfl, q⟩ := h
  cases x with
  | int i' => exact op_eq pins s σ H _ _ v u Q I rx ry ⟨rfl, q _⟩
  | bl b =>
    obtain ⟨t, rfl⟩ := ry
    cases rx
    exact SeqAt.RcAt.bool_int b j t _ _ _ _ ⟨.bl _, H, I, rfl, q _⟩
  | _ => cases hx
/-- str of an int or a bool -/
def rStrB : List V → Hp → VK → Prop := fun xs H Q => (∃ i, xs = [.int i] ∧ i.natAbs.log2 < 1920 ∧ Q (.str (toString i)) H) ∨ ∃ b, xs = [.bl b] ∧ Q (.str (if b = true then "True" else "False" : String)) H
theorem call_strB : CallR X (.type "str") rStrB := by
  intro pins s σ H xs us Q I r h
  rcases h with ⟨i, rfl, z, q⟩ | ⟨b, rfl, q⟩
  · exact call_str_int pins s σ H _ us Q I r ⟨i, rfl, z, q⟩
  · obtain ⟨u, rfl, e⟩ := vals1 r
    cases (show u = Value.bool b from e)
    refine PySem.P.str_of_bool ⟨.str _, H, I.tok _, ⟨_, rfl⟩, ?_⟩
    cases b <;> exact q
end
end KL
set_option Elab.async false
set_option linter.all false
set_option maxRecDepth 100000
set_option maxHeartbeats 8000000
namespace KL
open PySem L2 PySem.KX PySem.Spec PyProof.Rows
theorem cps_of (s : String) : (Str.ofString s).cps.toList = s.toList.map Char.toNat := by
  rw [Str.ofString_eq_toList]
theorem tx_toString (i : Int) : txS (Str.ofString (toString i)) = true := by
  unfold txS
  have dig : ∀ (m : Nat) (c : Nat), c ∈ (toString m : String).toList.map Char.toNat → c < 128 := by
    intro m c hc
    obtain ⟨ch, h1, rfl⟩ := List.mem_map.mp hc
    have h2 : ch ∈ Nat.toDigits 10 m := by simpa [toString, Nat.repr] using h1
    have h3 := Nat.isDigit_of_mem_toDigits (by decide) (by decide) h2
    simp only [Char.isDigit, Bool.and_eq_true, decide_eq_true_eq] at h3
    have := UInt32.le_iff_toNat_le.mp h3.2
    show ch.val.toNat < 128
    have e : ('9' : Char).val.toNat = 57 := by decide
    omega
  rw [List.all_eq_true]
  intro c hc
  rw [cps_of] at hc
  refine decide_eq_true ?_
  cases i with
  | ofNat m => exact dig m c hc
  | negSucc m =>
    have e : (toString (Int.negSucc m) : String) = "-" ++ toString (m + 1) := rfl
    rw [e, String.toList_append, List.map_append, List.mem_append] at hc
    rcases hc with hc | hc
    · have : c = 45 := by simpa using hc
      omega
    · exact dig (m + 1) c hc
theorem len_toString (i : Int) : (Str.ofString (toString i)).length ≤ i.natAbs.log2 + 2 := by
  have e := int_text_length_le (a := i) (k := i.natAbs.log2 + 1) (Nat.succ_pos _) (Nat.lt_succ_self _)
  rw [PySem.ofString_length]
  exact e
theorem log2_succ {a b : Nat} (h : b ≤ a + 1) : b.log2 ≤ a.log2 + 1 := by
  by_cases z : b = 0
  · subst z
    simp
  · have h1 : b < 2 ^ (a.log2 + 2) := by
      have := Nat.lt_log2_self (n := a)
      rw [Nat.pow_succ]
      omega
    have := (Nat.log2_lt z).mpr h1
    omega
/-- what odd values are like, beside a value of a size -/
abbrev Og (w p W : Nat) (d : PyData) : Prop := Gd (w + 200) (p + 2) (2 * W + 10 * w + 400) d
theorem gd_str2 {x : Str} {n : Nat} (h : txS x = true) (e : x.length ≤ n) : Gd n 0 (10 * n + 2) (.str x) :=
  ⟨e, Nat.zero_le _, by show 10 * x.length + 2 ≤ _; omega, h⟩
theorem og_int {w p W : Nat} {i : Int} (h : i.natAbs.log2 ≤ w + 1) : Og w p W (.int i) :=
  ⟨by show i.natAbs.log2 ≤ _; omega, Nat.zero_le _, by show i.natAbs.log2 + 2 ≤ _; omega, rfl⟩
theorem og_bool {w p W : Nat} (b : Bool) : Og w p W (.bool b) := ⟨Nat.zero_le _, Nat.zero_le _, by show 5 ≤ _; omega, rfl⟩
theorem og_str {w p W : Nat} {x : Str} (h : txS x = true) (e : x.length ≤ w + 5) : Og w p W (.str x) := (gd_str2 h e).mono (by omega) (by omega) (by omega)
theorem og_none {w p W : Nat} : Og w p W .none := ⟨Nat.zero_le _, Nat.zero_le _, by show 4 ≤ _; omega, rfl⟩
theorem tx_app {x y : Str} (h : txS x = true) (k : txS y = true) : txS (x ++ y) = true := by
  unfold txS at *
  have e : (x ++ y).cps.toList = x.cps.toList ++ y.cps.toList := by
    show (x.cps ++ y.cps).toList = _
    simp
  rw [e, List.all_append, h, k]
  rfl
theorem tx_upper {x : Str} (h : txS x = true) : txS (Txt.upper x) = true ∧ (Txt.upper x).length ≤ x.length := by
  have a : ∀ c ∈ x.cps.toList, c < 128 := fun c hc => of_decide_eq_true (List.all_eq_true.mp h c hc)
  rw [upper_ascii a]
  refine ⟨?_, by show (x.cps.map up1).size ≤ x.cps.size; simp⟩
  unfold txS
  rw [List.all_eq_true]
  intro c hc
  rw [Array.toList_map] at hc
  obtain ⟨c0, h0, rfl⟩ := List.mem_map.mp hc
  have := a c0 h0
  refine decide_eq_true ?_
  unfold up1
  split <;> omega
theorem DqAll.app {H : Hp} : ∀ {xs ys : List V} {ds es : List PyData}, DqAll H xs ds → DqAll H ys es → DqAll H (xs ++ ys) (ds ++ es)
  | _, _, _, _, .nil, k => k
  | _, _, _, _, .cons h r, k => .cons h (r.app k)
theorem Many.app {n m w p W : Nat} {ds es : List PyData} (h : Many n w p W ds) (k : Many m w p W es) : Many (n + m) w p W (ds ++ es) := by
  refine ⟨by have := h.1; have := k.1; simp; omega, fun x hx => ?_⟩
  rcases List.mem_append.mp hx with z | z
  · exact h.2 x z
  · exact k.2 x z
theorem Many.rev {n w p W : Nat} {ds : List PyData} (h : Many n w p W ds) : Many n w p W ds.reverse := ⟨by simpa using h.1, fun x hx => h.2 x (by simpa using hx)⟩
theorem DqAll.drop {H : Hp} : ∀ {ds : List PyData} {xs : List V} (n : Nat), DqAll H xs ds → DqAll H (xs.drop n) (ds.drop n)
  | _, _, 0, h => h
  | _, _, n + 1, .nil => .nil
  | _, _, n + 1, .cons _ r => r.drop n
theorem DqAll.rev {H : Hp} : ∀ {ds : List PyData} {xs : List V}, DqAll H xs ds → DqAll H xs.reverse ds.reverse
  | _, _, .nil => .nil
  | _, _, .cons h r => by
    rw [List.reverse_cons, List.reverse_cons]
    exact r.rev.snoc h
theorem wtAll_app : ∀ (ds es : List PyData), wtAll (ds ++ es) = wtAll ds + wtAll es
  | [], _ => by simp [wtAll]
  | d :: r, es => by
    show wt d + 2 + wtAll (r ++ es) = wt d + 2 + wtAll r + wtAll es
    rw [wtAll_app r es]
    omega
theorem wdAll_mem {ds : List PyData} {d : PyData} (h : d ∈ ds) : wd d ≤ wdAll ds := by
  induction ds with
  | nil => cases h
  | cons e r ih =>
    rcases List.mem_cons.mp h with rfl | h
    · exact Nat.le_max_left _ _
    · exact Nat.le_trans (ih h) (Nat.le_max_right _ _)
theorem txAll_mem {ds : List PyData} {d : PyData} (t : txAll ds = true) (h : d ∈ ds) : txD d = true := by
  induction ds with
  | nil => cases h
  | cons e r ih =>
    have t' := Bool.and_eq_true_iff.mp (show (txD e && txAll r) = true from t)
    rcases List.mem_cons.mp h with rfl | h
    · exact t'.1
    · exact ih t'.2 h
theorem wdAll_bound {ds : List PyData} {n : Nat} (h : ∀ d ∈ ds, wd d ≤ n) : wdAll ds ≤ n := by
  induction ds with
  | nil => exact Nat.zero_le _
  | cons e r ih => exact Nat.max_le.mpr ⟨h e (.head _), ih fun d hd => h d (.tail _ hd)⟩
theorem dpAll_bound {ds : List PyData} {n : Nat} (h : ∀ d ∈ ds, d.depth ≤ n) : PyData.depthAll ds ≤ n := by
  induction ds with
  | nil => exact Nat.zero_le _
  | cons e r ih => exact Nat.max_le.mpr ⟨h e (.head _), ih fun d hd => h d (.tail _ hd)⟩
theorem txAll_bound {ds : List PyData} (h : ∀ d ∈ ds, txD d = true) : txAll ds = true := by
  induction ds with
  | nil => rfl
  | cons e r ih =>
    show (txD e && txAll r) = true
    rw [h e (.head _), ih fun d hd => h d (.tail _ hd)]
    rfl
theorem wtAll_cut (n : Nat) (ds : List PyData) : wtAll (ds.take n) + wtAll (ds.drop n) = wtAll ds := by
  rw [← wtAll_app, List.take_append_drop]
theorem wtAll_rev : ∀ (ds : List PyData), wtAll ds.reverse = wtAll ds
  | [] => rfl
  | d :: r => by
    rw [List.reverse_cons, wtAll_app, wtAll_rev r]
    show wtAll r + (wt d + 2 + 0) = wt d + 2 + wtAll r
    omega
/-- a tuple or a list of items that stand in another one -/
theorem gd_items {w p W n m : Nat} {ds es : List PyData} (g : Gd w p W (.tuple ds)) (hl : es.length ≤ n) (hm : ∀ d ∈ es, d ∈ ds) (hw : wtAll es ≤ m) :
    Gd (max w n) p (m + 3) (.tuple es) ∧ Gd (max w n) p (m + 3) (.list es) := by
  have g1 : max ds.length (wdAll ds) ≤ w := g.wd
  have g2 : PyData.depthAll ds + 1 ≤ p := g.dp
  have a1 : wdAll es ≤ w := wdAll_bound fun d hd => Nat.le_trans (wdAll_mem (hm d hd)) (by omega)
  have a2 : PyData.depthAll es + 1 ≤ p := by
    have := dpAll_bound (n := PyData.depthAll ds) fun d (hd : d ∈ es) => depth_mem (hm d hd)
    omega
  have a3 : txAll es = true := txAll_bound fun d hd => txAll_mem g.tx (hm d hd)
  refine ⟨⟨?_, a2, ?_, a3⟩, ⟨?_, a2, ?_, a3⟩⟩
  · show max es.length (wdAll es) ≤ _
    omega
  · show wtAll es + 3 ≤ _
    omega
  · show max es.length (wdAll es) ≤ _
    omega
  · show wtAll es + 2 ≤ _
    omega
/-- the values that stand first in the list of odd ones -/
def odd19 : List PyData := [.none, .bool true, .bool false, .int 0, .int 1, .int 2, .int 3, .int 4, .int (-1), .int (10 ^ 39), .str "", .str "a", .str "ab", .str "A", .tuple [], .tuple [.tuple []], .list [], .dict [], .tuple [.int 0, .int 1]]
theorem odd19_ok {w p W : Nat} : Many 19 (w + 200) (p + 2) (2 * W + 10 * w + 400) odd19 := by
  refine ⟨by decide, fun d hd => ?_⟩
  have z : (odd19.all fun d => decide (wd d ≤ 200) && decide (d.depth ≤ 2) && decide (wt d ≤ 400) && txD d) = true := by decide +kernel
  have y := List.all_eq_true.mp z d hd
  simp only [Bool.and_eq_true, decide_eq_true_eq] at y
  exact ⟨by omega, by omega, by omega, y.2⟩
end KL
set_option Elab.async false
set_option linter.all false
set_option maxRecDepth 100000
set_option maxHeartbeats 8000000
namespace KL
open PySem L2
def spOdd : Sp := fun vs H Q _ => ∃ (H0 : Hp) (p l : Addr) (t : Int) (v : V) (d : PyData) (w pp W : Nat), vs = [.ref p, v] ∧ DeckAt H0 H p l t ∧ 0 ≤ t ∧ t < 1000000 ∧ Dq H0 v d ∧ Gd w pp W d ∧ w ≤ 800 ∧ Gives p l H0 H t 1 (Og w pp W) Q
abbrev nOdd : List Str := ["_law_deck_here", "_law_it", "_law_some"]
/-- the list of odd values so far -/
def MidO (p l : Addr) (Hs Hb : Hp) (t : Int) (v : V) (w pp W m : Nat) (σ : L2.St) (H : Hp) : Prop :=
  ∃ H0 q xs ds, σ = [some (.ref p), some v, some (.ref q)] ∧ Go p l Hs Hb t H0 H t 0 ∧ Own p l q Hb H0 H (.lst xs) ∧ DqAll H0 xs ds ∧ Many m (w + 200) (pp + 2) (2 * W + 10 * w + 400) ds ∧ 0 < ds.length
theorem twice (zs : List V) : (List.replicate (Int.toNat 2) zs).flatten = zs ++ zs := by show zs ++ (zs ++ []) = _; rw [List.append_nil]
theorem MidO.add {p l : Addr} {Hs Hb H0 H : Hp} {t : Int} {v : V} {w pp W m k : Nat} {q b r s : Addr} {xs zs : List V} {ds es : List PyData} (g : Go p l Hs Hb t H0 H t 0) (wq : Own p l q Hb H0 H (.lst xs)) (hd : DqAll H0 xs ds) (hm : Many m (w + 200) (pp + 2) (2 * W + 10 * w + 400) ds) (h0 : 0 < ds.length)
    (nb : H b = none) (he : DqAll H0 zs es) (hk : Many k (w + 200) (pp + 2) (2 * W + 10 * w + 400) es) (nr : upd H b (.lst zs) r = none) (ns : upd (upd H b (.lst zs)) r (.lst (zs ++ zs)) s = none) :
    MidO p l Hs Hb t v w pp W (m + (k + k)) [some (.ref p), some v, some (.ref s)] (upd (upd (upd H b (.lst zs)) r (.lst (zs ++ zs))) s (.lst (xs ++ (zs ++ zs)))) := by
  have g1 := (g.put0 (o := .lst zs) nb).put0 (o := .lst (zs ++ zs)) nr
  refine ⟨H0, s, _, ds ++ (es ++ es), rfl, g1.put0 ns, Own.start g1 ns, hd.app (he.app he), hm.app (hk.app hk), ?_⟩
  rw [List.length_append]
  omega
theorem cut_dq {H : Hp} {ys : List V} {ds : List PyData} (a b : Nat) (h : DqAll H ys ds) : DqAll H ((ys.drop a).take b) ((ds.drop a).take b) := (h.drop a).take b
theorem slA_go {K : PySem.W.Frag} {p l a : Addr} {H0 H : Hp} {t : Int} {ys : List V} {ds : List PyData} {lo hi : Option Int} {R : VK} (D : DeckAt H0 H p l t) (ha : H0 a = some (.tup ys)) (hq : DqAll H0 ys ds)
    (h : ∀ H0' H' v' xs' a', Go p l H0 H t H0' H' t 0 → v' = .ref a' → H0' a' = some (.tup xs') → DqAll H0' xs' ((ds.drop (HT.sIx ds.length 0 lo)).take (HT.sIx ds.length ds.length hi - HT.sIx ds.length 0 lo)) → R v' H') : rSlA K (.ref a) lo hi H R := by
  have e := dq_len hq
  have q := cut_dq (HT.sIx ds.length 0 lo) (HT.sIx ds.length ds.length hi - HT.sIx ds.length 0 lo) hq
  refine ⟨a, ys, rfl, SqT.of (D.s _ _ ha), fun z => ?_, fun _ r nr => ?_⟩
  · rw [e] at z
    rw [z.1, z.2, Nat.sub_zero, List.drop_zero, List.drop_zero, ← e, List.take_of_length_le (Nat.le_refl _), e, List.take_of_length_le (Nat.le_refl _)] at q
    refine h H0 H _ ys a (Go.refl D) rfl ha ?_
    rw [z.1, z.2, Nat.sub_zero, List.drop_zero, List.take_of_length_le (Nat.le_refl _)]
    exact q
  · refine h _ _ _ _ r ((Go.refl D).new nr) rfl upd_same ?_
    rw [← e] at q ⊢
    rw [e]
    rw [e] at q
    have q2 := DqAll.same (same_new (o := .tup (cutV ys lo hi)) (D.s.free nr)) _ _ q
    unfold cutV at q2 ⊢
    rw [e] at q2 ⊢
    exact q2
theorem catA_go {K : PySem.W.Frag} {p l a b : Addr} {H0 H : Hp} {t : Int} {xs ys : List V} {ds es : List PyData} {R : VK} (D : DeckAt H0 H p l t) (ha : H0 a = some (.tup xs)) (hb : H0 b = some (.tup ys)) (qa : DqAll H0 xs ds) (qb : DqAll H0 ys es) (hz : xs.length + ys.length ≤ sizeLine)
    (h : ∀ H0' H' v', Go p l H0 H t H0' H' t 0 → Dq H0' v' (.tuple (ds ++ es)) → R v' H') : rCatA K (.ref a) (.ref b) H R := by
  refine ⟨a, b, xs, ys, rfl, rfl, SqT.of (D.s _ _ ha), SqT.of (D.s _ _ hb), hz, fun z => ?_, fun _ z => ?_, fun _ _ r nr => ?_⟩
  · subst z
    cases qa
    exact h _ _ _ (Go.refl D) (.tup hb qb)
  · subst z
    cases qb
    rw [List.append_nil] at h
    exact h _ _ _ (Go.refl D) (.tup ha qa)
  · exact h _ _ _ ((Go.refl D).new nr) (dq_new (D.s.free nr) (qa.app qb))
section
variable {P : Program} {w : World} {K : PySem.W.Frag} {mg : Str → Option Value} {base : Heap}
theorem scOdd : FnScope nOdd ["_law_deck_here", "_law_it"] (defScope lOdd) := ⟨rfl, rfl, rfl, by decide +kernel, rfl, by decide +kernel, by decide +kernel⟩
theorem ok_odd {f g : Addr} {fd gd : FuncData} (F : Fun K "_law_odd" "_law_odd" lOdd f fd) (T : TxtL mg) (G : FnOk P w K mg base CX0 2 g gd ["_law_deck_here", "_law_some"] spPick) (c : Cal K mg "_law_pick" g gd ["_law_deck_here", "_law_some"]) :
    FnOk P w K mg base CX0 3 f fd ["_law_deck_here", "_law_it"] spOdd := by
  refine F.ok scOdd (fun vs H Q E h => ?_) (fun cdv A outer s H vs Q E hr h => ?_)
  · obtain ⟨H0, p, l, t, v, d, w, pp, W, rfl, _⟩ := h
    rfl
  · obtain ⟨Hs, p, l, t, v, d, w, pp, W, rfl, D, t0, t1, hv, hg, hw, k⟩ := h
    have nd := scOdd.nd

    refine ⟨_, C8.pss_cut (ps_set (i := 2) nd rfl (.inl rfl) (pe_lst (pa_cons pe_non (pa_cons pe_bl (pa_cons pe_bl (pa_cons pe_int (pa_cons pe_int (pa_cons pe_int (pa_cons pe_int (pa_cons pe_int (pa_cons (pe_un un_neg pe_int) (pa_cons (pe_op op_pow pe_int pe_int) (pa_cons pe_str (pa_cons pe_str (pa_cons pe_str (pa_cons pe_str (pa_cons (pe_tup pa_nil) (pa_cons (pe_tup (pa_cons (pe_tup pa_nil) pa_nil)) (pa_cons (pe_lst pa_nil) (pa_cons pe_dnewK (pa_cons (pe_tup (pa_cons pe_int (pa_cons pe_int pa_nil))) pa_nil)))))))))))))))))))))
      (C8.pss_cut (ps_if (pt_val (pe_callB call_isD (by rfl) T.b.isi (by decide +kernel) (pa_cons (pv 1) (pa_cons (pe_bltn (v := .ty "int") (by rfl) T.b.int (by decide +kernel) rfl) pa_nil)))) (pss_one (ps_set (i := 2) nd rfl (.inl rfl) (pe_op op_cat (pv 2) (pe_op op_rep (pe_lst (pa_cons (pe_op op_addB (pv 1) pe_int) (pa_cons (pe_op op_subB (pv 1) pe_int) (pa_cons (pe_cmpR op_eqB (pv 1) pe_int (nomark _)) (pa_cons (pe_callTy call_strB (by rfl) T.b.str (by decide +kernel) (pa_cons (pv 1) pa_nil)) pa_nil))))) pe_int)))) pss_nil)
      (C8.pss_cut (ps_if (pt_val (pe_callB call_isD (by rfl) T.b.isi (by decide +kernel) (pa_cons (pv 1) (pa_cons (pe_bltn (v := .ty "tuple") (by rfl) T.b.tuple (by decide +kernel) rfl) pa_nil)))) (pss_one (ps_set (i := 2) nd rfl (.inl rfl) (pe_op op_cat (pv 2) (pe_op op_rep (pe_lst (pa_cons (pe_callTy call_list_of (by rfl) T.list (by decide +kernel) (pa_cons (pv 1) pa_nil)) (pa_cons (pe_slice sl_tupA (pv 1) (po_some pe_int) po_none) (pa_cons (pe_slice sl_tupA (pv 1) po_none (po_some (pe_un un_neg pe_int))) (pa_cons (pe_op op_catA (pv 1) (pe_slice sl_tupA (pv 1) po_none (po_some pe_int))) (pa_cons (pe_revT (pv 1)) pa_nil)))))) pe_int)))) pss_nil)
      (C8.pss_cut (ps_if (pt_val (pe_callB call_isD (by rfl) T.b.isi (by decide +kernel) (pa_cons (pv 1) (pa_cons (pe_bltn (v := .ty "str") (by rfl) T.b.str (by decide +kernel) rfl) pa_nil)))) (pss_one (ps_set (i := 2) nd rfl (.inl rfl) (pe_op op_cat (pv 2) (pe_op op_rep (pe_lst (pa_cons (pe_op op_add_str (pv 1) pe_str) (pa_cons (pe_bm0 PySem.F.plainAttrs_str PySem.F.slot_str_upper PySem.F.type_str_upper mt_upper (pv 1)) (pa_cons (pe_tup (pa_cons (pv 1) pa_nil)) (pa_cons pe_str pa_nil))))) pe_int)))) pss_nil)
      (pss_one (ps_ret (pe_call G hr rfl c.m c.k c.b .nil pass0 (pa_cons (pv 0) (pa_cons (pv 2) pa_nil)))))))), ?_⟩
    refine ⟨MidO p l Hs H t v w pp W 19, ?_, ?_⟩
    · refine ⟨_, rfl, _, _, rfl, rfl, ⟨by decide, by decide, by decide⟩, ?_⟩
      have g := Go.refl D
      refine ⟨(by show 0 ≤ sizeLine; decide), fun e0 n0 => ?_⟩
      have g0 := g.new (o := .tup []) n0
      have d0 := dq_new (g.d.s.free n0) (DqAll.nil (H := Hs))
      revert g0 d0
      generalize upd H e0 (.tup []) = A0
      generalize upd Hs e0 (.tup []) = B0
      intro g0 d0
      refine ⟨(by show 0 ≤ sizeLine; decide), fun e1 n1 => ?_⟩
      have g1 := g0.new (o := .tup []) n1
      have d1 := dq_new (g0.d.s.free n1) (DqAll.nil (H := B0))
      have d0 := Dq.same (same_new (o := .tup []) (g0.d.s.free n1)) _ _ d0
      revert g1 d1 d0
      generalize upd A0 e1 (.tup []) = A1
      generalize upd B0 e1 (.tup []) = B1
      intro g1 d1 d0
      refine ⟨(by show 1 ≤ sizeLine; decide), fun e2 n2 => ?_⟩
      have g2 := g1.new (o := .tup [.ref e1]) n2
      have d2 := dq_new (g1.d.s.free n2) (DqAll.cons d1 .nil)
      have d0 := Dq.same (same_new (o := .tup [.ref e1]) (g1.d.s.free n2)) _ _ d0
      revert g2 d2 d0
      generalize upd A1 e2 (.tup [.ref e1]) = A2
      generalize upd B1 e2 (.tup [.ref e1]) = B2
      intro g2 d2 d0
      refine ⟨(by show 0 ≤ sizeLine; decide), fun e3 n3 => ?_⟩
      have g3 := g2.new (o := .lst []) n3
      have d3 : Dq (upd B2 e3 (.lst [])) (.ref e3) (.list []) := .lst upd_same .nil
      have S := same_new (o := .lst []) (g2.d.s.free n3)
      have d0 := Dq.same S _ _ d0
      have d2 := Dq.same S _ _ d2
      clear S
      revert g3 d3 d0 d2
      generalize upd A2 e3 (.lst []) = A3
      generalize upd B2 e3 (.lst []) = B3
      intro g3 d3 d0 d2
      intro e4 n4
      have g4 := g3.new (o := .dK []) n4
      have d4 : Dq (upd B3 e4 (.dK [])) (.ref e4) (.dict []) := .dct0 upd_same
      have S := same_new (o := .dK []) (g3.d.s.free n4)
      have d0 := Dq.same S _ _ d0
      have d2 := Dq.same S _ _ d2
      have d3 := Dq.same S _ _ d3
      clear S
      revert g4 d4 d0 d2 d3
      generalize upd A3 e4 (.dK []) = A4
      generalize upd B3 e4 (.dK []) = B4
      intro g4 d4 d0 d2 d3
      refine ⟨(by show 2 ≤ sizeLine; decide), fun e5 n5 => ?_⟩
      have g5 := g4.new (o := .tup [.int 0, .int 1]) n5
      have d5 := dq_new (g4.d.s.free n5) (DqAll.cons (.int 0) (.cons (.int 1) .nil))
      have S := same_new (o := .tup [.int 0, .int 1]) (g4.d.s.free n5)
      have d0 := Dq.same S _ _ d0
      have d2 := Dq.same S _ _ d2
      have d3 := Dq.same S _ _ d3
      have d4 := Dq.same S _ _ d4
      clear S
      revert g5 d5 d0 d2 d3 d4
      generalize upd A4 e5 (.tup [.int 0, .int 1]) = A5
      generalize upd B4 e5 (.tup [.int 0, .int 1]) = B5
      intro g5 d5 d0 d2 d3 d4
      refine ⟨(by show 19 ≤ sizeLine; decide), fun q nq => ?_⟩
      refine ⟨B5, q, _, odd19, rfl, g5.put0 nq, Own.start g5 nq, ?_, odd19_ok, by decide⟩
      exact .cons .non (.cons (.bl _) (.cons (.bl _) (.cons (.int _) (.cons (.int _) (.cons (.int _) (.cons (.int _) (.cons (.int _) (.cons (.int _) (.cons (.int _) (.cons (.str _) (.cons (.str _) (.cons (.str _) (.cons (.str _) (.cons d0 (.cons d2 (.cons d3 (.cons d4 (.cons d5 .nil))))))))))))))))))
    rintro σ1 H1 ⟨H0, q, xs, ds, rfl, g, wq, hd, hm, h0⟩
    have lx := dq_len hd
    have lm := hm.1
    refine ⟨MidO p l Hs H t v w pp W 27, ?_, ?_⟩
    · have hv1 := Dq.same (g.s.trans g.d.s) _ _ hv
      refine ⟨_, rfl, v, d, "int", rfl, by decide, hv1, _, rfl, ?_⟩
      by_cases e : isA "int" d = true
      · refine iteYes e ?_
        cases hv with
        | int i =>
          have hw1 : i.natAbs.log2 ≤ w := hg.wd
          refine ⟨_, rfl, _, rfl, _, _, rfl, rfl, _, rfl, _, _, rfl, rfl, _, rfl, _, _, rfl, rfl, fun b0 => ⟨_, rfl, .inl ⟨i, rfl, by omega, ?_⟩⟩⟩
          refine ⟨(by show 4 ≤ sizeLine; decide), fun b nb => ⟨b, 2, _, rfl, rfl, upd_same, by decide, by decide, (by show 4 * 2 ≤ sizeLine; decide), fun r nr => ⟨q, r, xs, _, rfl, rfl, ?_, upd_same, ?_, fun s ns => ?_⟩⟩⟩
          · have n1 := wq.ne nb
            rw [upd_ne (ne_of_none (by rw [upd_ne n1]; exact wq.h) nr), upd_ne n1]
            exact wq.h
          · rw [twice]
            show xs.length + 8 ≤ sizeLine
            rw [sizeLine_eq]
            omega
          · rw [twice] at ns ⊢
            refine MidO.add (k := 4) g wq hd hm h0 nb (es := [.int (i + 1), .int (i - 1), .bool b0, .str (toString i)]) (.cons (.int _) (.cons (.int _) (.cons (.bl _) (.cons (.str _) .nil)))) ?_ (by simpa [twice] using nr) ns
            refine Many.cons (og_int ?_) (Many.cons (og_int ?_) (Many.cons (og_bool _) (Many.cons (og_str (tx_toString i) ?_) Many.nil)))
            · have := log2_succ (a := i.natAbs) (b := (i + 1).natAbs) (by omega)
              omega
            · have := log2_succ (a := i.natAbs) (b := (i - 1).natAbs) (by omega)
              omega
            · have := len_toString i
              omega
        | bl bb =>
          refine ⟨_, rfl, _, rfl, _, _, rfl, rfl, _, rfl, _, _, rfl, rfl, _, rfl, _, _, rfl, rfl, fun b0 => ⟨_, rfl, .inr ⟨bb, rfl, ?_⟩⟩⟩
          refine ⟨(by show 4 ≤ sizeLine; decide), fun b nb => ⟨b, 2, _, rfl, rfl, upd_same, by decide, by decide, (by show 4 * 2 ≤ sizeLine; decide), fun r nr => ⟨q, r, xs, _, rfl, rfl, ?_, upd_same, ?_, fun s ns => ?_⟩⟩⟩
          · have n1 := wq.ne nb
            rw [upd_ne (ne_of_none (by rw [upd_ne n1]; exact wq.h) nr), upd_ne n1]
            exact wq.h
          · rw [twice]
            show xs.length + 8 ≤ sizeLine
            rw [sizeLine_eq]
            omega
          · rw [twice] at ns ⊢
            refine MidO.add (k := 4) g wq hd hm h0 nb (es := [.int ((if bb = true then 1 else 0) + 1), .int ((if bb = true then 1 else 0) - 1), .bool b0, .str (if bb = true then "True" else "False" : String)]) (.cons (.int _) (.cons (.int _) (.cons (.bl _) (.cons (.str _) .nil)))) ?_ (by simpa [twice] using nr) ns
            refine Many.cons (og_int ?_) (Many.cons (og_int ?_) (Many.cons (og_bool _) (Many.cons (og_str ?_ ?_) Many.nil)))
            · cases bb
              · exact Nat.le_trans (show Nat.log2 _ ≤ 1 by decide) (by omega)
              · exact Nat.le_trans (show Nat.log2 _ ≤ 1 by decide) (by omega)
            · cases bb
              · exact Nat.le_trans (show Nat.log2 _ ≤ 0 by decide) (by omega)
              · exact Nat.le_trans (show Nat.log2 _ ≤ 0 by decide) (by omega)
            · cases bb <;> decide +kernel
            · refine Nat.le_trans (m := 5) ?_ (by omega)
              cases bb <;> decide +kernel
        | non => exact absurd (show (kitB "NoneType" "int").getD false = true from e) (by decide)
        | str _ => exact absurd (show (kitB "str" "int").getD false = true from e) (by decide)
        | lst _ _ => exact absurd (show (kitB "list" "int").getD false = true from e) (by decide)
        | tup _ _ => exact absurd (show (kitB "tuple" "int").getD false = true from e) (by decide)
        | dct0 _ => exact absurd (show (kitB "dict" "int").getD false = true from e) (by decide)
        | dct1 _ => exact absurd (show (kitB "dict" "int").getD false = true from e) (by decide)
      · refine iteNo (by simpa using e) ?_
        exact ⟨H0, q, xs, ds, rfl, g, wq, hd, hm.more (by decide), h0⟩
    clear g wq hd hm h0 lx lm xs ds q
    rintro σ1 H1 ⟨H0, q, xs, ds, rfl, g, wq, hd, hm, h0⟩
    have lx := dq_len hd
    have lm := hm.1
    refine ⟨MidO p l Hs H t v w pp W 37, ?_, ?_⟩
    · have hv0 := Dq.same g.s _ _ hv
      have hv1 := Dq.same g.d.s _ _ hv0
      refine ⟨_, rfl, v, d, "tuple", rfl, by decide, hv1, _, rfl, ?_⟩
      by_cases e : isA "tuple" d = true
      · refine iteYes e ?_
        cases hv0 with
        | tup ha qa =>
          rename_i a ys es
          have gw : max es.length (wdAll es) ≤ w := hg.wd
          have gt : wtAll es + 3 ≤ W := hg.wt
          have le := dq_len qa
          refine ⟨_, rfl, _, rfl, a, ys, rfl, .inr (SqT.of (g.d.s _ _ ha)), fun e1 ne1 => ?_⟩
          have k1 := (Go.refl g.d).new (o := .lst ys) ne1
          have d1 : Dq (upd H0 e1 (.lst ys)) (.ref e1) (.list es) := .lst upd_same (DqAll.same (same_new (g.d.s.free ne1)) _ _ qa)
          revert k1 d1
          generalize upd H1 e1 (.lst ys) = A1
          generalize upd H0 e1 (.lst ys) = B1
          intro k1 d1
          have ha1 := k1.s _ _ ha
          have qa1 := DqAll.same k1.s _ _ qa
          refine ⟨_, rfl, _, rfl, ?_⟩
          dsimp only [tNoPart, tPart]
          refine slA_go k1.d ha1 qa1 fun B2 A2 v2 z2 a2 k2 e2 f2 d2 => ?_
          subst e2
          have ha2 := k2.s _ _ ha1
          have qa2 := DqAll.same k2.s _ _ qa1
          refine ⟨_, rfl, _, rfl, _, rfl, ?_⟩
          dsimp only [tNoPart, tPart]
          refine slA_go k2.d ha2 qa2 fun B3 A3 v3 z3 a3 k3 e3 f3 d3 => ?_
          subst e3
          have ha3 := k3.s _ _ ha2
          have qa3 := DqAll.same k3.s _ _ qa2
          refine ⟨_, rfl, _, rfl, _, rfl, ?_⟩
          dsimp only [tNoPart, tPart]
          refine slA_go k3.d ha3 qa3 fun B4 A4 v4 z4 a4 k4 e4 f4 d4 => ?_
          subst e4
          have ha4 := k4.s _ _ ha3
          have qa4 := DqAll.same k4.s _ _ qa3
          have l4 := dq_len d4
          rw [List.length_take, List.length_drop] at l4
          refine catA_go k4.d ha4 f4 qa4 d4 (by rw [sizeLine_eq]; omega) fun B5 A5 v5 k5 d5 => ?_
          have ha5 := k5.s _ _ ha4
          have qa5 := DqAll.same k5.s _ _ qa4
          refine ⟨_, rfl, a, ys, rfl, SqT.of (k5.d.s _ _ ha5), fun e6 ne6 => ?_⟩
          have k6 := (Go.refl k5.d).new (o := .tup ys.reverse) ne6
          have d6 : Dq (upd B5 e6 (.tup ys.reverse)) (.ref e6) (.tuple es.reverse) := dq_new (k5.d.s.free ne6) qa5.rev
          revert k6 d6
          generalize upd A5 e6 (.tup ys.reverse) = A6
          generalize upd B5 e6 (.tup ys.reverse) = B6
          intro k6 d6
          have kk := ((((k1.trans k2).trans k3).trans k4).trans k5).trans k6
          have gN := (g.trans kk).more (n' := 0) (by omega)
          have wqN := wq.go kk
          have hdN := DqAll.same kk.s _ _ hd
          have e1' := Dq.same (k2.s.trans (k3.s.trans (k4.s.trans (k5.s.trans k6.s)))) _ _ d1
          have e2' := Dq.same (k3.s.trans (k4.s.trans (k5.s.trans k6.s))) _ _ (Dq.tup f2 d2)
          have e3' := Dq.same (k4.s.trans (k5.s.trans k6.s)) _ _ (Dq.tup f3 d3)
          have e5' := Dq.same k6.s _ _ d5
          have c1 := wtAll_cut 1 es
          have sub : ∀ (a b : Nat), ∀ x ∈ (es.drop a).take b, x ∈ es := fun a b x hx => List.mem_of_mem_drop (List.mem_of_mem_take hx)
          have low : ∀ (a b : Nat), wtAll ((es.drop a).take b) ≤ W := fun a b => by
            have h1 := wtAll_cut b (es.drop a)
            have h2 := wtAll_cut a es
            omega
          have lel : ∀ (a b : Nat), ((es.drop a).take b).length ≤ w := fun a b => by
            rw [List.length_take, List.length_drop]
            omega
          have big : ∀ {x : PyData} {m : Nat}, Gd (max w (w + 200)) pp (m + 3) x → m ≤ 2 * W → Og w pp W x := fun h hm => h.mono (by omega) (by omega) (by omega)
          have s1 := big (gd_items hg (es := es) (n := w + 200) (m := W) (by omega) (fun _ h => h) (by omega)).2 (by omega)
          have s2 := fun a b => big (gd_items hg (es := (es.drop a).take b) (n := w + 200) (m := W) (Nat.le_trans (lel a b) (by omega)) (sub a b) (low a b)).1 (by omega)
          have s5 : ∀ a b, b ≤ 1 → Og w pp W (.tuple (es ++ (es.drop a).take b)) := fun a b hb => by
            refine big (gd_items hg (n := w + 200) (m := 2 * W) ?_ ?_ ?_).1 (by omega)
            · rw [List.length_append, List.length_take]
              omega
            · intro x hx
              rcases List.mem_append.mp hx with z | z
              · exact z
              · exact sub _ _ x z
            · rw [wtAll_app]
              have := low a b
              omega
          have s6 := big (gd_items hg (es := es.reverse) (n := w + 200) (m := W) (by rw [List.length_reverse]; omega) (fun _ h => List.mem_reverse.mp h) (by rw [wtAll_rev]; omega)).1 (by omega)
          refine ⟨(by show 5 ≤ sizeLine; decide), fun b nb => ⟨b, 2, _, rfl, rfl, upd_same, by decide, by decide, (by show 5 * 2 ≤ sizeLine; decide), fun r nr => ⟨q, r, xs, _, rfl, rfl, ?_, upd_same, ?_, fun s ns => ?_⟩⟩⟩
          · have n1 := wqN.ne nb
            rw [upd_ne (ne_of_none (by rw [upd_ne n1]; exact wqN.h) nr), upd_ne n1]
            exact wqN.h
          · rw [twice]
            show xs.length + 10 ≤ sizeLine
            rw [sizeLine_eq]
            omega
          · rw [twice] at ns ⊢
            refine MidO.add (k := 5) gN wqN hdN hm h0 nb (es := _) (.cons e1' (.cons e2' (.cons e3' (.cons e5' (.cons d6 .nil))))) ?_ (by simpa [twice] using nr) ns
            exact Many.cons s1 (Many.cons (s2 _ _) (Many.cons (s2 _ _) (Many.cons (s5 _ _ (by have : HT.sIx es.length es.length (some 1) ≤ 1 := Nat.min_le_left _ _; omega)) (Many.cons s6 Many.nil))))
        | non => exact absurd (show (kitB "NoneType" "tuple").getD false = true from e) (by decide)
        | bl _ => exact absurd (show (kitB "bool" "tuple").getD false = true from e) (by decide)
        | int _ => exact absurd (show (kitB "int" "tuple").getD false = true from e) (by decide)
        | str _ => exact absurd (show (kitB "str" "tuple").getD false = true from e) (by decide)
        | lst _ _ => exact absurd (show (kitB "list" "tuple").getD false = true from e) (by decide)
        | dct0 _ => exact absurd (show (kitB "dict" "tuple").getD false = true from e) (by decide)
        | dct1 _ => exact absurd (show (kitB "dict" "tuple").getD false = true from e) (by decide)
      · refine iteNo (by simpa using e) ?_
        exact ⟨H0, q, xs, ds, rfl, g, wq, hd, hm.more (by decide), h0⟩
    clear g wq hd hm h0 lx lm xs ds q
    rintro σ1 H1 ⟨H0, q, xs, ds, rfl, g, wq, hd, hm, h0⟩
    have lx := dq_len hd
    have lm := hm.1
    refine ⟨MidO p l Hs H t v w pp W 45, ?_, ?_⟩
    · have hv0 := Dq.same g.s _ _ hv
      have hv1 := Dq.same g.d.s _ _ hv0
      refine ⟨_, rfl, v, d, "str", rfl, by decide, hv1, _, rfl, ?_⟩
      by_cases e : isA "str" d = true
      · refine iteYes e ?_
        cases hv0 with
        | str x =>
          have gw : x.length ≤ w := hg.wd
          have gx : txS x = true := hg.tx
          obtain ⟨u1, u2⟩ := tx_upper gx
          refine ⟨_, rfl, _, rfl, x, "a", rfl, rfl, ?_, _, rfl, rfl, x, rfl, rfl, by omega, _, rfl, (by show 1 ≤ sizeLine; decide), fun e1 ne1 => ?_⟩
          · have : ("a" : Str).length = 1 := by decide +kernel
            rw [sizeLine_eq]
            omega
          have kk := (Go.refl g.d).new (o := .tup [.str x]) ne1
          have d1 := dq_new (g.d.s.free ne1) (DqAll.cons (.str x) .nil)
          revert kk d1
          generalize upd H1 e1 (.tup [.str x]) = A1
          generalize upd H0 e1 (.tup [.str x]) = B1
          intro kk d1
          have gN := (g.trans kk).more (n' := 0) (by omega)
          have wqN := wq.go kk
          have hdN := DqAll.same kk.s _ _ hd
          have la : (x ++ ("a" : Str)).length = x.length + 1 := by
            rw [strLen_append]
            rfl
          have s1 : Og w pp W (.str (x ++ ("a" : Str))) := og_str (tx_app gx (by decide +kernel)) (by omega)
          have s2 : Og w pp W (.str (Txt.upper x)) := og_str u1 (by omega)
          have s3 : Og w pp W (.tuple [.str x]) := ⟨by show max 1 (max x.length 0) ≤ _; omega, by show max 0 0 + 1 ≤ _; omega, by show (10 * x.length + 2) + 2 + 0 + 3 ≤ _; omega, by show (txS x && true) = true; rw [gx]; rfl⟩
          have s4 : Og w pp W (.str "b") := og_str (by decide +kernel) (Nat.le_trans (show ("b" : Str).length ≤ 1 by decide +kernel) (by omega))
          refine ⟨(by show 4 ≤ sizeLine; decide), fun b nb => ⟨b, 2, _, rfl, rfl, upd_same, by decide, by decide, (by show 4 * 2 ≤ sizeLine; decide), fun r nr => ⟨q, r, xs, _, rfl, rfl, ?_, upd_same, ?_, fun s ns => ?_⟩⟩⟩
          · have n1 := wqN.ne nb
            rw [upd_ne (ne_of_none (by rw [upd_ne n1]; exact wqN.h) nr), upd_ne n1]
            exact wqN.h
          · rw [twice]
            show xs.length + 8 ≤ sizeLine
            rw [sizeLine_eq]
            omega
          · rw [twice] at ns ⊢
            refine MidO.add (k := 4) gN wqN hdN hm h0 nb (es := [.str (x ++ ("a" : Str)), .str (Txt.upper x), .tuple [.str x], .str "b"]) (.cons (.str _) (.cons (.str _) (.cons d1 (.cons (.str _) .nil)))) ?_ (by simpa [twice] using nr) ns
            exact Many.cons s1 (Many.cons s2 (Many.cons s3 (Many.cons s4 Many.nil)))
        | non => exact absurd (show (kitB "NoneType" "str").getD false = true from e) (by decide)
        | bl _ => exact absurd (show (kitB "bool" "str").getD false = true from e) (by decide)
        | int _ => exact absurd (show (kitB "int" "str").getD false = true from e) (by decide)
        | lst _ _ => exact absurd (show (kitB "list" "str").getD false = true from e) (by decide)
        | tup _ _ => exact absurd (show (kitB "tuple" "str").getD false = true from e) (by decide)
        | dct0 _ => exact absurd (show (kitB "dict" "str").getD false = true from e) (by decide)
        | dct1 _ => exact absurd (show (kitB "dict" "str").getD false = true from e) (by decide)
      · refine iteNo (by simpa using e) ?_
        exact ⟨H0, q, xs, ds, rfl, g, wq, hd, hm.more (by decide), h0⟩
    clear g wq hd hm h0 lx lm xs ds q
    rintro σ1 H1 ⟨H0, q, xs, ds, rfl, g, wq, hd, hm, h0⟩
    have lx := dq_len hd
    have lm := hm.1
    have gt := g.t1
    have gt0 := g.t0
    refine ⟨_, rfl, _, rfl, H0, p, l, t, q, xs, rfl, ?_⟩
    refine ⟨?_, t0, by omega, wq.h, wq.ap, wq.al, by omega, by omega, fun H7 i u gv hu7 => ?_⟩
    · have : (t : Int) = t := rfl
      exact g.d
    · obtain ⟨d7, h7, q7⟩ := DqAll.at hd hu7
      exact k _ _ _ _ _ ((g.trans gv).more (by omega)) q7 (hm.2 d7 (List.mem_of_getElem? h7))
end
end KL
set_option Elab.async false
set_option linter.all false
set_option maxRecDepth 100000
set_option maxHeartbeats 8000000
namespace KL
open PySem L2 PySem.KX PySem.Spec PyProof.Rows
def rNilT (K : PySem.W.Frag) : R2 := fun x y H Q => ∃ a b xs, x = .ref a ∧ y = .ref b ∧ SqT K H a xs ∧ SqT K H b [] ∧ Q (.bl xs.isEmpty) H
theorem op_eqNilT {X : Cx} (hu : X.A.units + 64 < cLine) : OpR X (compareOp .Eq) (rNilT X.K) := by
  intro pins s σ H x y v u Q I rx ry h
  obtain ⟨a, b, xs, rfl, rfl, ha, hb, q⟩ := h
  cases (show v = Value.ref a from rx)
  cases (show u = Value.ref b from ry)
  obtain ⟨its, r, ⟨o, ho, hc, n, hd⟩, _⟩ := I.tuple ha
  obtain ⟨it2, r2, ⟨o2, ho2, hc2, n2, hd2⟩, _⟩ := I.tuple hb
  cases r2
  refine SeqAt.RcAt.tuples (e := fun _ => true) ⟨o, ho, hc, n, hd⟩ ⟨o2, ho2, hc2, n2, hd2⟩ (by omega) (fun j h1 h2 => absurd h2 (Nat.not_lt_zero _)) _ _ _ _ ⟨.bl xs.isEmpty, H, I, ?_, q⟩
  cases r with
  | nil => rfl
  | cons _ _ => rfl
/-! ### pieces of data -/
abbrev pc (es : List PyData) (lo hi : Option Int) : List PyData := (es.drop (HT.sIx es.length 0 lo)).take (HT.sIx es.length es.length hi - HT.sIx es.length 0 lo)
theorem pc_take (es : List PyData) (k : Nat) : pc es none (some (k : Int)) = es.take k := by
  show (es.drop 0).take (HT.sIx es.length es.length (some (k : Int)) - 0) = _
  rw [HT.sIx_nat, Nat.sub_zero, List.drop_zero]
  by_cases h : k ≤ es.length
  · rw [Nat.min_eq_left h]
  · rw [Nat.min_eq_right (by omega), List.take_of_length_le (Nat.le_refl _), List.take_of_length_le (by omega)]
theorem pc_drop (es : List PyData) (k : Nat) : pc es (some (k : Int)) none = es.drop k := by
  show (es.drop (HT.sIx es.length 0 (some (k : Int)))).take (es.length - HT.sIx es.length 0 (some (k : Int))) = _
  rw [HT.sIx_nat]
  by_cases h : k ≤ es.length
  · rw [Nat.min_eq_left h, List.take_of_length_le (by rw [List.length_drop]; omega)]
  · rw [Nat.min_eq_right (by omega), Nat.sub_self, List.drop_eq_nil_of_le (by omega : es.length ≤ k)]
    rfl
theorem pc_mid (es : List PyData) (k m : Nat) (h : k ≤ es.length) : pc es (some (k : Int)) (some ((k : Int) + (m : Int))) = (es.drop k).take m := by
  have e : ((k : Int) + (m : Int)) = (((k + m : Nat)) : Int) := by omega
  rw [e]
  show (es.drop (HT.sIx es.length 0 (some (k : Int)))).take (HT.sIx es.length es.length (some ((k + m : Nat) : Int)) - HT.sIx es.length 0 (some (k : Int))) = _
  rw [HT.sIx_nat, HT.sIx_nat, Nat.min_eq_left h]
  by_cases h2 : k + m ≤ es.length
  · rw [Nat.min_eq_left h2]
    congr 1
    omega
  · rw [Nat.min_eq_right (by omega), List.take_of_length_le (by rw [List.length_drop]; omega), List.take_of_length_le (by rw [List.length_drop]; omega)]
theorem wtAll_get {es : List PyData} {i : Nat} {d : PyData} (h : es[i]? = some d) : wtAll es = wtAll (es.take i) + (wt d + 2) + wtAll (es.drop (i + 1)) := by
  obtain ⟨hi, rfl⟩ := List.getElem?_eq_some_iff.mp h
  have h1 := wtAll_cut i es
  have h2 : es.drop i = es[i] :: es.drop (i + 1) := List.drop_eq_getElem_cons hi
  rw [h2] at h1
  have h3 : wtAll (es[i] :: es.drop (i + 1)) = wt es[i] + 2 + wtAll (es.drop (i + 1)) := rfl
  omega
def spBent (n : Nat) : Sp := fun vs H Q _ => ∃ (H0 : Hp) (p l : Addr) (t : Int) (v : V) (d : PyData) (w pp W : Nat), vs = [.ref p, v] ∧ DeckAt H0 H p l t ∧ 0 ≤ t ∧ t + 4 * (n : Int) < 1000000 ∧ Dq H0 v d ∧ Gd w pp W d ∧ w ≤ 800 ∧ pp < n ∧ Gives p l H0 H t (4 * (n : Int)) (Og w pp W) Q
abbrev nBent : List Str := ["_law_deck_here", "_law_it", "_law_at", "_law_way"]
section
variable {P : Program} {w : World} {K : PySem.W.Frag} {mg : Str → Option Value} {base : Heap}
theorem scBent : FnScope nBent ["_law_deck_here", "_law_it"] (defScope lBent) := ⟨rfl, rfl, rfl, by decide +kernel, rfl, by decide +kernel, by decide +kernel⟩
theorem ok_bent1 {f g1 g2 : Addr} {fd gd1 gd2 : FuncData} (F : Fun K "_law_bent" "_law_bent" lBent f fd) (T : TxtL mg) (TD : TxtD mg) (c0 : Cal K mg "_law_bent" f fd ["_law_deck_here", "_law_it"])
    (G1 : FnOk P w K mg base CX0 1 g1 gd1 ["_law_deck_here", "_law_below"] spDraw) (c1 : Cal K mg "_law_draw" g1 gd1 ["_law_deck_here", "_law_below"])
    (G2 : FnOk P w K mg base CX0 3 g2 gd2 ["_law_deck_here", "_law_it"] spOdd) (c2 : Cal K mg "_law_odd" g2 gd2 ["_law_deck_here", "_law_it"])
    {kk n : Nat} (hk : 3 ≤ kk) (G0 : FnOk P w K mg base CX0 kk f fd ["_law_deck_here", "_law_it"] (spBent n)) :
    FnOk P w K mg base CX0 (kk + 1) f fd ["_law_deck_here", "_law_it"] (spBent (n + 1)) := by
  refine F.ok scBent (fun vs H Q E h => ?_) (fun cdv A outer s H vs Q E hr h => ?_)
  · obtain ⟨H0, p, l, t, v, d, w, pp, W, rfl, _⟩ := h
    rfl
  · obtain ⟨Hs, p, l, t, v, d, w, pp, W, rfl, D, t0, t1, hv, hg, hw, hpp, k⟩ := h
    have nd := scBent.nd
    have r1 : Room 1 _ := hr.mono (by omega)
    have r3 : Room 3 _ := hr.mono hk
    have t1' : t + 4 * ((n : Nat) : Int) + 4 < 1000000 := by
      have : ((n + 1 : Nat) : Int) = (n : Int) + 1 := by omega
      omega
    refine ⟨_, pss_cons (ps_if (PW.pt (pw_or (pt_not (pt_val (pe_callB call_isD (by rfl) T.b.isi (by decide +kernel) (pa_cons (pv 1) (pa_cons (pe_bltn (v := .ty "tuple") (by rfl) T.b.tuple (by decide +kernel) rfl) pa_nil))))) (pw_or (pt_cmpR (op_eqNilT hr.units) (pv 1) (pe_tup pa_nil) (nomark _)) (pw_or1 (pt_cmpR op_eq (pe_call G1 r1 rfl c1.m c1.k c1.b .nil pass0 (pa_cons (pv 0) (pa_cons pe_int pa_nil))) pe_int (nomark _))))))
        (pss_one (ps_ret (pe_call G2 r3 rfl c2.m c2.k c2.b .nil pass0 (pa_cons (pv 0) (pa_cons (pv 1) pa_nil))))) pss_nil)
      (C8.pss_cut (ps_par (i := 2) (j := 3) (by rfl) nd rfl rfl (by decide) rfl rfl (pa_cons (pe_call G1 r1 rfl c1.m c1.k c1.b .nil pass0 (pa_cons (pv 0) (pa_cons (pe_callB call_len_seq (by rfl) T.b.len PySem.boot_len (pa_cons (pv 1) pa_nil)) pa_nil))) (pa_cons (pe_call G1 r1 rfl c1.m c1.k c1.b .nil pass0 (pa_cons (pv 0) (pa_cons pe_int pa_nil))) pa_nil)) (by rfl))
      (pss_cons (ps_if (pt_cmpR op_eq (pv 3) pe_int (nomark _)) (pss_one (ps_ret (pe_op op_catA (pe_slice sl_tupA (pv 1) po_none (po_some (pv 2))) (pe_slice sl_tupA (pv 1) (po_some (pe_op op_add (pv 2) pe_int)) po_none)))) pss_nil)
      (pss_cons (ps_if (pt_cmpR op_eq (pv 3) pe_int (nomark _)) (pss_one (ps_ret (pe_op op_catA (pe_slice sl_tupA (pv 1) po_none (po_some (pe_op op_add (pv 2) pe_int))) (pe_slice sl_tupA (pv 1) (po_some (pv 2)) po_none)))) pss_nil)
      (pss_cons (ps_if (pt_cmpR op_eq (pv 3) pe_int (nomark _)) (pss_one (ps_ret (pe_op op_catA (pe_op op_catA (pe_slice sl_tupA (pv 1) po_none (po_some (pv 2))) (pe_revT (pe_slice sl_tupA (pv 1) (po_some (pv 2)) (po_some (pe_op op_add (pv 2) pe_int))))) (pe_slice sl_tupA (pv 1) (po_some (pe_op op_add (pv 2) pe_int)) po_none)))) pss_nil)
      (pss_one (ps_ret (pe_op op_catA (pe_op op_catA (pe_slice sl_tupA (pv 1) po_none (po_some (pv 2))) (pe_tup (pa_cons (pe_call G0 hr rfl c0.m c0.k c0.b .nil pass0 (pa_cons (pv 0) (pa_cons (pe_ix ix_tup (pv 1) (pv 2) (fun _ _ => rfl)) pa_nil))) pa_nil))) (pe_slice sl_tupA (pv 1) (po_some (pe_op op_add (pv 2) pe_int)) po_none)))))))), ?_⟩
    have hvH := Dq.same D.s _ _ hv
    have oddG : ∀ {H0' H' : Hp} {t' : Int}, Go p l Hs H t H0' H' t' 3 → spOdd [.ref p, v] H' Q (fun _ _ _ => False) := fun {H0' H' t'} g => by
      have gt := g.t1
      have gt0 := g.t0
      exact ⟨H0', p, l, t', v, d, w, pp, W, rfl, g.d, by omega, by omega, Dq.same g.s _ _ hv, hg, hw, k.of g (by omega)⟩
    refine ⟨_, rfl, v, d, "tuple", rfl, by decide, hvH, _, rfl, ?_⟩
    by_cases e : isA "tuple" d = true
    · refine iteNo (by rw [e]; rfl) ?_
      cases hv with
      | tup ha qa =>
        rename_i a ys es
        have gw : max es.length (wdAll es) ≤ w := hg.wd
        have gtt : wtAll es + 3 ≤ W := hg.wt
        have gdp : PyData.depthAll es + 1 ≤ pp := hg.dp
        have le := dq_len qa
        have big : ∀ {x : PyData} {m : Nat}, Gd (max w (w + 200)) pp (m + 3) x → m ≤ 2 * W → Og w pp W x := fun h hm => h.mono (by omega) (by omega) (by omega)
        refine ⟨_, rfl, (by show 0 ≤ sizeLine; decide), fun e0 n0 => ⟨a, e0, ys, rfl, rfl, SqT.of ?_, SqT.of upd_same, _, rfl, ?_⟩⟩
        · have := D.s _ _ ha
          rw [upd_ne (ne_of_none this n0)]
          exact this
        have g0 := (Go.refl D).put0 (o := .tup []) n0
        revert g0
        generalize upd H e0 (.tup []) = H1
        intro g0
        by_cases e1 : ys.isEmpty = true
        · refine iteYes e1 ?_
          exact iteYes rfl ⟨_, rfl, _, rfl, oddG (g0.more (by omega))⟩
        refine iteNo (by simpa using e1) ?_
        have hpos : 0 < ys.length := by
          cases ys with
          | nil => exact absurd rfl e1
          | cons _ _ => simp
        refine ⟨_, rfl, Hs, p, l, t, 6, rfl, g0.d, t0, by omega, by omega, by omega, fun H2 r g2 r0 r1' => ⟨rfl, _, rfl, ?_⟩⟩
        have g3 := (g0.trans g2).more (n' := 1) (by omega)
        by_cases e2 : r = 0
        · refine iteYes (by rw [e2]; simp) ?_
          exact ⟨_, rfl, _, rfl, oddG (g3.more (by omega))⟩
        refine iteNo (by simpa using e2) ?_
        refine ⟨fun σ H' => ∃ t' j way, σ = [some (.ref p), some (.ref a), some (.int ((j : Nat) : Int)), some (.int way)] ∧ Go p l Hs H t Hs H' t' 3 ∧ j < es.length, ?_, ?_⟩
        · refine ⟨_, rfl, _, rfl, a, ys, rfl, .inr (SqT.of (g3.d.s _ _ ha)), Hs, p, l, _, _, rfl, g3.d, by omega, by omega, by omega, by omega, fun H3 at' g4 a0 a1 => ?_⟩
          refine ⟨_, rfl, Hs, p, l, _, 8, rfl, g4.d, by omega, by omega, by omega, by omega, fun H4 way g5 w0 w1 => ⟨_, _, rfl, ?_⟩⟩
          obtain ⟨j, rfl⟩ := Int.eq_ofNat_of_zero_le a0
          exact ⟨_, j, way, rfl, ((g3.trans g4).trans g5).more (by omega), by omega⟩
        rintro σ5 H5 ⟨t5, j, way, rfl, g, hj⟩
        have gt := g.t1
        have gt0 := g.t0
        have ha5 := g.s _ _ ha
        have qa5 := DqAll.same g.s _ _ qa
        have c1 := wtAll_cut j es
        have c2 := wtAll_cut (j + 1) es
        have c3 : wtAll (es.drop (j + 1)) ≤ wtAll (es.drop j) := by
          have := wtAll_cut 1 (es.drop j)
          rw [List.drop_drop] at this
          omega
        refine ⟨_, rfl, rfl, _, rfl, ?_⟩
        by_cases w0 : way = 0
        · refine iteYes (by rw [w0]; simp) ?_
          refine ⟨_, rfl, _, rfl, _, rfl, ?_⟩
          dsimp only [tNoPart, tPart]
          refine slA_go g.d ha5 qa5 fun B2 A2 v2 z2 a2 k2 e2 f2 d2 => ?_
          subst e2
          have d2 := (congrArg (DqAll B2 z2) (pc_take es j)).mp d2
          have ha2 := k2.s _ _ ha5
          have qa2 := DqAll.same k2.s _ _ qa5
          refine ⟨_, rfl, _, rfl, _, _, rfl, rfl, _, rfl, ?_⟩
          dsimp only [tNoPart, tPart]
          refine slA_go k2.d ha2 qa2 fun B3 A3 v3 z3 a3 k3 e3 f3 d3 => ?_
          subst e3
          have d3 := (congrArg (DqAll B3 z3) (pc_drop es (j + 1))).mp d3
          have d2' := DqAll.same k3.s _ _ d2
          refine catA_go k3.d (k3.s _ _ f2) f3 d2' d3 ?_ fun B4 A4 v4 k4 d4 => ?_
          · rw [dq_len d2, dq_len d3, List.length_take, List.length_drop, sizeLine_eq]
            omega
          · refine k _ _ _ _ _ (((g.trans (k2.trans (k3.trans k4)))).more (by omega)) d4 (big (gd_items hg (n := w + 200) (m := 2 * W) ?_ ?_ ?_).1 (by omega))
            · rw [List.length_append, List.length_take, List.length_drop]
              omega
            · intro x hx
              rcases List.mem_append.mp hx with z | z
              · exact List.mem_of_mem_take z
              · exact List.mem_of_mem_drop z
            · rw [wtAll_app]
              omega
        refine iteNo (by simpa using w0) ?_
        refine ⟨_, rfl, rfl, _, rfl, ?_⟩
        by_cases w1 : way = 1
        · refine iteYes (by rw [w1]; simp) ?_
          refine ⟨_, rfl, _, rfl, _, _, rfl, rfl, _, rfl, ?_⟩
          dsimp only [tNoPart, tPart]
          refine slA_go g.d ha5 qa5 fun B2 A2 v2 z2 a2 k2 e2 f2 d2 => ?_
          subst e2
          have d2 := (congrArg (DqAll B2 z2) (pc_take es (j + 1))).mp d2
          have ha2 := k2.s _ _ ha5
          have qa2 := DqAll.same k2.s _ _ qa5
          refine ⟨_, rfl, _, rfl, _, rfl, ?_⟩
          dsimp only [tNoPart, tPart]
          refine slA_go k2.d ha2 qa2 fun B3 A3 v3 z3 a3 k3 e3 f3 d3 => ?_
          subst e3
          have d3 := (congrArg (DqAll B3 z3) (pc_drop es j)).mp d3
          have d2' := DqAll.same k3.s _ _ d2
          refine catA_go k3.d (k3.s _ _ f2) f3 d2' d3 ?_ fun B4 A4 v4 k4 d4 => ?_
          · rw [dq_len d2, dq_len d3, List.length_take, List.length_drop, sizeLine_eq]
            omega
          · refine k _ _ _ _ _ (((g.trans (k2.trans (k3.trans k4)))).more (by omega)) d4 (big (gd_items hg (n := w + 200) (m := 2 * W) ?_ ?_ ?_).1 (by omega))
            · rw [List.length_append, List.length_take, List.length_drop]
              omega
            · intro x hx
              rcases List.mem_append.mp hx with z | z
              · exact List.mem_of_mem_take z
              · exact List.mem_of_mem_drop z
            · rw [wtAll_app]
              omega
        refine iteNo (by simpa using w1) ?_
        refine ⟨_, rfl, rfl, _, rfl, ?_⟩
        by_cases w2 : way = 2
        · refine iteYes (by rw [w2]; simp) ?_
          refine ⟨_, rfl, _, rfl, _, rfl, ?_⟩
          dsimp only [tNoPart, tPart]
          refine slA_go g.d ha5 qa5 fun B2 A2 v2 z2 a2 k2 e2 f2 d2 => ?_
          subst e2
          have d2 := (congrArg (DqAll B2 z2) (pc_take es j)).mp d2
          have ha2 := k2.s _ _ ha5
          have qa2 := DqAll.same k2.s _ _ qa5
          refine ⟨_, rfl, _, rfl, _, rfl, _, rfl, _, _, rfl, rfl, _, rfl, ?_⟩
          dsimp only [tNoPart, tPart]
          refine slA_go k2.d ha2 qa2 fun B3 A3 v3 z3 a3 k3 e3 f3 d3 => ?_
          subst e3
          have d3 := (congrArg (DqAll B3 z3) (pc_mid es j 2 (by omega))).mp d3
          have d2 := DqAll.same k3.s _ _ d2
          have f2 := k3.s _ _ f2
          have ha3 := k3.s _ _ ha2
          have qa3 := DqAll.same k3.s _ _ qa2
          refine ⟨a3, z3, rfl, SqT.of (k3.d.s _ _ f3), fun e4 n4 => ?_⟩
          have k4 := (Go.refl k3.d).new (o := .tup z3.reverse) n4
          have f4 : upd B3 e4 (.tup z3.reverse) e4 = some (.tup z3.reverse) := upd_same
          have d4 := DqAll.same k4.s _ _ d3.rev
          have d2 := DqAll.same k4.s _ _ d2
          have f2 := k4.s _ _ f2
          have ha4 := k4.s _ _ ha3
          have qa4 := DqAll.same k4.s _ _ qa3
          revert k4 f4 d4 d2 f2 ha4 qa4
          generalize upd A3 e4 (.tup z3.reverse) = A4
          generalize upd B3 e4 (.tup z3.reverse) = B4
          intro k4 f4 d4 d2 f2 ha4 qa4
          refine catA_go k4.d f2 f4 d2 d4 ?_ fun B5 A5 v5 k5 d5 => ?_
          · rw [dq_len d2, dq_len d4, List.length_reverse, List.length_take, List.length_take, List.length_drop, sizeLine_eq]
            omega
          have ha5' := k5.s _ _ ha4
          have qa5' := DqAll.same k5.s _ _ qa4
          refine ⟨_, rfl, _, rfl, _, _, rfl, rfl, _, rfl, ?_⟩
          dsimp only [tNoPart, tPart]
          refine slA_go k5.d ha5' qa5' fun B6 A6 v6 z6 a6 k6 e6 f6 d6 => ?_
          subst e6
          have d6 := (congrArg (DqAll B6 z6) (pc_drop es (j + 2))).mp d6
          have d5' := Dq.same k6.s _ _ d5
          cases d5' with
          | tup f5 d5 =>
            refine catA_go k6.d f5 f6 d5 d6 ?_ fun B7 A7 v7 k7 d7 => ?_
            · rw [dq_len d5, dq_len d6, List.length_append, List.length_reverse, List.length_take, List.length_take, List.length_drop, List.length_drop, sizeLine_eq]
              omega
            · have c4 := wtAll_cut 2 (es.drop j)
              rw [List.drop_drop] at c4
              refine k _ _ _ _ _ (((g.trans (k2.trans (k3.trans (k4.trans (k5.trans (k6.trans k7))))))).more (by omega)) d7 (big (gd_items hg (n := w + 200) (m := 2 * W) ?_ ?_ ?_).1 (by omega))
              · rw [List.length_append, List.length_append, List.length_reverse, List.length_take, List.length_take, List.length_drop, List.length_drop]
                omega
              · intro x hx
                rcases List.mem_append.mp hx with z | z
                · rcases List.mem_append.mp z with z | z
                  · exact List.mem_of_mem_take z
                  · exact List.mem_of_mem_drop (List.mem_of_mem_take (List.mem_reverse.mp z))
                · exact List.mem_of_mem_drop z
              · rw [wtAll_app, wtAll_app, wtAll_rev]
                omega
        refine iteNo (by simpa using w2) ?_
        refine ⟨_, rfl, _, rfl, _, rfl, ?_⟩
        dsimp only [tNoPart, tPart]
        refine slA_go g.d ha5 qa5 fun B2 A2 v2 z2 a2 k2 e2 f2 d2 => ?_
        subst e2
        have d2 := (congrArg (DqAll B2 z2) (pc_take es j)).mp d2
        have ha2 := k2.s _ _ ha5
        have qa2 := DqAll.same k2.s _ _ qa5
        have hj' : j < ys.length := by omega
        obtain ⟨di, hdi, qdi⟩ := DqAll.at qa2 (List.getElem?_eq_getElem hj')
        have wi := wtAll_get hdi
        have mi := List.mem_of_getElem? hdi
        have gi : Gd w (pp - 1) (wt di) di := ⟨Nat.le_trans (wdAll_mem mi) (by omega), by have := depth_mem mi; omega, Nat.le_refl _, txAll_mem hg.tx mi⟩
        refine ⟨_, rfl, _, rfl, _, rfl, a, ys, _, ys[j], rfl, rfl, SqT.of (k2.d.s _ _ ha2), atI_nat (List.getElem?_eq_getElem hj'), B2, p, l, t5, ys[j], di, w, pp - 1, wt di, rfl, k2.d, by omega, by omega, qdi, gi, hw, by omega, fun B3 A3 t3 v3 d3 k3 q3 g3' => ?_⟩
        have gt3 := k3.t1
        have gt30 := k3.t0
        refine ⟨(by show 1 ≤ sizeLine; decide), fun e4 n4 => ?_⟩
        have k4 := (Go.refl k3.d).new (o := .tup [v3]) n4
        have f4 : upd B3 e4 (.tup [v3]) e4 = some (.tup [v3]) := upd_same
        have d4 : DqAll (upd B3 e4 (.tup [v3])) [v3] [d3] := .cons (Dq.same k4.s _ _ q3) .nil
        have d2 := DqAll.same (k3.s.trans k4.s) _ _ d2
        have f2 := (k3.s.trans k4.s) _ _ f2
        have ha4 := (k3.s.trans k4.s) _ _ ha2
        have qa4 := DqAll.same (k3.s.trans k4.s) _ _ qa2
        revert k4 f4 d4 d2 f2 ha4 qa4
        generalize upd A3 e4 (.tup [v3]) = A4
        generalize upd B3 e4 (.tup [v3]) = B4
        intro k4 f4 d4 d2 f2 ha4 qa4
        refine catA_go k4.d f2 f4 d2 d4 ?_ fun B5 A5 v5 k5 d5 => ?_
        · rw [dq_len d2, List.length_take, sizeLine_eq]
          show min j es.length + 1 ≤ _
          omega
        have ha5' := k5.s _ _ ha4
        have qa5' := DqAll.same k5.s _ _ qa4
        refine ⟨_, rfl, _, rfl, _, _, rfl, rfl, _, rfl, ?_⟩
        dsimp only [tNoPart, tPart]
        refine slA_go k5.d ha5' qa5' fun B6 A6 v6 z6 a6 k6 e6 f6 d6 => ?_
        subst e6
        have d6 := (congrArg (DqAll B6 z6) (pc_drop es (j + 1))).mp d6
        have d5' := Dq.same k6.s _ _ d5
        cases d5' with
        | tup f5 d5 =>
          refine catA_go k6.d f5 f6 d5 d6 ?_ fun B7 A7 v7 k7 d7 => ?_
          · rw [dq_len d5, dq_len d6, List.length_append, List.length_take, List.length_drop, sizeLine_eq]
            show min j es.length + 1 + _ ≤ _
            omega
          · refine k _ _ _ _ _ (((g.trans (k2.trans (k3.trans (k4.trans (k5.trans (k6.trans k7))))))).more (by omega)) d7 ?_
            have m3 := g3'.wd
            have p3 := g3'.dp
            have w3 := g3'.wt
            refine ⟨?_, ?_, ?_, ?_⟩
            · refine Nat.max_le.mpr ⟨?_, wdAll_bound fun x hx => ?_⟩
              · rw [List.length_append, List.length_append, List.length_take, List.length_drop]
                show min j es.length + 1 + _ ≤ _
                omega
              · rcases List.mem_append.mp hx with z | z
                · rcases List.mem_append.mp z with z | z
                  · exact Nat.le_trans (wdAll_mem (List.mem_of_mem_take z)) (by omega)
                  · rw [List.mem_singleton.mp z]
                    exact m3
                · exact Nat.le_trans (wdAll_mem (List.mem_of_mem_drop z)) (by omega)
            · refine Nat.succ_le_succ (dpAll_bound fun x hx => ?_)
              rcases List.mem_append.mp hx with z | z
              · rcases List.mem_append.mp z with z | z
                · exact Nat.le_trans (depth_mem (List.mem_of_mem_take z)) (by omega)
                · rw [List.mem_singleton.mp z]
                  omega
              · exact Nat.le_trans (depth_mem (List.mem_of_mem_drop z)) (by omega)
            · show wtAll _ + 3 ≤ _
              rw [wtAll_app, wtAll_app]
              have : wtAll [d3] = wt d3 + 2 := rfl
              omega
            · refine txAll_bound fun x hx => ?_
              rcases List.mem_append.mp hx with z | z
              · rcases List.mem_append.mp z with z | z
                · exact txAll_mem hg.tx (List.mem_of_mem_take z)
                · rw [List.mem_singleton.mp z]
                  exact g3'.tx
              · exact txAll_mem hg.tx (List.mem_of_mem_drop z)
      | _ => exact absurd e (by first | decide | (intro z; cases z))
    · refine iteYes (by simp [e]) ?_
      exact iteYes rfl ⟨_, rfl, _, rfl, oddG ((Go.refl D).more (by omega))⟩
end
end KL
set_option Elab.async false
set_option linter.all false
set_option maxRecDepth 100000
set_option maxHeartbeats 8000000
namespace KL
open PySem L2 PySem.KX PySem.Spec PyProof.Rows
def spParts : Sp := fun vs H Q _ => ∃ (H0 : Hp) (p l : Addr) (t : Int) (w : Addr) (vs9 : List V), vs = [.ref w] ∧ DeckAt H0 H p l t ∧ H0 w = some (.dK (wk vs9)) ∧ vs9.length = 9 ∧ ∀ H1 H' q, Go p l H0 H t H1 H' t 0 → H1 q = some (.lst vs9) → Q (.ref q) H'
theorem nine_of {vs : List V} (h : vs.length = 9) : ∃ v0 v1 v2 v3 v4 v5 v6 v7 v8, vs = [v0, v1, v2, v3, v4, v5, v6, v7, v8] := by
  match vs, h with
  | [v0, v1, v2, v3, v4, v5, v6, v7, v8], _ => exact ⟨v0, v1, v2, v3, v4, v5, v6, v7, v8, rfl⟩
def spRight : Sp := fun vs H Q _ => ∃ (dv : V) (q : Addr) (nm : Bool) (v0 v1 v2 v3 v4 v5 v6 v7 v8 : V) (d0 d1 d2 d3 d4 d5 d6 d7 d8 : PyData), vs = [dv, .ref q, .bl nm] ∧ H q = some (.lst [v0, v1, v2, v3, v4, v5, v6, v7, v8]) ∧
  Dq H v0 d0 ∧ Dq H v1 d1 ∧ Dq H v2 d2 ∧ Dq H v3 d3 ∧ Dq H v4 d4 ∧ Dq H v5 d5 ∧ Dq H v6 d6 ∧ Dq H v7 d7 ∧ Dq H v8 d8 ∧ Nine d0 d1 d2 d3 d4 d5 d6 d7 d8 ∧ ∀ H', Same H H' → Q (.bl true) H'
abbrev nRight : List Str := ["_law_deck_here", "_law_parts_here", "_law_is_named", "_law_due_here", "_law_kept", "_law_told", "_law_found"]
section
variable {P : Program} {w : World} {K : PySem.W.Frag} {mg : Str → Option Value} {base : Heap} {C : Addr}
theorem scParts : FnScope ["_law_w", "_law_found"] ["_law_w"] (defScope lParts) := ⟨rfl, rfl, rfl, by decide +kernel, rfl, by decide +kernel, by decide +kernel⟩
theorem ok_parts {f : Addr} {fd : FuncData} (F : Fun K "_law_parts" "_law_parts" lParts f fd) : FnOk P w K mg base CX0 1 f fd ["_law_w"] spParts := by
  refine F.ok scParts (fun vs H Q E h => ?_) (fun cdv A outer s H vs Q E hr h => ?_)
  · obtain ⟨H0, p, l, t, w, vs9, rfl, _⟩ := h
    rfl
  · obtain ⟨H0, p, l, t, w, vs9, rfl, D, hw, h9, k⟩ := h
    have hu := hu_of hr
    have nd := scParts.nd
    obtain ⟨v0, v1, v2, v3, v4, v5, v6, v7, v8, rfl⟩ := nine_of h9
    have hH := D.s _ _ hw
    refine ⟨_, pss_cons (ps_set (i := 1) nd rfl (.inl rfl) (pe_lst (pa_cons (pe_dget hu (pv 0) pe_str (fun _ _ => rfl)) (pa_cons (pe_dget hu (pv 0) pe_str (fun _ _ => rfl)) (pa_cons (pe_dget hu (pv 0) pe_str (fun _ _ => rfl)) (pa_cons (pe_dget hu (pv 0) pe_str (fun _ _ => rfl)) (pa_cons (pe_dget hu (pv 0) pe_str (fun _ _ => rfl)) (pa_cons (pe_dget hu (pv 0) pe_str (fun _ _ => rfl)) pa_nil))))))))
      (pss_one (ps_ret (pe_op op_cat (pv 1) (pe_lst (pa_cons (pe_dget hu (pv 0) pe_str (fun _ _ => rfl)) (pa_cons (pe_dget hu (pv 0) pe_str (fun _ _ => rfl)) (pa_cons (pe_dget hu (pv 0) pe_str (fun _ _ => rfl)) pa_nil))))))), ?_⟩
    have ga : ∀ {H' : Hp} (x : Str) (v : V), H' w = some (.dK (wk [v0, v1, v2, v3, v4, v5, v6, v7, v8])) → valV (wk [v0, v1, v2, v3, v4, v5, v6, v7, v8]) (Sum.inr x) = some v → DGet H' w (.str x) (some v) := fun x v h e => by
      have := DGet.k (k := Sum.inr x) h
      rw [e] at this
      exact this
    refine ⟨_, rfl, w, _, rfl, ga "people" v0 hH rfl, _, rfl, w, _, rfl, ga "deeds" v1 hH rfl, _, rfl, w, _, rfl, ga "start" v2 hH rfl, _, rfl, w, _, rfl, ga "places" v3 hH rfl, _, rfl, w, _, rfl, ga "ends" v4 hH rfl, _, rfl, w, _, rfl, ga "logs" v5 hH rfl, (by show 6 ≤ sizeLine; decide), fun a na => ?_⟩
    have wa := Own.start (o := .lst [v0, v1, v2, v3, v4, v5]) (Go.refl D) na
    have g1 := (Go.refl D).put0 (o := .lst [v0, v1, v2, v3, v4, v5]) na
    revert wa g1
    generalize upd H a (.lst [v0, v1, v2, v3, v4, v5]) = H1
    intro wa g1
    have hH := g1.d.s _ _ hw
    refine ⟨_, rfl, _, rfl, w, _, rfl, ga "arrows" v6 hH rfl, _, rfl, w, _, rfl, ga "tests" v7 hH rfl, _, rfl, w, _, rfl, ga "looks" v8 hH rfl, (by show 3 ≤ sizeLine; decide), fun b nb => ?_⟩
    have wb := wa.put (o' := .lst [v6, v7, v8]) nb
    have g2 := g1.put0 (o := .lst [v6, v7, v8]) nb
    have hb : upd H1 b (.lst [v6, v7, v8]) b = some (.lst [v6, v7, v8]) := upd_same
    revert wb g2 hb
    generalize upd H1 b (.lst [v6, v7, v8]) = H2
    intro wb g2 hb
    refine ⟨a, b, _, _, rfl, rfl, wb.h, hb, (by show 6 + 3 ≤ sizeLine; decide), fun c nc => ?_⟩
    exact k _ _ c ((g2.new nc).more (by omega)) upd_same
theorem scRight : FnScope nRight ["_law_deck_here", "_law_parts_here", "_law_is_named"] (defScope lRight) := ⟨rfl, rfl, rfl, by decide +kernel, rfl, by decide +kernel, by decide +kernel⟩
theorem ok_right {f g1 g2 : Addr} {fd gd1 gd2 : FuncData} (F : Fun K "_law_right" "_law_right" lRight f fd) (T : TxtL mg) (TH : TxtH K C) (IC : C8.InsC K C) (mC : mg "House" = some (.ref C))
    (G1 : FnOk P w K mg base CX0 5 g1 gd1 ["_law_parts_here"] spDue) (c1 : Cal K mg "_law_due" g1 gd1 ["_law_parts_here"])
    (G2 : FnOk P w K mg base CX0 8 g2 gd2 ["_law_parts_here", "_law_is_named"] (spMade C)) (c2 : Cal K mg "_law_made" g2 gd2 ["_law_parts_here", "_law_is_named"]) :
    FnG P w K mg base CX0 9 f fd ["_law_deck_here", "_law_parts_here", "_law_is_named"] spRight := by
  refine fnG0 F scRight (fun vs H Q E h => ?_) (fun cdv A outer s H vs Q E hG hr h => ?_)
  · obtain ⟨dv, q, nm, v0, v1, v2, v3, v4, v5, v6, v7, v8, d0, d1, d2, d3, d4, d5, d6, d7, d8, rfl, _⟩ := h
    rfl
  · obtain ⟨dv, q, nm, v0, v1, v2, v3, v4, v5, v6, v7, v8, d0, d1, d2, d3, d4, d5, d6, d7, d8, rfl, hq, q0, q1, q2, q3, q4, q5, q6, q7, q8, N, k⟩ := h
    have nd := scRight.nd
    let X0 : Cx := (cxOf CX0 P w K mg base nRight "_law_right" (defScope lRight) f cdv A outer s H E).nox
    have r5 : Room 5 X0.A := hr.mono (by decide)
    refine ⟨_, pss_cons (ps_par (i := 3) (j := 4) (by rfl) nd rfl rfl (by decide) rfl rfl (pa_cons (pe_call G1 r5 (by rfl) c1.m c1.k c1.b .nil pass0 (pa_cons (pv 1) pa_nil)) (pa_cons (pe_callB (call_repL (X := X0) hG hr.units) (by rfl) T.repr (by decide +kernel) (pa_cons (pv 1) pa_nil)) pa_nil)) (by rfl))
      (pss_cons (ps_set (i := 5) nd rfl (.inl rfl) (pe_call G2 hr (by rfl) c2.m c2.k c2.b .nil pass0 (pa_cons (pv 1) (pa_cons (pv 2) pa_nil))))
      (pss_cons (ps_if (pt_cmpR (op_neNil hr.units) (pv 3) (pe_lst pa_nil) (nomark _)) (pss_one (ps_ret (pe_and (pe_cmpR op_eq (pe_callB (call_repL (X := X0) hG hr.units) (by rfl) T.repr (by decide +kernel) (pa_cons (pv 5) pa_nil)) (pe_callB (call_repL (X := X0) hG hr.units) (by rfl) T.repr (by decide +kernel) (pa_cons (pe_lst (pa_cons (pe_ix (r := rIxL K) ix_list (pv 3) pe_int (fun _ _ => rfl)) (pa_cons pe_bl pa_nil))) pa_nil)) (nomark _)) (pe_one (pe_cmpR op_eq (pe_callB (call_repL (X := X0) hG hr.units) (by rfl) T.repr (by decide +kernel) (pa_cons (pv 1) pa_nil)) (pv 4) (nomark _)))))) pss_nil)
      (pss_cons (ps_if (PW.pt (pw_or (pt_not (pt_val (pe_callB (C8.call_isC (X := X0) IC) (by rfl) T.b.isi (by decide +kernel) (pa_cons (pv 5) (pa_cons (pe_glob (v := .ref C) (by rfl) mC rfl) pa_nil))))) (pw_or1 (pt_cmpR op_ne (pe_callB (call_repL (X := X0) hG hr.units) (by rfl) T.repr (by decide +kernel) (pa_cons (pv 1) pa_nil)) (pv 4) (nomark _))))) (pss_one (ps_ret pe_bl)) pss_nil)
      (pss_cons (ps_set (i := 6) nd rfl (.inl rfl) (pe_lst (pa_cons (pe_fld (pv 5) (by rfl)) (pa_cons (pe_fld (pv 5) (by rfl)) (pa_cons (pe_fld (pv 5) (by rfl)) (pa_cons (pe_fld (pv 5) (by rfl)) (pa_cons (pe_fld (pv 5) (by rfl)) (pa_cons (pe_fld (pv 5) (by rfl)) pa_nil))))))))
      (pss_one (ps_ret (pe_cmpR op_eq (pe_callB (call_repL (X := X0) hG hr.units) (by rfl) T.repr (by decide +kernel) (pa_cons (pe_op op_cat (pv 6) (pe_lst (pa_cons (pe_fld (pv 5) (by rfl)) (pa_cons (pe_fld (pv 5) (by rfl)) (pa_cons (pe_fld (pv 5) (by rfl)) pa_nil))))) pa_nil)) (pv 4) (nomark _)))))))), ?_⟩
    have B0 : DqAll H [v0, v1, v2, v3, v4, v5, v6, v7, v8] [d0, d1, d2, d3, d4, d5, d6, d7, d8] := .cons q0 (.cons q1 (.cons q2 (.cons q3 (.cons q4 (.cons q5 (.cons q6 (.cons q7 (.cons q8 .nil))))))))
    refine ⟨_, rfl, q, v0, v1, v2, v3, v4, v5, v6, v7, v8, d0, d1, d2, d3, d4, d5, d6, d7, d8, rfl, hq, q0, q1, q2, q3, q4, q5, q6, q7, q8, N.sm, fun H1 r ys S1 hr1 odd => ?_⟩
    refine ⟨_, rfl, q, _, _, _, _, rfl, S1 _ _ hq, DqAll.same S1 _ _ B0, N.se, _, _, rfl, ?_⟩
    have B1 := DqAll.same S1 _ _ B0
    have hq1 := S1 _ _ hq
    refine ⟨_, rfl, _, rfl, q, nm, v0, v1, v2, v3, v4, v5, v6, v7, v8, d0, d1, d2, d3, d4, d5, d6, d7, d8, rfl, hq1, Dq.same S1 _ _ q0, Dq.same S1 _ _ q1, Dq.same S1 _ _ q2, Dq.same S1 _ _ q3, Dq.same S1 _ _ q4, Dq.same S1 _ _ q5, Dq.same S1 _ _ q6, Dq.same S1 _ _ q7, Dq.same S1 _ _ q8, N.sm, ?_, ?_⟩
    · intro hn H2 x dx fs S2 hx hfs
      rw [hn] at odd
      cases (show ys = [] from odd)
      have hq2 := S2 _ _ hq1
      have B2 := DqAll.same S2 _ _ B1
      refine ⟨_, rfl, (by show 0 ≤ sizeLine; decide), fun e ne => ⟨r, e, [], rfl, rfl, ?_, upd_same, _, rfl, iteNo rfl ?_⟩⟩
      · rw [upd_ne (ne_of_none (S2 _ _ hr1) ne)]
        exact S2 _ _ hr1
      have S3 := same_new (o := .lst []) ne
      have hx3 := S3 _ _ hx
      revert S3 hx3
      generalize upd H2 e (.lst []) = H3
      intro S3 hx3
      have hq3 := S3 _ _ hq2
      have B3 := DqAll.same S3 _ _ B2
      refine ⟨_, rfl, x, dx, fs, rfl, hx3, _, rfl, iteNo rfl ?_⟩
      refine ⟨_, rfl, q, _, _, _, _, rfl, hq3, B3, N.se, _, rfl, rfl, _, rfl, iteNo (by simp) ?_⟩
      obtain ⟨f0, f1, f2, f3, f4, f5, f6, f7, f8⟩ := hfs
      refine ⟨_, rfl, x, C, dx, fs, _, rfl, hx3, TH.c, TH.people, f0, _, rfl, x, C, dx, fs, _, rfl, hx3, TH.c, TH.deeds, f1, _, rfl, x, C, dx, fs, _, rfl, hx3, TH.c, TH.start, f2, _, rfl, x, C, dx, fs, _, rfl, hx3, TH.c, TH.places, f3, _, rfl, x, C, dx, fs, _, rfl, hx3, TH.c, TH.ends, f4, _, rfl, x, C, dx, fs, _, rfl, hx3, TH.c, TH.logs, f5, (by show 6 ≤ sizeLine; decide), fun a na => ?_⟩
      have S4 := same_new (o := .lst [v0, v1, v2, v3, v4, v5]) na
      have ha : upd H3 a (.lst [v0, v1, v2, v3, v4, v5]) a = some (.lst [v0, v1, v2, v3, v4, v5]) := upd_same
      revert S4 ha
      generalize upd H3 a (.lst [v0, v1, v2, v3, v4, v5]) = H4
      intro S4 ha
      have hx4 := S4 _ _ hx3
      refine ⟨_, rfl, _, rfl, x, C, dx, fs, _, rfl, hx4, TH.c, TH.arrows, f6, _, rfl, x, C, dx, fs, _, rfl, hx4, TH.c, TH.tests, f7, _, rfl, x, C, dx, fs, _, rfl, hx4, TH.c, TH.looks, f8, (by show 3 ≤ sizeLine; decide), fun b nb => ?_⟩
      have S5 := same_new (o := .lst [v6, v7, v8]) nb
      have hb : upd H4 b (.lst [v6, v7, v8]) b = some (.lst [v6, v7, v8]) := upd_same
      revert S5 hb
      generalize upd H4 b (.lst [v6, v7, v8]) = H5
      intro S5 hb
      refine ⟨a, b, _, _, rfl, rfl, S5 _ _ ha, hb, (by show 6 + 3 ≤ sizeLine; decide), fun c nc => ?_⟩
      have S6 := same_new (o := .lst ([v0, v1, v2, v3, v4, v5] ++ [v6, v7, v8])) nc
      have S36 := S4.trans (S5.trans S6)
      refine ⟨c, _, _, _, _, rfl, upd_same, DqAll.same S36 _ _ B3, N.se, _, rfl, rfl, ?_⟩
      have e0 : decide (V.str (PyData.list [d0, d1, d2, d3, d4, d5, d6, d7, d8]).shown = V.str (PyData.list [d0, d1, d2, d3, d4, d5, d6, d7, d8]).shown) = true := decide_eq_true rfl
      rw [e0]
      exact k _ (S1.trans (S2.trans (S3.trans S36)))
    · intro it hi H2 m y S2 hm hy
      rw [hi] at odd
      obtain ⟨y0, rfl, hy0⟩ := (show ∃ y, ys = [y] ∧ Dq H1 y it from odd)
      have se := N.due hi
      have hq2 := S2 _ _ hq1
      have B2 := DqAll.same S2 _ _ B1
      refine ⟨_, rfl, (by show 0 ≤ sizeLine; decide), fun e ne => ⟨r, e, [y0], rfl, rfl, ?_, upd_same, _, rfl, iteYes rfl ?_⟩⟩
      · rw [upd_ne (ne_of_none (S2 _ _ hr1) ne)]
        exact S2 _ _ hr1
      have S3 := same_new (o := .lst []) ne
      revert S3
      generalize upd H2 e (.lst []) = H3
      intro S3
      have hm3 := S3 _ _ hm
      have hr3 := S3 _ _ (S2 _ _ hr1)
      refine ⟨_, rfl, m, y, [.bl true], it, [.bool true], rfl, hm3, .cons (Dq.same S3 _ _ hy) (.cons (.bl true) .nil), se, ?_⟩
      refine ⟨_, rfl, r, _, _, _, rfl, rfl, SqL.of hr3, rfl, (by show 2 ≤ sizeLine; decide), fun a na => ?_⟩
      have S4 := same_new (o := .lst [y0, V.bl true]) na
      refine ⟨a, y0, [.bl true], it, [.bool true], rfl, upd_same, .cons (Dq.same (S2.trans (S3.trans S4)) _ _ hy0) (.cons (.bl true) .nil), se, rfl, _, rfl, ?_⟩
      have e1 : decide (V.str (PyData.list [it, .bool true]).shown = V.str (PyData.list [it, .bool true]).shown) = true := decide_eq_true rfl
      refine iteYes e1 ?_
      have e0 : decide (V.str (PyData.list [d0, d1, d2, d3, d4, d5, d6, d7, d8]).shown = V.str (PyData.list [d0, d1, d2, d3, d4, d5, d6, d7, d8]).shown) = true := decide_eq_true rfl
      refine ⟨_, rfl, q, _, _, _, _, rfl, S4 _ _ (S3 _ _ hq2), DqAll.same (S3.trans S4) _ _ B2, N.se, _, rfl, rfl, ?_⟩
      rw [e0]
      exact k _ (S1.trans (S2.trans (S3.trans S4)))
end
end KL
set_option Elab.async false
set_option linter.all false
set_option maxRecDepth 100000
set_option maxHeartbeats 8000000
namespace KL
open PySem L2 PySem.KX PySem.Spec PyProof.Rows
def spLaw (K : PySem.W.Frag) : Sp := fun vs H Q _ => ∃ (a : Addr) (ns : List Int), vs = [.ref a] ∧ SqL K H a (ns.map V.int) ∧ ns.length ≤ 63 ∧ ∀ H', Q (.bl true) H'
abbrev nLaw : List Str := ["_law_script", "_law_deck_here", "_law_go", "_law_parts_here", "_law_k", "_law_at", "_law_bent_here"]
/-- nine parts of a size -/
def Ni (w p W : Nat) (H : Hp) (vs : List V) (ds : List PyData) : Prop := DqAll H vs ds ∧ ds.length = 9 ∧ ∀ d ∈ ds, Gd w p W d
theorem Ni.more {w p W w' p' W' : Nat} {H : Hp} {vs : List V} {ds : List PyData} (h : Ni w p W H vs ds) (h1 : w ≤ w') (h2 : p ≤ p') (h3 : W ≤ W') : Ni w' p' W' H vs ds := ⟨h.1, h.2.1, fun d hd => (h.2.2 d hd).mono h1 h2 h3⟩
theorem Ni.same {w p W : Nat} {H H' : Hp} {vs : List V} {ds : List PyData} (h : Ni w p W H vs ds) (S : Same H H') : Ni w p W H' vs ds := ⟨DqAll.same S _ _ h.1, h.2⟩
theorem nine_gd {d0 d1 d2 d3 d4 d5 d6 d7 d8 : PyData} (h : ∀ d ∈ [d0, d1, d2, d3, d4, d5, d6, d7, d8], Gd 1000 15 100000 d) : Nine d0 d1 d2 d3 d4 d5 d6 d7 d8 := by
  have m : Many 9 1000 15 100000 [d0, d1, d2, d3, d4, d5, d6, d7, d8] := ⟨Nat.le_refl _, h⟩
  have t : txD (.list [d0, d1, d2, d3, d4, d5, d6, d7, d8]) = true := txAll_of m
  have z := shown_wt _ t
  have z2 : wt (.list [d0, d1, d2, d3, d4, d5, d6, d7, d8]) ≤ 9 * (100000 + 2) + 2 := Nat.add_le_add_right (wtAll_le 9 m) 2
  have z3 : (PyData.list [d0, d1, d2, d3, d4, d5, d6, d7, d8]).shown.length ≤ 1000000 := Nat.le_trans z (Nat.le_trans z2 (by decide))
  have sm : ∀ d ∈ [d0, d1, d2, d3, d4, d5, d6, d7, d8], smB d = true := fun d hd => (sm_wd d (h d hd).wd).1
  have sh : PyData.showableAll [d0, d1, d2, d3, d4, d5, d6, d7, d8] = true := (sm_wdAll _ (wdAll_le m)).2
  refine ⟨?_, ⟨sh, Nat.le_trans z3 (by decide), Nat.succ_le_succ (Nat.le_trans (dpAll_le m) (by decide))⟩, z3⟩
  rw [sm d0 (by simp), sm d1 (by simp), sm d2 (by simp), sm d3 (by simp), sm d4 (by simp), sm d5 (by simp), sm d6 (by simp), sm d7 (by simp), sm d8 (by simp)]
  rfl
theorem nineD {ds : List PyData} (h : ds.length = 9) : ∃ d0 d1 d2 d3 d4 d5 d6 d7 d8, ds = [d0, d1, d2, d3, d4, d5, d6, d7, d8] := by
  match ds, h with
  | [v0, v1, v2, v3, v4, v5, v6, v7, v8], _ => exact ⟨v0, v1, v2, v3, v4, v5, v6, v7, v8, rfl⟩
theorem cv_take (xs : List V) (k : Nat) : cutV xs none (some (k : Int)) = xs.take k := by
  show (xs.drop 0).take (HT.sIx xs.length xs.length (some (k : Int)) - 0) = _
  rw [HT.sIx_nat, Nat.sub_zero, List.drop_zero]
  by_cases h : k ≤ xs.length
  · rw [Nat.min_eq_left h]
  · rw [Nat.min_eq_right (by omega), List.take_of_length_le (Nat.le_refl _), List.take_of_length_le (by omega)]
theorem cv_drop (xs : List V) (k : Nat) : cutV xs (some (k : Int)) none = xs.drop k := by
  show (xs.drop (HT.sIx xs.length 0 (some (k : Int)))).take (xs.length - HT.sIx xs.length 0 (some (k : Int))) = _
  rw [HT.sIx_nat]
  by_cases h : k ≤ xs.length
  · rw [Nat.min_eq_left h, List.take_of_length_le (by rw [List.length_drop]; omega)]
  · rw [Nat.min_eq_right (by omega), Nat.sub_self, List.drop_eq_nil_of_le (by omega : xs.length ≤ k)]
    rfl
theorem Ni.put {w p W w' p' W' : Nat} {H : Hp} {vs : List V} {ds : List PyData} {j : Nat} {v : V} {d : PyData} (h : Ni w p W H vs ds) (hj : j < 9) (q : Dq H v d) (g : Gd w' p' W' d) (h1 : w ≤ w') (h2 : p ≤ p') (h3 : W ≤ W') : Ni w' p' W' H (vs.take j ++ [v] ++ vs.drop (j + 1)) (ds.take j ++ [d] ++ ds.drop (j + 1)) := by
  refine ⟨((h.1.take j).app (.cons q .nil)).app (h.1.drop (j + 1)), ?_, fun x hx => ?_⟩
  · have := h.2.1
    simp only [List.length_append, List.length_take, List.length_drop, List.length_cons, List.length_nil]
    omega
  · rcases List.mem_append.mp hx with z | z
    · rcases List.mem_append.mp z with z | z
      · exact (h.2.2 x (List.mem_of_mem_take z)).mono h1 h2 h3
      · rw [List.mem_singleton.mp z]
        exact g
    · exact (h.2.2 x (List.mem_of_mem_drop z)).mono h1 h2 h3
/-- the law's state: the parts at hand -/
def LwP (p l : Addr) (sc : V) (go : Int) (b : Int) (sl : List (Option V)) (X : Hp → Prop) (σ : L2.St) (H : Hp) : Prop :=
  ∃ H0 t, σ = [some sc, some (.ref p), some (.int go)] ++ sl ∧ DeckAt H0 H p l t ∧ 0 ≤ t ∧ t ≤ b ∧ X H0
section
variable {P : Program} {w : World} {K : PySem.W.Frag} {mg : Str → Option Value} {base : Heap} {C : Addr}
theorem scLaw : FnScope nLaw ["_law_script"] (defScope lLaw) := ⟨rfl, rfl, rfl, by decide +kernel, rfl, by decide +kernel, by decide +kernel⟩
theorem ok_law {f g1 g2 g3 g4 g5 g6 : Addr} {fd gd1 gd2 gd3 gd4 gd5 gd6 : FuncData} (F : Fun K "law" "law" lLaw f fd) (T : TxtL mg)
    (G1 : FnOk P w K mg base CX0 1 g1 gd1 ["_law_script"] (spDeck K)) (c1 : Cal K mg "_law_deck" g1 gd1 ["_law_script"])
    (G2 : FnOk P w K mg base CX0 1 g2 gd2 ["_law_deck_here", "_law_below"] spDraw) (c2 : Cal K mg "_law_draw" g2 gd2 ["_law_deck_here", "_law_below"])
    (G3 : FnOk P w K mg base CX0 3 g3 gd3 ["_law_deck_here", "_law_places"] spHouse) (c3 : Cal K mg "_law_house" g3 gd3 ["_law_deck_here", "_law_places"])
    (G4 : FnOk P w K mg base CX0 1 g4 gd4 ["_law_w"] spParts) (c4 : Cal K mg "_law_parts" g4 gd4 ["_law_w"])
    (G5 : FnOk P w K mg base CX0 10 g5 gd5 ["_law_deck_here", "_law_it"] (spBent 7)) (c5 : Cal K mg "_law_bent" g5 gd5 ["_law_deck_here", "_law_it"])
    (G6 : FnG P w K mg base CX0 9 g6 gd6 ["_law_deck_here", "_law_parts_here", "_law_is_named"] spRight) (c6 : Cal K mg "_law_right" g6 gd6 ["_law_deck_here", "_law_parts_here", "_law_is_named"]) :
    FnG P w K mg base CX0 11 f fd ["_law_script"] (spLaw K) := by
  refine fnG0 F scLaw (fun vs H Q E h => ?_) (fun cdv A outer s H vs Q E hG hr h => ?_)
  · obtain ⟨a, ns, rfl, _⟩ := h
    rfl
  · obtain ⟨a, ns, rfl, hS, hlen, fin⟩ := h
    have nd := scLaw.nd
    let X0 : Cx := (cxOf CX0 P w K mg base nLaw "law" (defScope lLaw) f cdv A outer s H E).nox
    have r1 : Room 1 X0.A := hr.mono (by decide)
    have r3 : Room 3 X0.A := hr.mono (by decide)
    have r9 : Room 9 X0.A := hr.mono (by decide)
    refine ⟨_, C8.pss_cut (ps_set (i := 1) nd rfl (.inl rfl) (pe_call G1 r1 (by rfl) c1.m c1.k c1.b .nil pass0 (pa_cons (pv 0) pa_nil)))
      (C8.pss_cut (ps_for PassesOwn.never rfl (pi_range1 (by rfl) T.range (pa_cons pe_int pa_nil)) (pg_name (i := 2) nd rfl (.inl rfl))
        (C8.pss_cut (ps_set (i := 3) nd rfl (.inl rfl) (pe_call G4 r1 (by rfl) c4.m c4.k c4.b .nil pass0 (pa_cons (pe_call G3 r3 (by rfl) c3.m c3.k c3.b .nil pass0 (pa_cons (pv 1) (pa_cons pe_int pa_nil))) pa_nil)))
        (C8.pss_cut (ps_if (pt_not (pt_val (pe_callG G6 hG r9 (by rfl) c6.m c6.k c6.b pass0 (pa_cons (pv 1) (pa_cons (pv 3) (pa_cons (pe_cmpR op_eq (pv 2) pe_int (nomark _)) pa_nil)))))) (pss_one (ps_ret pe_bl)) pss_nil)
        (pss_one (ps_for PassesOwn.never rfl (pi_range1 (by rfl) T.range (pa_cons pe_int pa_nil)) (pg_name (i := 4) nd rfl (.inl rfl))
          (C8.pss_cut (ps_set (i := 5) nd rfl (.inl rfl) (pe_ifExp (pt_cmpR op_lt (pv 4) pe_int (nomark _)) (pv 4) (pe_call G2 r1 (by rfl) c2.m c2.k c2.b .nil pass0 (pa_cons (pv 1) (pa_cons pe_int pa_nil)))))
          (C8.pss_cut (ps_set (i := 6) nd rfl (.inl rfl) (pe_op op_cat (pe_op op_cat (pe_slice (r := rSlL K) sl_list (pv 3) po_none (po_some (pv 5))) (pe_lst (pa_cons (pe_call G5 hr (by rfl) c5.m c5.k c5.b .nil pass0 (pa_cons (pv 1) (pa_cons (pe_ix (r := rIxL K) ix_list (pv 3) (pv 5) (fun _ _ => rfl)) pa_nil))) pa_nil))) (pe_slice (r := rSlL K) sl_list (pv 3) (po_some (pe_op op_add (pv 5) pe_int)) po_none)))
          (C8.pss_cut (ps_if (pt_cmpR op_eq (pv 4) pe_int (nomark _)) (C8.pss_cut (ps_set (i := 5) nd rfl (.inl rfl) (pe_call G2 r1 (by rfl) c2.m c2.k c2.b .nil pass0 (pa_cons (pv 1) (pa_cons pe_int pa_nil)))) (pss_one (ps_set (i := 6) nd rfl (.inl rfl) (pe_op op_cat (pe_op op_cat (pe_slice (r := rSlL K) sl_list (pv 6) po_none (po_some (pv 5))) (pe_lst (pa_cons (pe_call G5 hr (by rfl) c5.m c5.k c5.b .nil pass0 (pa_cons (pv 1) (pa_cons (pe_ix (r := rIxL K) ix_list (pv 6) (pv 5) (fun _ _ => rfl)) pa_nil))) pa_nil))) (pe_slice (r := rSlL K) sl_list (pv 6) (po_some (pe_op op_add (pv 5) pe_int)) po_none))))) pss_nil)
          (pss_one (ps_if (pt_not (pt_val (pe_callG G6 hG r9 (by rfl) c6.m c6.k c6.b pass0 (pa_cons (pv 1) (pa_cons (pv 6) (pa_cons (pe_cmpR op_eq (pe_call G2 r1 (by rfl) c2.m c2.k c2.b .nil pass0 (pa_cons (pv 1) (pa_cons pe_int pa_nil))) pe_int (nomark _)) pa_nil)))))) (pss_one (ps_ret pe_bl)) pss_nil))))))))))
      (pss_one (ps_ret pe_bl))), ?_⟩
    refine ⟨fun σ H' => ∃ p l, LwP p l (.ref a) 0 0 [none, none, none, none] (fun _ => True) (σ.set 2 (some (.int 0))) H' ∧ σ = [some (.ref a), some (.ref p), none, none, none, none, none], ?_, ?_⟩
    · refine ⟨_, rfl, a, ns, rfl, hS, hlen, fun H' p l D => ⟨p, l, ⟨H, 0, rfl, D, by omega, by omega, trivial⟩, rfl⟩⟩
    rintro σ1 H1 ⟨p, l, hP, rfl⟩
    obtain ⟨H0, t, _, D, t0, tb, _⟩ := hP
    refine ⟨fun _ _ => True, ?_, fun σ H' _ => fin H'⟩
    refine ⟨_, rfl, by decide, by decide, for_range (fun i σ H' => ∃ o2 o3 o4 o5 o6 H0 t, σ = [some (.ref a), some (.ref p), o2, o3, o4, o5, o6] ∧ DeckAt H0 H' p l t ∧ 0 ≤ t ∧ t ≤ 1000 * (i : Int)) ⟨_, _, _, _, _, H0, t, rfl, D, t0, by omega⟩ ?_ (fun _ _ _ => trivial)⟩
    rintro i σ H2 hi ⟨o2, o3, o4, o5, o6, H0, t, rfl, D, t0, tb⟩
    have hi2 : i < 2 := hi
    refine ⟨fun σ H' => ∃ q vs ds, LwP p l (.ref a) (0 + (i : Int)) (1000 * (i : Int) + 200) [some (.ref q), o4, o5, o6] (fun H0 => H0 q = some (.lst vs) ∧ Ni 20 4 20000 H0 vs ds) σ H', ?_, ?_⟩
    · refine ⟨_, rfl, H0, p, l, t, 3, rfl, D, t0, by omega, by decide, by decide, fun H3 H3' t3 w vs9 ds9 g3 hw N9 => ?_⟩
      refine ⟨H3, p, l, t3, w, vs9, rfl, g3.d, hw, ?_, fun H4 H4' q g4 hq => ?_⟩
      · rw [dq_len N9.1, N9.2.1]
      · have := g3.t0
        have := g3.t1
        have := g4.t0
        have := g4.t1
        exact ⟨q, vs9, ds9, H4, t3, rfl, g4.d, by omega, by omega, hq, DqAll.same g4.s _ _ N9.1, N9.2⟩
    clear D t0 tb t H0
    rintro σ3 H3 ⟨q, vs, ds, H0, t, rfl, D, t0, tb, hq, hN⟩
    have lv : vs.length = 9 := by rw [dq_len hN.1, hN.2.1]
    refine ⟨fun σ H' => LwP p l (.ref a) (0 + (i : Int)) (1000 * (i : Int) + 200) [some (.ref q), o4, o5, o6] (fun H0 => H0 q = some (.lst vs) ∧ Ni 20 4 20000 H0 vs ds) σ H', ?_, ?_⟩
    · obtain ⟨v0, v1, v2, v3, v4, v5, v6, v7, v8, rfl⟩ := nine_of lv
      obtain ⟨d0, d1, d2, d3, d4, d5, d6, d7, d8, rfl⟩ := nineD hN.2.1
      have hN3 := hN.same D.s
      have N := nine_gd fun d hd => (hN.2.2 d hd).mono (by decide) (by decide) (by decide)
      cases hN3.1 with | cons q0 r => cases r with | cons q1 r => cases r with | cons q2 r => cases r with | cons q3 r => cases r with | cons q4 r => cases r with | cons q5 r => cases r with | cons q6 r => cases r with | cons q7 r => cases r with | cons q8 r =>
      refine ⟨_, rfl, _, rfl, _, rfl, rfl, _, q, _, v0, v1, v2, v3, v4, v5, v6, v7, v8, d0, d1, d2, d3, d4, d5, d6, d7, d8, rfl, D.s _ _ hq, q0, q1, q2, q3, q4, q5, q6, q7, q8, N, fun H4 S4 => ⟨_, rfl, iteNo rfl ?_⟩⟩
      obtain ⟨ns', m', hp, hl, r'⟩ := D.d
      exact ⟨H0, t, rfl, ⟨D.s.trans S4, D.p0, D.l0, ns', m', S4 _ _ hp, S4 _ _ hl, r'⟩, t0, tb, hq, hN⟩
    clear D t0 tb t H0 hN hq
    rintro σ4 H4 hP
    have hP0 : ∃ o4 o5 o6, LwP p l (.ref a) (0 + (i : Int)) (1000 * (i : Int) + 200 + 70 * ((0 : Nat) : Int)) [some (.ref q), o4, o5, o6] (fun H0 => H0 q = some (.lst vs) ∧ Ni 20 4 20000 H0 vs ds) σ4 H4 := by
      obtain ⟨H0, t, h1, D, t0, tb, hX⟩ := hP
      exact ⟨o4, o5, o6, H0, t, h1, D, t0, by omega, hX⟩
    refine ⟨_, rfl, by decide, by decide, for_range (fun k σ H' => ∃ o4 o5 o6, LwP p l (.ref a) (0 + (i : Int)) (1000 * (i : Int) + 200 + 70 * (k : Int)) [some (.ref q), o4, o5, o6] (fun H0 => H0 q = some (.lst vs) ∧ Ni 20 4 20000 H0 vs ds) σ H') hP0 ?_ ?_⟩
    · clear hP0 hP
      rintro k σ H5 hk ⟨o4, o5, o6, H0, t, rfl, D, t0, tb, hq, hN⟩
      have hk10 : k < 10 := hk
      refine ⟨fun σ H' => ∃ j : Nat, j < 9 ∧ LwP p l (.ref a) (0 + (i : Int)) (1000 * (i : Int) + 200 + 70 * (k : Int) + 1) [some (.ref q), some (.int (0 + (k : Int))), some (.int (j : Int)), o6] (fun H0 => H0 q = some (.lst vs) ∧ Ni 20 4 20000 H0 vs ds) σ H', ?_, ?_⟩
      · refine ⟨_, rfl, _, _, rfl, rfl, _, rfl, ?_⟩
        by_cases e : (0 + (k : Int)) < 9
        · refine iteYes (decide_eq_true e) ⟨_, rfl, k, by omega, H0, t, ?_, D, t0, by omega, hq, hN⟩
          simp
        · refine iteNo (decide_eq_false e) ?_
          refine ⟨_, rfl, H0, p, l, t, 9, rfl, D, t0, by omega, by omega, by omega, fun H6 r g6 r0 r1 => ?_⟩
          obtain ⟨j, rfl⟩ := Int.eq_ofNat_of_zero_le r0
          exact ⟨j, by omega, H0, _, rfl, g6.d, by omega, by omega, hq, hN⟩
      clear D t0 tb t H0 hN hq o4 o5
      rintro σ6 H' ⟨j, hj, H0, t, rfl, D, t0, tb, hq, hN⟩
      refine ⟨fun σ H' => ∃ b ys es, LwP p l (.ref a) (0 + (i : Int)) (1000 * (i : Int) + 200 + 70 * (k : Int) + 30) [some (.ref q), some (.int (0 + (k : Int))), some (.int (j : Int)), some (.ref b)] (fun H0 => (H0 q = some (.lst vs) ∧ Ni 20 4 20000 H0 vs ds) ∧ H0 b = some (.lst ys) ∧ Ni 220 6 40600 H0 ys es) σ H', ?_, ?_⟩
      · refine ⟨_, rfl, _, rfl, _, rfl, q, vs, rfl, SqL.of (D.s _ _ hq), fun e1 n1 => ?_⟩
        have D1 := D.put0 (o := .lst (cutV vs none (some ((j : Nat) : Int)))) n1
        have f1 : upd H' e1 (.lst (cutV vs none (some ((j : Nat) : Int)))) e1 = some (.lst (cutV vs none (some ((j : Nat) : Int)))) := upd_same
        have w1 := Own.start (o := .lst (cutV vs none (some ((j : Nat) : Int)))) (Go.refl D) n1
        revert D1 f1 w1
        generalize upd H' e1 (.lst (cutV vs none (some ((j : Nat) : Int)))) = A1
        intro D1 f1 w1
        have lv : vs.length = 9 := by rw [dq_len hN.1, hN.2.1]
        obtain ⟨dj, hdj, qdj⟩ := DqAll.at hN.1 (List.getElem?_eq_getElem (show j < vs.length by omega))
        have gdj := hN.2.2 dj (List.mem_of_getElem? hdj)
        refine ⟨_, rfl, _, rfl, _, rfl, q, vs, _, vs[j], rfl, rfl, SqL.of (D1.s _ _ hq), atI_nat (List.getElem?_eq_getElem (show j < vs.length by omega)), H0, p, l, t, vs[j], dj, _, _, _, rfl, D1, t0, by omega, qdj, gdj, by decide, by decide, fun B2 A2 t2 v2 d2 k2 q2 g2 => ?_⟩
        have t20 := k2.t0
        have t21 := k2.t1
        refine ⟨(by show 1 ≤ sizeLine; decide), fun e3 n3 => ?_⟩
        have w2 := w1.go k2
        have w3 := w2.put (o' := .lst [v2]) n3
        have k3 := k2.put0 (o := .lst [v2]) n3
        have f3 : upd A2 e3 (.lst [v2]) e3 = some (.lst [v2]) := upd_same
        revert w3 k3 f3
        generalize upd A2 e3 (.lst [v2]) = A3
        intro w3 k3 f3
        refine ⟨e1, e3, _, _, rfl, rfl, w3.h, f3, ?_, fun e4 n4 => ?_⟩
        · rw [cv_take, List.length_take, sizeLine_eq]
          show min j vs.length + 1 ≤ _
          omega
        have k4 := k3.put0 (o := .lst (cutV vs none (some ((j : Nat) : Int)) ++ [v2])) n4
        have f4 : upd A3 e4 (.lst (cutV vs none (some ((j : Nat) : Int)) ++ [v2])) e4 = some (.lst (cutV vs none (some ((j : Nat) : Int)) ++ [v2])) := upd_same
        revert k4 f4
        generalize upd A3 e4 (.lst (cutV vs none (some ((j : Nat) : Int)) ++ [v2])) = A4
        intro k4 f4
        have hq4 := k4.s _ _ hq
        refine ⟨_, rfl, _, rfl, _, _, rfl, rfl, _, rfl, q, vs, rfl, SqL.of (k4.d.s _ _ hq4), fun e5 n5 => ?_⟩
        have k5 := k4.put0 (o := .lst (cutV vs (some (((j : Nat) : Int) + 1)) none)) n5
        have f5 : upd A4 e5 (.lst (cutV vs (some (((j : Nat) : Int) + 1)) none)) e5 = some (.lst (cutV vs (some (((j : Nat) : Int) + 1)) none)) := upd_same
        have f45 : upd A4 e5 (.lst (cutV vs (some (((j : Nat) : Int) + 1)) none)) e4 = some (.lst (cutV vs none (some ((j : Nat) : Int)) ++ [v2])) := by
          rw [upd_ne (ne_of_none f4 n5)]
          exact f4
        revert k5 f5 f45
        generalize upd A4 e5 (.lst (cutV vs (some (((j : Nat) : Int) + 1)) none)) = A5
        intro k5 f5 f45
        have ed : cutV vs (some (((j : Nat) : Int) + 1)) none = vs.drop (j + 1) := cv_drop vs (j + 1)
        rw [cv_take] at f45
        rw [ed] at f5
        refine ⟨e4, e5, _, _, rfl, rfl, f45, f5, ?_, fun e6 n6 => ?_⟩
        · rw [List.length_append, List.length_take, List.length_drop, sizeLine_eq]
          show min j vs.length + 1 + _ ≤ _
          omega
        have k6 := k5.new (o := .lst (vs.take j ++ [v2] ++ vs.drop (j + 1))) n6
        have N6 := ((hN.same (k2.s.trans (same_new (o := .lst (vs.take j ++ [v2] ++ vs.drop (j + 1))) (k5.d.s.free n6)))).put hj (Dq.same (same_new (o := .lst (vs.take j ++ [v2] ++ vs.drop (j + 1))) (k5.d.s.free n6)) _ _ q2) g2 (by decide) (by decide) (by decide))
        have hq6 := k6.s _ _ hq
        exact ⟨e6, _, _, _, t2, rfl, k6.d, by omega, by omega, ⟨hq6, hN.same k6.s⟩, upd_same, N6⟩
      clear D t0 tb t H0 hN hq o6
      rintro σ7 H7 ⟨b, ys, es, H0, t, rfl, D, t0, tb, ⟨hq0, hN0⟩, hq, hN⟩
      refine ⟨fun σ H' => ∃ b ys es o5, LwP p l (.ref a) (0 + (i : Int)) (1000 * (i : Int) + 200 + 70 * (k : Int) + 60) [some (.ref q), some (.int (0 + (k : Int))), o5, some (.ref b)] (fun H0 => (H0 q = some (.lst vs) ∧ Ni 20 4 20000 H0 vs ds) ∧ H0 b = some (.lst ys) ∧ Ni 640 8 100000 H0 ys es) σ H', ?_, ?_⟩
      · refine ⟨_, rfl, rfl, _, rfl, ?_⟩
        by_cases e : (0 + (k : Int)) = 9
        · refine iteYes (by rw [e]; simp) ?_
          refine ⟨fun σ H' => ∃ j : Nat, j < 9 ∧ LwP p l (.ref a) (0 + (i : Int)) (1000 * (i : Int) + 200 + 70 * (k : Int) + 31) [some (.ref q), some (.int (0 + (k : Int))), some (.int (j : Int)), some (.ref b)] (fun H0 => (H0 q = some (.lst vs) ∧ Ni 20 4 20000 H0 vs ds) ∧ H0 b = some (.lst ys) ∧ Ni 220 6 40600 H0 ys es) σ H', ?_, ?_⟩
          · refine ⟨_, rfl, H0, p, l, t, 9, rfl, D, t0, by omega, by omega, by omega, fun H6 r g6 r0 r1 => ?_⟩
            obtain ⟨j, rfl⟩ := Int.eq_ofNat_of_zero_le r0
            exact ⟨j, by omega, H0, _, rfl, g6.d, by omega, by omega, ⟨hq0, hN0⟩, hq, hN⟩
          clear D t0 tb t H0 hN hq hq0 hN0
          rintro σ6 H' ⟨j, hj, H0, t, rfl, D, t0, tb, ⟨hq0, hN0⟩, hq, hN⟩
          refine ⟨_, rfl, _, rfl, _, rfl, b, ys, rfl, SqL.of (D.s _ _ hq), fun e1 n1 => ?_⟩
          have D1 := D.put0 (o := .lst (cutV ys none (some ((j : Nat) : Int)))) n1
          have f1 : upd H' e1 (.lst (cutV ys none (some ((j : Nat) : Int)))) e1 = some (.lst (cutV ys none (some ((j : Nat) : Int)))) := upd_same
          have w1 := Own.start (o := .lst (cutV ys none (some ((j : Nat) : Int)))) (Go.refl D) n1
          revert D1 f1 w1
          generalize upd H' e1 (.lst (cutV ys none (some ((j : Nat) : Int)))) = A1
          intro D1 f1 w1
          have lv : ys.length = 9 := by rw [dq_len hN.1, hN.2.1]
          obtain ⟨dj, hdj, qdj⟩ := DqAll.at hN.1 (List.getElem?_eq_getElem (show j < ys.length by omega))
          have gdj := hN.2.2 dj (List.mem_of_getElem? hdj)
          refine ⟨_, rfl, _, rfl, _, rfl, b, ys, _, ys[j], rfl, rfl, SqL.of (D1.s _ _ hq), atI_nat (List.getElem?_eq_getElem (show j < ys.length by omega)), H0, p, l, t, ys[j], dj, _, _, _, rfl, D1, t0, by omega, qdj, gdj, by decide, by decide, fun B2 A2 t2 v2 d2 k2 q2 g2 => ?_⟩
          have t20 := k2.t0
          have t21 := k2.t1
          refine ⟨(by show 1 ≤ sizeLine; decide), fun e3 n3 => ?_⟩
          have w2 := w1.go k2
          have w3 := w2.put (o' := .lst [v2]) n3
          have k3 := k2.put0 (o := .lst [v2]) n3
          have f3 : upd A2 e3 (.lst [v2]) e3 = some (.lst [v2]) := upd_same
          revert w3 k3 f3
          generalize upd A2 e3 (.lst [v2]) = A3
          intro w3 k3 f3
          refine ⟨e1, e3, _, _, rfl, rfl, w3.h, f3, ?_, fun e4 n4 => ?_⟩
          · rw [cv_take, List.length_take, sizeLine_eq]
            show min j ys.length + 1 ≤ _
            omega
          have k4 := k3.put0 (o := .lst (cutV ys none (some ((j : Nat) : Int)) ++ [v2])) n4
          have f4 : upd A3 e4 (.lst (cutV ys none (some ((j : Nat) : Int)) ++ [v2])) e4 = some (.lst (cutV ys none (some ((j : Nat) : Int)) ++ [v2])) := upd_same
          revert k4 f4
          generalize upd A3 e4 (.lst (cutV ys none (some ((j : Nat) : Int)) ++ [v2])) = A4
          intro k4 f4
          have hq4 := k4.s _ _ hq
          refine ⟨_, rfl, _, rfl, _, _, rfl, rfl, _, rfl, b, ys, rfl, SqL.of (k4.d.s _ _ hq4), fun e5 n5 => ?_⟩
          have k5 := k4.put0 (o := .lst (cutV ys (some (((j : Nat) : Int) + 1)) none)) n5
          have f5 : upd A4 e5 (.lst (cutV ys (some (((j : Nat) : Int) + 1)) none)) e5 = some (.lst (cutV ys (some (((j : Nat) : Int) + 1)) none)) := upd_same
          have f45 : upd A4 e5 (.lst (cutV ys (some (((j : Nat) : Int) + 1)) none)) e4 = some (.lst (cutV ys none (some ((j : Nat) : Int)) ++ [v2])) := by
            rw [upd_ne (ne_of_none f4 n5)]
            exact f4
          revert k5 f5 f45
          generalize upd A4 e5 (.lst (cutV ys (some (((j : Nat) : Int) + 1)) none)) = A5
          intro k5 f5 f45
          have ed : cutV ys (some (((j : Nat) : Int) + 1)) none = ys.drop (j + 1) := cv_drop ys (j + 1)
          rw [cv_take] at f45
          rw [ed] at f5
          refine ⟨e4, e5, _, _, rfl, rfl, f45, f5, ?_, fun e6 n6 => ?_⟩
          · rw [List.length_append, List.length_take, List.length_drop, sizeLine_eq]
            show min j ys.length + 1 + _ ≤ _
            omega
          have k6 := k5.new (o := .lst (ys.take j ++ [v2] ++ ys.drop (j + 1))) n6
          have N6 := ((hN.same (k2.s.trans (same_new (o := .lst (ys.take j ++ [v2] ++ ys.drop (j + 1))) (k5.d.s.free n6)))).put hj (Dq.same (same_new (o := .lst (ys.take j ++ [v2] ++ ys.drop (j + 1))) (k5.d.s.free n6)) _ _ q2) g2 (by decide) (by decide) (by decide))
          have hq6 := k6.s _ _ hq
          exact ⟨e6, _, _, _, _, t2, rfl, k6.d, by omega, by omega, ⟨k6.s _ _ hq0, hN0.same k6.s⟩, upd_same, N6.more (by decide) (by decide) (by decide)⟩
        · refine iteNo (by simpa using e) ?_
          exact ⟨b, ys, es, _, H0, t, rfl, D, t0, by omega, ⟨hq0, hN0⟩, hq, hN.more (by decide) (by decide) (by decide)⟩
      clear D t0 tb t H0 hN hq hq0 hN0 ys es b
      rintro σ8 H8 ⟨b, ys, es, o5, H0, t, rfl, D, t0, tb, ⟨hq0, hN0⟩, hq, hN⟩
      have ly : ys.length = 9 := by rw [dq_len hN.1, hN.2.1]
      obtain ⟨v0, v1, v2, v3, v4, v5, v6, v7, v8, rfl⟩ := nine_of ly
      obtain ⟨d0, d1, d2, d3, d4, d5, d6, d7, d8, rfl⟩ := nineD hN.2.1
      have N := nine_gd fun d hd => (hN.2.2 d hd).mono (by decide) (by decide) (by decide)
      refine ⟨_, rfl, _, rfl, _, rfl, H0, p, l, t, 2, rfl, D, t0, by omega, by omega, by omega, fun H9 r g9 r0 r1 => ⟨rfl, ?_⟩⟩
      have hN9 := hN.same g9.d.s
      cases hN9.1 with | cons q0 r => cases r with | cons q1 r => cases r with | cons q2 r => cases r with | cons q3 r => cases r with | cons q4 r => cases r with | cons q5 r => cases r with | cons q6 r => cases r with | cons q7 r => cases r with | cons q8 r =>
      refine ⟨_, b, _, v0, v1, v2, v3, v4, v5, v6, v7, v8, d0, d1, d2, d3, d4, d5, d6, d7, d8, rfl, g9.d.s _ _ hq, q0, q1, q2, q3, q4, q5, q6, q7, q8, N, fun H10 S10 => ⟨_, rfl, iteNo rfl ?_⟩⟩
      obtain ⟨ns', m', hp, hl, r'⟩ := g9.d.d
      exact ⟨_, _, _, H0, _, rfl, ⟨g9.d.s.trans S10, g9.d.p0, g9.d.l0, ns', m', S10 _ _ hp, S10 _ _ hl, r'⟩, by omega, by omega, hq0, hN0⟩
    · rintro σ5 H5 ⟨o4, o5, o6, H0, t, rfl, D, t0, tb, hq, hN⟩
      exact ⟨_, _, _, _, _, H0, t, rfl, D, t0, by omega⟩
end
end KL
set_option Elab.async false
set_option linter.all false
set_option maxRecDepth 100000
set_option maxHeartbeats 4000000
namespace KL
open PySem L2 PySem.KX PySem.W PyProof.Rows
def chkE (K : Frag) (B C : Addr) : Bool :=
  excInitIn K C excB "Exception.__new__" && (excOver K C excB && (hasDictIn K C && (keepIn K (.ref C) && ((findIn K (.ref C) "__setattr__" == some (some (.builtin "object.__setattr__"))) && ((findIn K (.ref C) "__getattribute__" == some (some (.builtin "BaseException.__getattribute__"))) &&
  ((findIn K (.ref C) "__getattr__" == some none) && ((findIn K (.ref C) "__class__" == some (some (.builtin "object.__class__"))) && ((clsIn K C).any (fun cd => cd.mro == [.ref C, .ref B, .type "Exception", .type "BaseException", .type "object"]) && (typeIn K (.ref C) == some (.type "type"))))))))))
structure ChkE (K : Frag) (B C : Addr) : Prop where
  c1 : excInitIn K C excB "Exception.__new__" = true
  c2 : excOver K C excB = true
  c3 : hasDictIn K C = true
  c4 : keepIn K (.ref C) = true
  c5 : findIn K (.ref C) "__setattr__" = some (some (.builtin "object.__setattr__"))
  c6 : findIn K (.ref C) "__getattribute__" = some (some (.builtin "BaseException.__getattribute__"))
  c7 : findIn K (.ref C) "__getattr__" = some none
  c8 : findIn K (.ref C) "__class__" = some (some (.builtin "object.__class__"))
  c9 : ∃ cd, clsIn K C = some cd ∧ cd.mro = [.ref C, .ref B, .type "Exception", .type "BaseException", .type "object"]
  c10 : typeIn K (.ref C) = some (.type "type")
theorem chk_of {K : Frag} {B C : Addr} (h : chkE K B C = true) : ChkE K B C := by
  unfold chkE at h
  simp only [Bool.and_eq_true, beq_iff_eq] at h
  obtain ⟨h1, h2, h3, h4, h5, h6, h7, h8, h9, h10⟩ := h
  obtain ⟨cd, e, m⟩ := any_some h9
  exact ⟨h1, h2, h3, h4, h5, h6, h7, h8, ⟨cd, e, beq_iff_eq.mp m⟩, h10⟩
section
variable {K : Frag} {B C D : Addr}
theorem ChkE.mro (T : ChkE K B C) (v : Value) : subIn K (.ref C) v = some ([Value.ref C, .ref B, .type "Exception", .type "BaseException", .type "object"].contains v) := by
  obtain ⟨cd, e, m⟩ := T.c9
  show mroIn K C v = _
  unfold mroIn
  rw [e, Option.bind_some, m]
  rfl
theorem ChkE.ec (T : ChkE K B C) (hn : specialIn K (.builtin "object.__class__") "__get__" = some (some (.builtin "getset_descriptor.__get__"))) (ht : takesIn K (.builtin "object.__class__") = some true) : EC K C :=
  ⟨T.c1, T.c5, T.c2, T.c3, T.c4, ⟨T.c6, T.c7, by rw [T.mro]; rfl, T.c3, T.c8, hn, ht, T.mro _⟩⟩
theorem ChkE.ref (T : ChkE K B C) (h1 : (clsIn K D).isSome = true) (h2 : typeIn K (.ref D) = some (.type "type")) (hd : D ≠ C) (hb : D ≠ B) : kitOne K (.ref C) (.ref D) = some false := by
  unfold kitOne
  rw [if_neg (by simp [hd.symm])]
  unfold kitCls
  dsimp only
  rw [h1, h2, if_pos (by simp), T.mro]
  simp [hd, hb]
theorem ChkE.base (T : ChkE K B C) (h1 : (clsIn K B).isSome = true) (h2 : typeIn K (.ref B) = some (.type "type")) : kitOne K (.ref C) (.ref B) = some true := by
  unfold kitOne
  split
  · rfl
  · unfold kitCls
    dsimp only
    rw [h1, h2, if_pos (by simp), T.mro]
    simp
theorem ChkE.self : kitOne K (.ref C) (.ref C) = some true := by
  unfold kitOne
  rw [if_pos (by simp)]
theorem ChkE.typ (T : ChkE K B C) {n : String} {b : Bool} (h : (kitMeta n && ([Value.type "Exception", .type "BaseException", .type "object"].contains (.type n) == b)) = true) : kitOne K (.ref C) (.type n) = some b := by
  simp only [Bool.and_eq_true, beq_iff_eq] at h
  unfold kitOne
  rw [if_neg (by simp)]
  unfold kitCls
  dsimp only
  have z1 : (Value.type n == Value.ref C) = false := beq_eq_false_iff_ne.mpr fun q => nomatch q
  have z2 : (Value.type n == Value.ref B) = false := beq_eq_false_iff_ne.mpr fun q => nomatch q
  rw [h.1, if_pos rfl, T.mro, List.contains_cons, List.contains_cons, h.2, z1, z2]
  rfl
theorem ChkE.exm (T : ChkE K B C) (hs : subIn K (.ref D) (.type "BaseException") = some true) (h : kitCls K (.ref C) (.ref D) = some true) : exmOne K (.ref C) (.ref D) = some true := by
  unfold exmOne
  rw [hs, if_pos (by simp)]
  exact h
theorem ChkE.isSome (T : ChkE K B C) : (clsIn K C).isSome = true := by
  obtain ⟨cd, e, _⟩ := T.c9
  rw [e]
  rfl
end
theorem nodup_at {l : List Addr} (h : l.Nodup) {i j : Nat} (hi : i < l.length) (hj : j < l.length) (e : l.getD i 0 = l.getD j 0) : i = j := by
  rw [List.getD_eq_getElem?_getD, List.getD_eq_getElem?_getD, List.getElem?_eq_getElem hi, List.getElem?_eq_getElem hj, Option.getD_some, Option.getD_some] at e
  have q := List.pairwise_iff_getElem.mp h
  rcases Nat.lt_trichotomy i j with z | z | z
  · exact absurd e (q i j hi hj z)
  · exact z
  · exact absurd e.symm (q j i hj hi z)
end KL
set_option Elab.async false
set_option linter.all false
set_option maxRecDepth 100000
set_option maxHeartbeats 8000000
namespace KL
open PySem L2 PySem.KX PySem.W PyProof.Rows
theorem all_mk {l : PySem.W.OpenLaw} {w : World} {K : Frag} {h : Heap} {mg : Str → Option Value} {fa B CB IB C fI : Addr} {gInt gBet gLet gTup gAsc gForm gPeople gPlaces gLogs gDeed gDeeds gStart gEnds gSource gForms gMarks gArrow gTest gLooks gChkA gChkT gDeck gDraw gPick gLForm gUnit gHouse gParts gWhole gLetter gRises gAreW gAreD gIsForm gIsArrow gIsTest gFirst gAreL gDue gOdd gBent gMade gRight gLaw : Addr} {tk0 tk1 tk2 tk3 tk4 : Tok} (X : K.In h) (G : h.Ns mainGlobals mg) (hfa : mg "law" = some (.ref fa))
    {odE anE : Option Addr} {docE pmE cdvE ctE : Value} {oslE : Array (Option Value)} {paE pbE qaE qbE qcE qdE : Pos}
    {odI anI : Option Addr} {ocI kVI docI pmI cdvI ctI : Value} {oslI : Array (Option Value)}
    {odInt anInt : Option Addr} {ocInt kVInt docInt pmInt cdvInt ctInt : Value} {oslInt : Array (Option Value)}
    {odBet anBet : Option Addr} {ocBet kVBet docBet pmBet cdvBet ctBet : Value} {oslBet : Array (Option Value)}
    {odLet anLet : Option Addr} {ocLet kVLet docLet pmLet cdvLet ctLet : Value} {oslLet : Array (Option Value)}
    {odTup anTup : Option Addr} {ocTup kVTup docTup pmTup cdvTup ctTup : Value} {oslTup : Array (Option Value)}
    {odAsc anAsc : Option Addr} {ocAsc kVAsc docAsc pmAsc cdvAsc ctAsc : Value} {oslAsc : Array (Option Value)}
    {odForm anForm : Option Addr} {ocForm kVForm docForm pmForm cdvForm ctForm : Value} {oslForm : Array (Option Value)}
    {odPeople anPeople : Option Addr} {ocPeople kVPeople docPeople pmPeople cdvPeople ctPeople : Value} {oslPeople : Array (Option Value)}
    {odPlaces anPlaces : Option Addr} {ocPlaces kVPlaces docPlaces pmPlaces cdvPlaces ctPlaces : Value} {oslPlaces : Array (Option Value)}
    {odLogs anLogs : Option Addr} {ocLogs kVLogs docLogs pmLogs cdvLogs ctLogs : Value} {oslLogs : Array (Option Value)}
    {odDeed anDeed : Option Addr} {ocDeed kVDeed docDeed pmDeed cdvDeed ctDeed : Value} {oslDeed : Array (Option Value)}
    {odDeeds anDeeds : Option Addr} {ocDeeds kVDeeds docDeeds pmDeeds cdvDeeds ctDeeds : Value} {oslDeeds : Array (Option Value)}
    {odStart anStart : Option Addr} {ocStart kVStart docStart pmStart cdvStart ctStart : Value} {oslStart : Array (Option Value)}
    {odEnds anEnds : Option Addr} {ocEnds kVEnds docEnds pmEnds cdvEnds ctEnds : Value} {oslEnds : Array (Option Value)}
    {odSource anSource : Option Addr} {ocSource kVSource docSource pmSource cdvSource ctSource : Value} {oslSource : Array (Option Value)}
    {odForms anForms : Option Addr} {ocForms kVForms docForms pmForms cdvForms ctForms : Value} {oslForms : Array (Option Value)}
    {odMarks anMarks : Option Addr} {ocMarks kVMarks docMarks pmMarks cdvMarks ctMarks : Value} {oslMarks : Array (Option Value)}
    {odArrow anArrow : Option Addr} {ocArrow kVArrow docArrow pmArrow cdvArrow ctArrow : Value} {oslArrow : Array (Option Value)}
    {odTest anTest : Option Addr} {ocTest kVTest docTest pmTest cdvTest ctTest : Value} {oslTest : Array (Option Value)}
    {odLooks anLooks : Option Addr} {ocLooks kVLooks docLooks pmLooks cdvLooks ctLooks : Value} {oslLooks : Array (Option Value)}
    {odChkA anChkA : Option Addr} {ocChkA kVChkA docChkA pmChkA cdvChkA ctChkA : Value} {oslChkA : Array (Option Value)}
    {odChkT anChkT : Option Addr} {ocChkT kVChkT docChkT pmChkT cdvChkT ctChkT : Value} {oslChkT : Array (Option Value)}
    {odDeck anDeck : Option Addr} {ocDeck kVDeck docDeck pmDeck cdvDeck ctDeck : Value} {oslDeck : Array (Option Value)}
    {odDraw anDraw : Option Addr} {ocDraw kVDraw docDraw pmDraw cdvDraw ctDraw : Value} {oslDraw : Array (Option Value)}
    {odPick anPick : Option Addr} {ocPick kVPick docPick pmPick cdvPick ctPick : Value} {oslPick : Array (Option Value)}
    {odLForm anLForm : Option Addr} {ocLForm kVLForm docLForm pmLForm cdvLForm ctLForm : Value} {oslLForm : Array (Option Value)}
    {odUnit anUnit : Option Addr} {ocUnit kVUnit docUnit pmUnit cdvUnit ctUnit : Value} {oslUnit : Array (Option Value)}
    {odHouse anHouse : Option Addr} {ocHouse kVHouse docHouse pmHouse cdvHouse ctHouse : Value} {oslHouse : Array (Option Value)}
    {odParts anParts : Option Addr} {ocParts kVParts docParts pmParts cdvParts ctParts : Value} {oslParts : Array (Option Value)}
    {odWhole anWhole : Option Addr} {ocWhole kVWhole docWhole pmWhole cdvWhole ctWhole : Value} {oslWhole : Array (Option Value)}
    {odLetter anLetter : Option Addr} {ocLetter kVLetter docLetter pmLetter cdvLetter ctLetter : Value} {oslLetter : Array (Option Value)}
    {odRises anRises : Option Addr} {ocRises kVRises docRises pmRises cdvRises ctRises : Value} {oslRises : Array (Option Value)}
    {odAreW anAreW : Option Addr} {ocAreW kVAreW docAreW pmAreW cdvAreW ctAreW : Value} {oslAreW : Array (Option Value)}
    {odAreD anAreD : Option Addr} {ocAreD kVAreD docAreD pmAreD cdvAreD ctAreD : Value} {oslAreD : Array (Option Value)}
    {odIsForm anIsForm : Option Addr} {ocIsForm kVIsForm docIsForm pmIsForm cdvIsForm ctIsForm : Value} {oslIsForm : Array (Option Value)}
    {odIsArrow anIsArrow : Option Addr} {ocIsArrow kVIsArrow docIsArrow pmIsArrow cdvIsArrow ctIsArrow : Value} {oslIsArrow : Array (Option Value)}
    {odIsTest anIsTest : Option Addr} {ocIsTest kVIsTest docIsTest pmIsTest cdvIsTest ctIsTest : Value} {oslIsTest : Array (Option Value)}
    {odFirst anFirst : Option Addr} {ocFirst kVFirst docFirst pmFirst cdvFirst ctFirst : Value} {oslFirst : Array (Option Value)}
    {odAreL anAreL : Option Addr} {ocAreL kVAreL docAreL pmAreL cdvAreL ctAreL : Value} {oslAreL : Array (Option Value)}
    {odDue anDue : Option Addr} {ocDue kVDue docDue pmDue cdvDue ctDue : Value} {oslDue : Array (Option Value)}
    {odOdd anOdd : Option Addr} {ocOdd kVOdd docOdd pmOdd cdvOdd ctOdd : Value} {oslOdd : Array (Option Value)}
    {odBent anBent : Option Addr} {ocBent kVBent docBent pmBent cdvBent ctBent : Value} {oslBent : Array (Option Value)}
    {odMade anMade : Option Addr} {ocMade kVMade docMade pmMade cdvMade ctMade : Value} {oslMade : Array (Option Value)}
    {odRight anRight : Option Addr} {ocRight kVRight docRight pmRight cdvRight ctRight : Value} {oslRight : Array (Option Value)}
    {odLaw anLaw : Option Addr} {ocLaw kVLaw docLaw pmLaw cdvLaw ctLaw : Value} {oslLaw : Array (Option Value)}
    (aB : nsIn K mainGlobals "HouseError" = some (some (.ref B)))
    (aE : nsIn K mainGlobals "BadHouse" = some (some (.ref CB)))
    (nE : findIn K (.ref CB) "part" = some none)
    (jE : findIn K (.ref CB) "__init__" = some (some (.ref IB)))
    (lE : K.lookup IB = some ⟨.type "function", odE, .func (fnOf "__init__" "BadHouse.__init__" (iA "part" paE pbE) (iB "part" qaE qbE qcE qdE) (iS "part") .none .none docE pmE anE cdvE ctE), oslE⟩)
    (dE : codeIn K cdvE "BadHouse.__init__" = true)
    (aC : nsIn K mainGlobals "House" = some (some (.ref C)))
    (jC : findIn K (.ref C) "__init__" = some (some (.ref fI)))
    (iC : isFn K (.ref fI) = true)
    (lk_I : K.lookup fI = some ⟨ocI, odI, .func (fnOf "__init__" "House.__init__" (defArgs sInit) (defBody sInit) (defScope sInit) .none kVI docI pmI anI cdvI ctI), oslI⟩)
    (cI : codeIn K cdvI "House.__init__" = true)
    (kI : keepIn K (.ref fI) = true)
    (pg : plainGet K C Str.empty = true)
    (hd : hasDictIn K C = true)
    (po : plainOver K C = true)
    (sa : findIn K (.ref C) "__setattr__" = some (some (.builtin "object.__setattr__")))
    (mk : makesIn K C = true)
    (kc : keepIn K (.ref C) = true)
    (hac : findIn K (.ref C) "__class__" = some (some (.builtin "object.__class__")))
    (hmc : mroIn K C (.type "object") = some true)
    (n_people : findIn K (.ref C) "people" = some none)
    (n_deeds : findIn K (.ref C) "deeds" = some none)
    (n_start : findIn K (.ref C) "start" = some none)
    (n_places : findIn K (.ref C) "places" = some none)
    (n_ends : findIn K (.ref C) "ends" = some none)
    (n_logs : findIn K (.ref C) "logs" = some none)
    (n_arrows : findIn K (.ref C) "arrows" = some none)
    (n_tests : findIn K (.ref C) "tests" = some none)
    (n_looks : findIn K (.ref C) "looks" = some none)
    (m0 : nsIn K mainGlobals "MOST_PEOPLE" = some (some (.int 3 tk0)))
    (m1 : nsIn K mainGlobals "MOST_DEEDS" = some (some (.int 5 tk1)))
    (m2 : nsIn K mainGlobals "MOST_COUNT" = some (some (.int 3 tk2)))
    (m3 : nsIn K mainGlobals "MOST_PLACES" = some (some (.int 3 tk3)))
    (m4 : nsIn K mainGlobals "MOST_LOGS" = some (some (.int 2 tk4)))
    (aInt : nsIn K mainGlobals "is_int" = some (some (.ref gInt)))
    (lk_Int : K.lookup gInt = some ⟨ocInt, odInt, .func (fnOf "is_int" "is_int" (defArgs sIsInt) (defBody sIsInt) (defScope sIsInt) .none kVInt docInt pmInt anInt cdvInt ctInt), oslInt⟩)
    (cInt : codeIn K cdvInt "is_int" = true)
    (kInt : keepIn K (.ref gInt) = true)
    (aBet : nsIn K mainGlobals "is_between" = some (some (.ref gBet)))
    (lk_Bet : K.lookup gBet = some ⟨ocBet, odBet, .func (fnOf "is_between" "is_between" (defArgs sIsBet) (defBody sIsBet) (defScope sIsBet) .none kVBet docBet pmBet anBet cdvBet ctBet), oslBet⟩)
    (cBet : codeIn K cdvBet "is_between" = true)
    (kBet : keepIn K (.ref gBet) = true)
    (aLet : nsIn K mainGlobals "is_letter" = some (some (.ref gLet)))
    (lk_Let : K.lookup gLet = some ⟨ocLet, odLet, .func (fnOf "is_letter" "is_letter" (defArgs sIsLet) (defBody sIsLet) (defScope sIsLet) .none kVLet docLet pmLet anLet cdvLet ctLet), oslLet⟩)
    (cLet : codeIn K cdvLet "is_letter" = true)
    (kLet : keepIn K (.ref gLet) = true)
    (aTup : nsIn K mainGlobals "is_tuple_of" = some (some (.ref gTup)))
    (lk_Tup : K.lookup gTup = some ⟨ocTup, odTup, .func (fnOf "is_tuple_of" "is_tuple_of" (defArgs sIsTup) (defBody sIsTup) (defScope sIsTup) .none kVTup docTup pmTup anTup cdvTup ctTup), oslTup⟩)
    (cTup : codeIn K cdvTup "is_tuple_of" = true)
    (kTup : keepIn K (.ref gTup) = true)
    (aAsc : nsIn K mainGlobals "is_ascending" = some (some (.ref gAsc)))
    (lk_Asc : K.lookup gAsc = some ⟨ocAsc, odAsc, .func (fnOf "is_ascending" "is_ascending" (defArgs sIsAsc) (defBody sIsAsc) (defScope sIsAsc) .none kVAsc docAsc pmAsc anAsc cdvAsc ctAsc), oslAsc⟩)
    (cAsc : codeIn K cdvAsc "is_ascending" = true)
    (kAsc : keepIn K (.ref gAsc) = true)
    (aForm : nsIn K mainGlobals "is_form" = some (some (.ref gForm)))
    (lk_Form : K.lookup gForm = some ⟨ocForm, odForm, .func (fnOf "is_form" "is_form" (defArgs sIsForm) (defBody sIsForm) (defScope sIsForm) .none kVForm docForm pmForm anForm cdvForm ctForm), oslForm⟩)
    (cForm : codeIn K cdvForm "is_form" = true)
    (kForm : keepIn K (.ref gForm) = true)
    (aPeople : nsIn K mainGlobals "is_people" = some (some (.ref gPeople)))
    (lk_People : K.lookup gPeople = some ⟨ocPeople, odPeople, .func (fnOf "is_people" "is_people" (defArgs sIsPeople) (defBody sIsPeople) (defScope sIsPeople) .none kVPeople docPeople pmPeople anPeople cdvPeople ctPeople), oslPeople⟩)
    (cPeople : codeIn K cdvPeople "is_people" = true)
    (kPeople : keepIn K (.ref gPeople) = true)
    (aPlaces : nsIn K mainGlobals "is_places" = some (some (.ref gPlaces)))
    (lk_Places : K.lookup gPlaces = some ⟨ocPlaces, odPlaces, .func (fnOf "is_places" "is_places" (defArgs sIsPlaces) (defBody sIsPlaces) (defScope sIsPlaces) .none kVPlaces docPlaces pmPlaces anPlaces cdvPlaces ctPlaces), oslPlaces⟩)
    (cPlaces : codeIn K cdvPlaces "is_places" = true)
    (kPlaces : keepIn K (.ref gPlaces) = true)
    (aLogs : nsIn K mainGlobals "is_logs" = some (some (.ref gLogs)))
    (lk_Logs : K.lookup gLogs = some ⟨ocLogs, odLogs, .func (fnOf "is_logs" "is_logs" (defArgs sIsLogs) (defBody sIsLogs) (defScope sIsLogs) .none kVLogs docLogs pmLogs anLogs cdvLogs ctLogs), oslLogs⟩)
    (cLogs : codeIn K cdvLogs "is_logs" = true)
    (kLogs : keepIn K (.ref gLogs) = true)
    (aDeed : nsIn K mainGlobals "is_deed" = some (some (.ref gDeed)))
    (lk_Deed : K.lookup gDeed = some ⟨ocDeed, odDeed, .func (fnOf "is_deed" "is_deed" (defArgs sIsDeed) (defBody sIsDeed) (defScope sIsDeed) .none kVDeed docDeed pmDeed anDeed cdvDeed ctDeed), oslDeed⟩)
    (cDeed : codeIn K cdvDeed "is_deed" = true)
    (kDeed : keepIn K (.ref gDeed) = true)
    (aDeeds : nsIn K mainGlobals "are_deeds" = some (some (.ref gDeeds)))
    (lk_Deeds : K.lookup gDeeds = some ⟨ocDeeds, odDeeds, .func (fnOf "are_deeds" "are_deeds" (defArgs sAreDeeds) (defBody sAreDeeds) (defScope sAreDeeds) .none kVDeeds docDeeds pmDeeds anDeeds cdvDeeds ctDeeds), oslDeeds⟩)
    (cDeeds : codeIn K cdvDeeds "are_deeds" = true)
    (kDeeds : keepIn K (.ref gDeeds) = true)
    (aStart : nsIn K mainGlobals "is_start" = some (some (.ref gStart)))
    (lk_Start : K.lookup gStart = some ⟨ocStart, odStart, .func (fnOf "is_start" "is_start" (defArgs sIsStart) (defBody sIsStart) (defScope sIsStart) .none kVStart docStart pmStart anStart cdvStart ctStart), oslStart⟩)
    (cStart : codeIn K cdvStart "is_start" = true)
    (kStart : keepIn K (.ref gStart) = true)
    (aEnds : nsIn K mainGlobals "are_ends" = some (some (.ref gEnds)))
    (lk_Ends : K.lookup gEnds = some ⟨ocEnds, odEnds, .func (fnOf "are_ends" "are_ends" (defArgs sAreEnds) (defBody sAreEnds) (defScope sAreEnds) .none kVEnds docEnds pmEnds anEnds cdvEnds ctEnds), oslEnds⟩)
    (cEnds : codeIn K cdvEnds "are_ends" = true)
    (kEnds : keepIn K (.ref gEnds) = true)
    (aSource : nsIn K mainGlobals "is_source_and_deed" = some (some (.ref gSource)))
    (lk_Source : K.lookup gSource = some ⟨ocSource, odSource, .func (fnOf "is_source_and_deed" "is_source_and_deed" (defArgs sIsSource) (defBody sIsSource) (defScope sIsSource) .none kVSource docSource pmSource anSource cdvSource ctSource), oslSource⟩)
    (cSource : codeIn K cdvSource "is_source_and_deed" = true)
    (kSource : keepIn K (.ref gSource) = true)
    (aForms : nsIn K mainGlobals "are_forms" = some (some (.ref gForms)))
    (lk_Forms : K.lookup gForms = some ⟨ocForms, odForms, .func (fnOf "are_forms" "are_forms" (defArgs sAreForms) (defBody sAreForms) (defScope sAreForms) .none kVForms docForms pmForms anForms cdvForms ctForms), oslForms⟩)
    (cForms : codeIn K cdvForms "are_forms" = true)
    (kForms : keepIn K (.ref gForms) = true)
    (aMarks : nsIn K mainGlobals "are_marks" = some (some (.ref gMarks)))
    (lk_Marks : K.lookup gMarks = some ⟨ocMarks, odMarks, .func (fnOf "are_marks" "are_marks" (defArgs sAreMarks) (defBody sAreMarks) (defScope sAreMarks) .none kVMarks docMarks pmMarks anMarks cdvMarks ctMarks), oslMarks⟩)
    (cMarks : codeIn K cdvMarks "are_marks" = true)
    (kMarks : keepIn K (.ref gMarks) = true)
    (aArrow : nsIn K mainGlobals "is_arrow" = some (some (.ref gArrow)))
    (lk_Arrow : K.lookup gArrow = some ⟨ocArrow, odArrow, .func (fnOf "is_arrow" "is_arrow" (defArgs sIsArrow) (defBody sIsArrow) (defScope sIsArrow) .none kVArrow docArrow pmArrow anArrow cdvArrow ctArrow), oslArrow⟩)
    (cArrow : codeIn K cdvArrow "is_arrow" = true)
    (kArrow : keepIn K (.ref gArrow) = true)
    (aTest : nsIn K mainGlobals "is_test" = some (some (.ref gTest)))
    (lk_Test : K.lookup gTest = some ⟨ocTest, odTest, .func (fnOf "is_test" "is_test" (defArgs sIsTest) (defBody sIsTest) (defScope sIsTest) .none kVTest docTest pmTest anTest cdvTest ctTest), oslTest⟩)
    (cTest : codeIn K cdvTest "is_test" = true)
    (kTest : keepIn K (.ref gTest) = true)
    (aLooks : nsIn K mainGlobals "are_looks" = some (some (.ref gLooks)))
    (lk_Looks : K.lookup gLooks = some ⟨ocLooks, odLooks, .func (fnOf "are_looks" "are_looks" (defArgs sAreLooks) (defBody sAreLooks) (defScope sAreLooks) .none kVLooks docLooks pmLooks anLooks cdvLooks ctLooks), oslLooks⟩)
    (cLooks : codeIn K cdvLooks "are_looks" = true)
    (kLooks : keepIn K (.ref gLooks) = true)
    (aChkA : nsIn K mainGlobals "check_arrows" = some (some (.ref gChkA)))
    (lk_ChkA : K.lookup gChkA = some ⟨ocChkA, odChkA, .func (fnOf "check_arrows" "check_arrows" (defArgs sChkArrows) (defBody sChkArrows) (defScope sChkArrows) .none kVChkA docChkA pmChkA anChkA cdvChkA ctChkA), oslChkA⟩)
    (cChkA : codeIn K cdvChkA "check_arrows" = true)
    (kChkA : keepIn K (.ref gChkA) = true)
    (aChkT : nsIn K mainGlobals "check_tests" = some (some (.ref gChkT)))
    (lk_ChkT : K.lookup gChkT = some ⟨ocChkT, odChkT, .func (fnOf "check_tests" "check_tests" (defArgs sChkTests) (defBody sChkTests) (defScope sChkTests) .none kVChkT docChkT pmChkT anChkT cdvChkT ctChkT), oslChkT⟩)
    (cChkT : codeIn K cdvChkT "check_tests" = true)
    (kChkT : keepIn K (.ref gChkT) = true)
    (aDeck : nsIn K mainGlobals "_law_deck" = some (some (.ref gDeck)))
    (lk_Deck : K.lookup gDeck = some ⟨ocDeck, odDeck, .func (fnOf "_law_deck" "_law_deck" (defArgs lDeck) (defBody lDeck) (defScope lDeck) .none kVDeck docDeck pmDeck anDeck cdvDeck ctDeck), oslDeck⟩)
    (cDeck : codeIn K cdvDeck "_law_deck" = true)
    (kDeck : keepIn K (.ref gDeck) = true)
    (aDraw : nsIn K mainGlobals "_law_draw" = some (some (.ref gDraw)))
    (lk_Draw : K.lookup gDraw = some ⟨ocDraw, odDraw, .func (fnOf "_law_draw" "_law_draw" (defArgs lDraw) (defBody lDraw) (defScope lDraw) .none kVDraw docDraw pmDraw anDraw cdvDraw ctDraw), oslDraw⟩)
    (cDraw : codeIn K cdvDraw "_law_draw" = true)
    (kDraw : keepIn K (.ref gDraw) = true)
    (aPick : nsIn K mainGlobals "_law_pick" = some (some (.ref gPick)))
    (lk_Pick : K.lookup gPick = some ⟨ocPick, odPick, .func (fnOf "_law_pick" "_law_pick" (defArgs lPick) (defBody lPick) (defScope lPick) .none kVPick docPick pmPick anPick cdvPick ctPick), oslPick⟩)
    (cPick : codeIn K cdvPick "_law_pick" = true)
    (kPick : keepIn K (.ref gPick) = true)
    (aLForm : nsIn K mainGlobals "_law_form" = some (some (.ref gLForm)))
    (lk_LForm : K.lookup gLForm = some ⟨ocLForm, odLForm, .func (fnOf "_law_form" "_law_form" (defArgs lForm) (defBody lForm) (defScope lForm) .none kVLForm docLForm pmLForm anLForm cdvLForm ctLForm), oslLForm⟩)
    (cLForm : codeIn K cdvLForm "_law_form" = true)
    (kLForm : keepIn K (.ref gLForm) = true)
    (aUnit : nsIn K mainGlobals "_law_unit" = some (some (.ref gUnit)))
    (lk_Unit : K.lookup gUnit = some ⟨ocUnit, odUnit, .func (fnOf "_law_unit" "_law_unit" (defArgs lUnit) (defBody lUnit) (defScope lUnit) .none kVUnit docUnit pmUnit anUnit cdvUnit ctUnit), oslUnit⟩)
    (cUnit : codeIn K cdvUnit "_law_unit" = true)
    (kUnit : keepIn K (.ref gUnit) = true)
    (aHouse : nsIn K mainGlobals "_law_house" = some (some (.ref gHouse)))
    (lk_House : K.lookup gHouse = some ⟨ocHouse, odHouse, .func (fnOf "_law_house" "_law_house" (defArgs lHouse) (defBody lHouse) (defScope lHouse) .none kVHouse docHouse pmHouse anHouse cdvHouse ctHouse), oslHouse⟩)
    (cHouse : codeIn K cdvHouse "_law_house" = true)
    (kHouse : keepIn K (.ref gHouse) = true)
    (aParts : nsIn K mainGlobals "_law_parts" = some (some (.ref gParts)))
    (lk_Parts : K.lookup gParts = some ⟨ocParts, odParts, .func (fnOf "_law_parts" "_law_parts" (defArgs lParts) (defBody lParts) (defScope lParts) .none kVParts docParts pmParts anParts cdvParts ctParts), oslParts⟩)
    (cParts : codeIn K cdvParts "_law_parts" = true)
    (kParts : keepIn K (.ref gParts) = true)
    (aWhole : nsIn K mainGlobals "_law_is_whole" = some (some (.ref gWhole)))
    (lk_Whole : K.lookup gWhole = some ⟨ocWhole, odWhole, .func (fnOf "_law_is_whole" "_law_is_whole" (defArgs lWhole) (defBody lWhole) (defScope lWhole) .none kVWhole docWhole pmWhole anWhole cdvWhole ctWhole), oslWhole⟩)
    (cWhole : codeIn K cdvWhole "_law_is_whole" = true)
    (kWhole : keepIn K (.ref gWhole) = true)
    (aLetter : nsIn K mainGlobals "_law_is_letter" = some (some (.ref gLetter)))
    (lk_Letter : K.lookup gLetter = some ⟨ocLetter, odLetter, .func (fnOf "_law_is_letter" "_law_is_letter" (defArgs lLetter) (defBody lLetter) (defScope lLetter) .none kVLetter docLetter pmLetter anLetter cdvLetter ctLetter), oslLetter⟩)
    (cLetter : codeIn K cdvLetter "_law_is_letter" = true)
    (kLetter : keepIn K (.ref gLetter) = true)
    (aRises : nsIn K mainGlobals "_law_rises" = some (some (.ref gRises)))
    (lk_Rises : K.lookup gRises = some ⟨ocRises, odRises, .func (fnOf "_law_rises" "_law_rises" (defArgs lRises) (defBody lRises) (defScope lRises) .none kVRises docRises pmRises anRises cdvRises ctRises), oslRises⟩)
    (cRises : codeIn K cdvRises "_law_rises" = true)
    (kRises : keepIn K (.ref gRises) = true)
    (aAreW : nsIn K mainGlobals "_law_are_whole" = some (some (.ref gAreW)))
    (lk_AreW : K.lookup gAreW = some ⟨ocAreW, odAreW, .func (fnOf "_law_are_whole" "_law_are_whole" (defArgs lAreWhole) (defBody lAreWhole) (defScope lAreWhole) .none kVAreW docAreW pmAreW anAreW cdvAreW ctAreW), oslAreW⟩)
    (cAreW : codeIn K cdvAreW "_law_are_whole" = true)
    (kAreW : keepIn K (.ref gAreW) = true)
    (aAreD : nsIn K mainGlobals "_law_are_deeds" = some (some (.ref gAreD)))
    (lk_AreD : K.lookup gAreD = some ⟨ocAreD, odAreD, .func (fnOf "_law_are_deeds" "_law_are_deeds" (defArgs lAreDeeds) (defBody lAreDeeds) (defScope lAreDeeds) .none kVAreD docAreD pmAreD anAreD cdvAreD ctAreD), oslAreD⟩)
    (cAreD : codeIn K cdvAreD "_law_are_deeds" = true)
    (kAreD : keepIn K (.ref gAreD) = true)
    (aIsForm : nsIn K mainGlobals "_law_is_form" = some (some (.ref gIsForm)))
    (lk_IsForm : K.lookup gIsForm = some ⟨ocIsForm, odIsForm, .func (fnOf "_law_is_form" "_law_is_form" (defArgs lIsForm) (defBody lIsForm) (defScope lIsForm) .none kVIsForm docIsForm pmIsForm anIsForm cdvIsForm ctIsForm), oslIsForm⟩)
    (cIsForm : codeIn K cdvIsForm "_law_is_form" = true)
    (kIsForm : keepIn K (.ref gIsForm) = true)
    (aIsArrow : nsIn K mainGlobals "_law_is_arrow" = some (some (.ref gIsArrow)))
    (lk_IsArrow : K.lookup gIsArrow = some ⟨ocIsArrow, odIsArrow, .func (fnOf "_law_is_arrow" "_law_is_arrow" (defArgs lIsArrow) (defBody lIsArrow) (defScope lIsArrow) .none kVIsArrow docIsArrow pmIsArrow anIsArrow cdvIsArrow ctIsArrow), oslIsArrow⟩)
    (cIsArrow : codeIn K cdvIsArrow "_law_is_arrow" = true)
    (kIsArrow : keepIn K (.ref gIsArrow) = true)
    (aIsTest : nsIn K mainGlobals "_law_is_test" = some (some (.ref gIsTest)))
    (lk_IsTest : K.lookup gIsTest = some ⟨ocIsTest, odIsTest, .func (fnOf "_law_is_test" "_law_is_test" (defArgs lIsTest) (defBody lIsTest) (defScope lIsTest) .none kVIsTest docIsTest pmIsTest anIsTest cdvIsTest ctIsTest), oslIsTest⟩)
    (cIsTest : codeIn K cdvIsTest "_law_is_test" = true)
    (kIsTest : keepIn K (.ref gIsTest) = true)
    (aFirst : nsIn K mainGlobals "_law_first_odd" = some (some (.ref gFirst)))
    (lk_First : K.lookup gFirst = some ⟨ocFirst, odFirst, .func (fnOf "_law_first_odd" "_law_first_odd" (defArgs lFirst) (defBody lFirst) (defScope lFirst) .none kVFirst docFirst pmFirst anFirst cdvFirst ctFirst), oslFirst⟩)
    (cFirst : codeIn K cdvFirst "_law_first_odd" = true)
    (kFirst : keepIn K (.ref gFirst) = true)
    (aAreL : nsIn K mainGlobals "_law_are_looks" = some (some (.ref gAreL)))
    (lk_AreL : K.lookup gAreL = some ⟨ocAreL, odAreL, .func (fnOf "_law_are_looks" "_law_are_looks" (defArgs lLooks) (defBody lLooks) (defScope lLooks) .none kVAreL docAreL pmAreL anAreL cdvAreL ctAreL), oslAreL⟩)
    (cAreL : codeIn K cdvAreL "_law_are_looks" = true)
    (kAreL : keepIn K (.ref gAreL) = true)
    (aDue : nsIn K mainGlobals "_law_due" = some (some (.ref gDue)))
    (lk_Due : K.lookup gDue = some ⟨ocDue, odDue, .func (fnOf "_law_due" "_law_due" (defArgs lDue) (defBody lDue) (defScope lDue) .none kVDue docDue pmDue anDue cdvDue ctDue), oslDue⟩)
    (cDue : codeIn K cdvDue "_law_due" = true)
    (kDue : keepIn K (.ref gDue) = true)
    (aOdd : nsIn K mainGlobals "_law_odd" = some (some (.ref gOdd)))
    (lk_Odd : K.lookup gOdd = some ⟨ocOdd, odOdd, .func (fnOf "_law_odd" "_law_odd" (defArgs lOdd) (defBody lOdd) (defScope lOdd) .none kVOdd docOdd pmOdd anOdd cdvOdd ctOdd), oslOdd⟩)
    (cOdd : codeIn K cdvOdd "_law_odd" = true)
    (kOdd : keepIn K (.ref gOdd) = true)
    (aBent : nsIn K mainGlobals "_law_bent" = some (some (.ref gBent)))
    (lk_Bent : K.lookup gBent = some ⟨ocBent, odBent, .func (fnOf "_law_bent" "_law_bent" (defArgs lBent) (defBody lBent) (defScope lBent) .none kVBent docBent pmBent anBent cdvBent ctBent), oslBent⟩)
    (cBent : codeIn K cdvBent "_law_bent" = true)
    (kBent : keepIn K (.ref gBent) = true)
    (aMade : nsIn K mainGlobals "_law_made" = some (some (.ref gMade)))
    (lk_Made : K.lookup gMade = some ⟨ocMade, odMade, .func (fnOf "_law_made" "_law_made" (defArgs lMade) (defBody lMade) (defScope lMade) .none kVMade docMade pmMade anMade cdvMade ctMade), oslMade⟩)
    (cMade : codeIn K cdvMade "_law_made" = true)
    (kMade : keepIn K (.ref gMade) = true)
    (aRight : nsIn K mainGlobals "_law_right" = some (some (.ref gRight)))
    (lk_Right : K.lookup gRight = some ⟨ocRight, odRight, .func (fnOf "_law_right" "_law_right" (defArgs lRight) (defBody lRight) (defScope lRight) .none kVRight docRight pmRight anRight cdvRight ctRight), oslRight⟩)
    (cRight : codeIn K cdvRight "_law_right" = true)
    (kRight : keepIn K (.ref gRight) = true)
    (aLaw : nsIn K mainGlobals "law" = some (some (.ref gLaw)))
    (lk_Law : K.lookup gLaw = some ⟨ocLaw, odLaw, .func (fnOf "law" "law" (defArgs lLaw) (defBody lLaw) (defScope lLaw) .none kVLaw docLaw pmLaw anLaw cdvLaw ctLaw), oslLaw⟩)
    (cLaw : codeIn K cdvLaw "law" = true)
    (kLaw : keepIn K (.ref gLaw) = true)
    (zisinstance : nsIn K mainGlobals "isinstance" = some none)
    (zint : nsIn K mainGlobals "int" = some none)
    (zbool : nsIn K mainGlobals "bool" = some none)
    (zstr : nsIn K mainGlobals "str" = some none)
    (ztuple : nsIn K mainGlobals "tuple" = some none)
    (zlen : nsIn K mainGlobals "len" = some none)
    (zall : nsIn K mainGlobals "all" = some none)
    (zzip : nsIn K mainGlobals "zip" = some none)
    (zrange : nsIn K mainGlobals "range" = some none)
    (zlist : nsIn K mainGlobals "list" = some none)
    (zrepr : nsIn K mainGlobals "repr" = some none)
    (sp : specialIn K (.builtin "object.__class__") "__get__" = some (some (.builtin "getset_descriptor.__get__")))
    (tk : takesIn K (.builtin "object.__class__") = some true)
    (tB : typeIn K (.ref B) = some (.type "type"))
    (iB : isClsIn K B = true)
    (sB : subIn K (.ref B) (.type "BaseException") = some true)
    (chk : chkE K B CB = true)
    : ∃ fd : FuncData, (∀ (s : Shared) (u : Value), BindsTo s fd ⟨[u], []⟩ [("_law_script", u)]) ∧ ∀ base : Heap, K.In base → base.Ns mainGlobals mg → FnG l.prog w K mg base CX0 11 fa fd ["_law_script"] (spLaw K) := by
  have e := hfa.symm.trans (mg_of X G aLaw)
  cases e
  have ck := chk_of chk
  have ec : EC K CB := ck.ec sp tk
  have T : TxtL mg := ⟨⟨mg_none_of X G zisinstance, mg_none_of X G zint, mg_none_of X G zbool, mg_none_of X G zstr, mg_none_of X G ztuple, mg_none_of X G zlen, mg_none_of X G zall, mg_none_of X G zzip⟩, mg_none_of X G zrange, mg_none_of X G zlist, mg_none_of X G zrepr⟩
  have TD : TxtD mg := ⟨T.list, T.b.int, T.b.len⟩
  have TG : TxtG mg := ⟨TD, T.range, T.b.tuple⟩
  have M : TxtM mg := ⟨⟨_, mg_of X G m0⟩, ⟨_, mg_of X G m1⟩, ⟨_, mg_of X G m2⟩, ⟨_, mg_of X G m3⟩, ⟨_, mg_of X G m4⟩⟩
  have cls : Cls K C := ⟨pg, hd, po, sa⟩
  have TH : TxtH K C := ⟨cls, n_people, n_deeds, n_start, n_places, n_ends, n_logs, n_arrows, n_tests, n_looks⟩
  have TE : TxtE K mg CB IB := ⟨{ c := ec, fls := by unfold IsFl; simp, nf := nE, iC := jE, fn := ⟨_, _, _, _, _, _, _, _, _, _, _, _, _, lE, dE⟩ }, ck.c10, mg_of X G aE⟩
  have mC := mg_of X G aC
  have IC : C8.InsC K C := ⟨cls, hac, sp, tk, hmc, by unfold kitOne; rw [if_pos (by simp)]⟩
  have FI := fun_mk (st := sInit) lk_I cI kI
  have bI := FI.binds (ps := pInit) fun _ _ _ _ _ _ us hl => match us, hl with | [_, _, _, _, _, _, _, _, _, _], _ => rfl
  have FInt := fun_mk (st := sIsInt) lk_Int cInt kInt
  have bInt := FInt.binds (ps := ["thing"]) fun _ _ _ _ _ _ us hl => match us, hl with | [_], _ => rfl
  have FBet := fun_mk (st := sIsBet) lk_Bet cBet kBet
  have bBet := FBet.binds (ps := ["thing", "low", "high"]) fun _ _ _ _ _ _ us hl => match us, hl with | [_, _, _], _ => rfl
  have FLet := fun_mk (st := sIsLet) lk_Let cLet kLet
  have bLet := FLet.binds (ps := ["thing"]) fun _ _ _ _ _ _ us hl => match us, hl with | [_], _ => rfl
  have FTup := fun_mk (st := sIsTup) lk_Tup cTup kTup
  have bTup := FTup.binds (ps := ["thing", "low", "high"]) fun _ _ _ _ _ _ us hl => match us, hl with | [_, _, _], _ => rfl
  have FAsc := fun_mk (st := sIsAsc) lk_Asc cAsc kAsc
  have bAsc := FAsc.binds (ps := ["items"]) fun _ _ _ _ _ _ us hl => match us, hl with | [_], _ => rfl
  have FForm := fun_mk (st := sIsForm) lk_Form cForm kForm
  have bForm := FForm.binds (ps := ["count", "thing"]) fun _ _ _ _ _ _ us hl => match us, hl with | [_, _], _ => rfl
  have FPeople := fun_mk (st := sIsPeople) lk_People cPeople kPeople
  have bPeople := FPeople.binds (ps := ["thing"]) fun _ _ _ _ _ _ us hl => match us, hl with | [_], _ => rfl
  have FPlaces := fun_mk (st := sIsPlaces) lk_Places cPlaces kPlaces
  have bPlaces := FPlaces.binds (ps := ["thing"]) fun _ _ _ _ _ _ us hl => match us, hl with | [_], _ => rfl
  have FLogs := fun_mk (st := sIsLogs) lk_Logs cLogs kLogs
  have bLogs := FLogs.binds (ps := ["thing"]) fun _ _ _ _ _ _ us hl => match us, hl with | [_], _ => rfl
  have FDeed := fun_mk (st := sIsDeed) lk_Deed cDeed kDeed
  have bDeed := FDeed.binds (ps := ["thing", "people"]) fun _ _ _ _ _ _ us hl => match us, hl with | [_, _], _ => rfl
  have FDeeds := fun_mk (st := sAreDeeds) lk_Deeds cDeeds kDeeds
  have bDeeds := FDeeds.binds (ps := ["thing", "people"]) fun _ _ _ _ _ _ us hl => match us, hl with | [_, _], _ => rfl
  have FStart := fun_mk (st := sIsStart) lk_Start cStart kStart
  have bStart := FStart.binds (ps := ["thing"]) fun _ _ _ _ _ _ us hl => match us, hl with | [_], _ => rfl
  have FEnds := fun_mk (st := sAreEnds) lk_Ends cEnds kEnds
  have bEnds := FEnds.binds (ps := ["thing", "places"]) fun _ _ _ _ _ _ us hl => match us, hl with | [_, _], _ => rfl
  have FSource := fun_mk (st := sIsSource) lk_Source cSource kSource
  have bSource := FSource.binds (ps := ["house", "source", "deed"]) fun _ _ _ _ _ _ us hl => match us, hl with | [_, _, _], _ => rfl
  have FForms := fun_mk (st := sAreForms) lk_Forms cForms kForms
  have bForms := FForms.binds (ps := ["house", "thing"]) fun _ _ _ _ _ _ us hl => match us, hl with | [_, _], _ => rfl
  have FMarks := fun_mk (st := sAreMarks) lk_Marks cMarks kMarks
  have bMarks := FMarks.binds (ps := ["house", "thing"]) fun _ _ _ _ _ _ us hl => match us, hl with | [_, _], _ => rfl
  have FArrow := fun_mk (st := sIsArrow) lk_Arrow cArrow kArrow
  have bArrow := FArrow.binds (ps := ["house", "thing"]) fun _ _ _ _ _ _ us hl => match us, hl with | [_, _], _ => rfl
  have FTest := fun_mk (st := sIsTest) lk_Test cTest kTest
  have bTest := FTest.binds (ps := ["house", "thing"]) fun _ _ _ _ _ _ us hl => match us, hl with | [_, _], _ => rfl
  have FLooks := fun_mk (st := sAreLooks) lk_Looks cLooks kLooks
  have bLooks := FLooks.binds (ps := ["house", "thing"]) fun _ _ _ _ _ _ us hl => match us, hl with | [_, _], _ => rfl
  have FChkA := fun_mk (st := sChkArrows) lk_ChkA cChkA kChkA
  have bChkA := FChkA.binds (ps := ["house", "arrows"]) fun _ _ _ _ _ _ us hl => match us, hl with | [_, _], _ => rfl
  have FChkT := fun_mk (st := sChkTests) lk_ChkT cChkT kChkT
  have bChkT := FChkT.binds (ps := ["house", "tests"]) fun _ _ _ _ _ _ us hl => match us, hl with | [_, _], _ => rfl
  have FDeck := fun_mk (st := lDeck) lk_Deck cDeck kDeck
  have bDeck := FDeck.binds (ps := ["_law_script"]) fun _ _ _ _ _ _ us hl => match us, hl with | [_], _ => rfl
  have FDraw := fun_mk (st := lDraw) lk_Draw cDraw kDraw
  have bDraw := FDraw.binds (ps := ["_law_deck_here", "_law_below"]) fun _ _ _ _ _ _ us hl => match us, hl with | [_, _], _ => rfl
  have FPick := fun_mk (st := lPick) lk_Pick cPick kPick
  have bPick := FPick.binds (ps := ["_law_deck_here", "_law_some"]) fun _ _ _ _ _ _ us hl => match us, hl with | [_, _], _ => rfl
  have FLForm := fun_mk (st := lForm) lk_LForm cLForm kLForm
  have bLForm := FLForm.binds (ps := ["_law_deck_here", "_law_size", "_law_top"]) fun _ _ _ _ _ _ us hl => match us, hl with | [_, _, _], _ => rfl
  have FUnit := fun_mk (st := lUnit) lk_Unit cUnit kUnit
  have bUnit := FUnit.binds (ps := ["_law_size", "_law_k", "_law_base", "_law_factor"]) fun _ _ _ _ _ _ us hl => match us, hl with | [_, _, _, _], _ => rfl
  have FHouse := fun_mk (st := lHouse) lk_House cHouse kHouse
  have bHouse := FHouse.binds (ps := ["_law_deck_here", "_law_places"]) fun _ _ _ _ _ _ us hl => match us, hl with | [_, _], _ => rfl
  have FParts := fun_mk (st := lParts) lk_Parts cParts kParts
  have bParts := FParts.binds (ps := ["_law_w"]) fun _ _ _ _ _ _ us hl => match us, hl with | [_], _ => rfl
  have FWhole := fun_mk (st := lWhole) lk_Whole cWhole kWhole
  have bWhole := FWhole.binds (ps := ["_law_it", "_law_low", "_law_high"]) fun _ _ _ _ _ _ us hl => match us, hl with | [_, _, _], _ => rfl
  have FLetter := fun_mk (st := lLetter) lk_Letter cLetter kLetter
  have bLetter := FLetter.binds (ps := ["_law_it"]) fun _ _ _ _ _ _ us hl => match us, hl with | [_], _ => rfl
  have FRises := fun_mk (st := lRises) lk_Rises cRises kRises
  have bRises := FRises.binds (ps := ["_law_some"]) fun _ _ _ _ _ _ us hl => match us, hl with | [_], _ => rfl
  have FAreW := fun_mk (st := lAreWhole) lk_AreW cAreW kAreW
  have bAreW := FAreW.binds (ps := ["_law_it", "_law_low", "_law_high"]) fun _ _ _ _ _ _ us hl => match us, hl with | [_, _, _], _ => rfl
  have FAreD := fun_mk (st := lAreDeeds) lk_AreD cAreD kAreD
  have bAreD := FAreD.binds (ps := ["_law_it", "_law_people"]) fun _ _ _ _ _ _ us hl => match us, hl with | [_, _], _ => rfl
  have FIsForm := fun_mk (st := lIsForm) lk_IsForm cIsForm kIsForm
  have bIsForm := FIsForm.binds (ps := ["_law_it", "_law_size"]) fun _ _ _ _ _ _ us hl => match us, hl with | [_, _], _ => rfl
  have FIsArrow := fun_mk (st := lIsArrow) lk_IsArrow cIsArrow kIsArrow
  have bIsArrow := FIsArrow.binds (ps := ["_law_it", "_law_kit"]) fun _ _ _ _ _ _ us hl => match us, hl with | [_, _], _ => rfl
  have FIsTest := fun_mk (st := lIsTest) lk_IsTest cIsTest kIsTest
  have bIsTest := FIsTest.binds (ps := ["_law_it", "_law_kit", "_law_ways"]) fun _ _ _ _ _ _ us hl => match us, hl with | [_, _, _], _ => rfl
  have FFirst := fun_mk (st := lFirst) lk_First cFirst kFirst
  have bFirst := FFirst.binds (ps := ["_law_it", "_law_word", "_law_good"]) fun _ _ _ _ _ _ us hl => match us, hl with | [_, _, _], _ => rfl
  have FAreL := fun_mk (st := lLooks) lk_AreL cAreL kAreL
  have bAreL := FAreL.binds (ps := ["_law_it", "_law_people", "_law_places", "_law_size"]) fun _ _ _ _ _ _ us hl => match us, hl with | [_, _, _, _], _ => rfl
  have FDue := fun_mk (st := lDue) lk_Due cDue kDue
  have bDue := FDue.binds (ps := ["_law_parts_here"]) fun _ _ _ _ _ _ us hl => match us, hl with | [_], _ => rfl
  have FOdd := fun_mk (st := lOdd) lk_Odd cOdd kOdd
  have bOdd := FOdd.binds (ps := ["_law_deck_here", "_law_it"]) fun _ _ _ _ _ _ us hl => match us, hl with | [_, _], _ => rfl
  have FBent := fun_mk (st := lBent) lk_Bent cBent kBent
  have bBent := FBent.binds (ps := ["_law_deck_here", "_law_it"]) fun _ _ _ _ _ _ us hl => match us, hl with | [_, _], _ => rfl
  have FMade := fun_mk (st := lMade) lk_Made cMade kMade
  have bMade := FMade.binds (ps := ["_law_parts_here", "_law_is_named"]) fun _ _ _ _ _ _ us hl => match us, hl with | [_, _], _ => rfl
  have FRight := fun_mk (st := lRight) lk_Right cRight kRight
  have bRight := FRight.binds (ps := ["_law_deck_here", "_law_parts_here", "_law_is_named"]) fun _ _ _ _ _ _ us hl => match us, hl with | [_, _, _], _ => rfl
  have FLaw := fun_mk (st := lLaw) lk_Law cLaw kLaw
  have bLaw := FLaw.binds (ps := ["_law_script"]) fun _ _ _ _ _ _ us hl => match us, hl with | [_], _ => rfl
  have kb : ∀ (s2 : Shared) (a : Addr) (ws : List Value), K.In s2.heap → ws.length = kInit.length → BindsTo s2 (fnOf "__init__" "House.__init__" (defArgs sInit) (defBody sInit) (defScope sInit) .none kVI docI pmI anI cdvI ctI) ⟨[.ref a], kInit.zip ws⟩ (pInit.zip (.ref a :: ws.reverse)) := fun s2 a ws _ hl => match ws, hl with
    | [_, _, _, _, _, _, _, _, _], _ => .of_eq (fd := fnOf "__init__" "House.__init__" (defArgs sInit) (defBody sInit) (defScope sInit) .none kVI docI pmI anI cdvI ctI) rfl
  have TC : TxtC K mg CB IB B C fI (fnOf "__init__" "House.__init__" (defArgs sInit) (defBody sInit) (defScope sInit) .none kVI docI pmI anI cdvI ctI) := {
    e := TE
    ex := ck.exm (by rw [ck.mro]; rfl) (by
      unfold kitCls
      dsimp only
      rw [ck.isSome, ck.c10, if_pos (by simp), ck.mro]
      simp)
    kt := ck.base iB tB
    mB := mg_of X G aB
    mkd := ⟨mk, jC, iC, kc⟩
    mC := mC
    b := bI
    kb := kb }
  refine ⟨_, fun s u => .of_eq (fd := fnOf "law" "law" (defArgs lLaw) (defBody lLaw) (defScope lLaw) .none kVLaw docLaw pmLaw anLaw cdvLaw ctLaw) rfl, fun base _ _ => ?_⟩
  have CInt : Cal K mg "is_int" gInt _ ["thing"] := ⟨mg_of X G aInt, kInt, bInt⟩
  have CBet : Cal K mg "is_between" gBet _ ["thing", "low", "high"] := ⟨mg_of X G aBet, kBet, bBet⟩
  have CLet : Cal K mg "is_letter" gLet _ ["thing"] := ⟨mg_of X G aLet, kLet, bLet⟩
  have CTup : Cal K mg "is_tuple_of" gTup _ ["thing", "low", "high"] := ⟨mg_of X G aTup, kTup, bTup⟩
  have CAsc : Cal K mg "is_ascending" gAsc _ ["items"] := ⟨mg_of X G aAsc, kAsc, bAsc⟩
  have CForm : Cal K mg "is_form" gForm _ ["count", "thing"] := ⟨mg_of X G aForm, kForm, bForm⟩
  have CPeople : Cal K mg "is_people" gPeople _ ["thing"] := ⟨mg_of X G aPeople, kPeople, bPeople⟩
  have CPlaces : Cal K mg "is_places" gPlaces _ ["thing"] := ⟨mg_of X G aPlaces, kPlaces, bPlaces⟩
  have CLogs : Cal K mg "is_logs" gLogs _ ["thing"] := ⟨mg_of X G aLogs, kLogs, bLogs⟩
  have CDeed : Cal K mg "is_deed" gDeed _ ["thing", "people"] := ⟨mg_of X G aDeed, kDeed, bDeed⟩
  have CDeeds : Cal K mg "are_deeds" gDeeds _ ["thing", "people"] := ⟨mg_of X G aDeeds, kDeeds, bDeeds⟩
  have CStart : Cal K mg "is_start" gStart _ ["thing"] := ⟨mg_of X G aStart, kStart, bStart⟩
  have CEnds : Cal K mg "are_ends" gEnds _ ["thing", "places"] := ⟨mg_of X G aEnds, kEnds, bEnds⟩
  have CSource : Cal K mg "is_source_and_deed" gSource _ ["house", "source", "deed"] := ⟨mg_of X G aSource, kSource, bSource⟩
  have CForms : Cal K mg "are_forms" gForms _ ["house", "thing"] := ⟨mg_of X G aForms, kForms, bForms⟩
  have CMarks : Cal K mg "are_marks" gMarks _ ["house", "thing"] := ⟨mg_of X G aMarks, kMarks, bMarks⟩
  have CArrow : Cal K mg "is_arrow" gArrow _ ["house", "thing"] := ⟨mg_of X G aArrow, kArrow, bArrow⟩
  have CTest : Cal K mg "is_test" gTest _ ["house", "thing"] := ⟨mg_of X G aTest, kTest, bTest⟩
  have CLooks : Cal K mg "are_looks" gLooks _ ["house", "thing"] := ⟨mg_of X G aLooks, kLooks, bLooks⟩
  have CChkA : Cal K mg "check_arrows" gChkA _ ["house", "arrows"] := ⟨mg_of X G aChkA, kChkA, bChkA⟩
  have CChkT : Cal K mg "check_tests" gChkT _ ["house", "tests"] := ⟨mg_of X G aChkT, kChkT, bChkT⟩
  have CDeck : Cal K mg "_law_deck" gDeck _ ["_law_script"] := ⟨mg_of X G aDeck, kDeck, bDeck⟩
  have CDraw : Cal K mg "_law_draw" gDraw _ ["_law_deck_here", "_law_below"] := ⟨mg_of X G aDraw, kDraw, bDraw⟩
  have CPick : Cal K mg "_law_pick" gPick _ ["_law_deck_here", "_law_some"] := ⟨mg_of X G aPick, kPick, bPick⟩
  have CLForm : Cal K mg "_law_form" gLForm _ ["_law_deck_here", "_law_size", "_law_top"] := ⟨mg_of X G aLForm, kLForm, bLForm⟩
  have CUnit : Cal K mg "_law_unit" gUnit _ ["_law_size", "_law_k", "_law_base", "_law_factor"] := ⟨mg_of X G aUnit, kUnit, bUnit⟩
  have CHouse : Cal K mg "_law_house" gHouse _ ["_law_deck_here", "_law_places"] := ⟨mg_of X G aHouse, kHouse, bHouse⟩
  have CParts : Cal K mg "_law_parts" gParts _ ["_law_w"] := ⟨mg_of X G aParts, kParts, bParts⟩
  have CWhole : Cal K mg "_law_is_whole" gWhole _ ["_law_it", "_law_low", "_law_high"] := ⟨mg_of X G aWhole, kWhole, bWhole⟩
  have CLetter : Cal K mg "_law_is_letter" gLetter _ ["_law_it"] := ⟨mg_of X G aLetter, kLetter, bLetter⟩
  have CRises : Cal K mg "_law_rises" gRises _ ["_law_some"] := ⟨mg_of X G aRises, kRises, bRises⟩
  have CAreW : Cal K mg "_law_are_whole" gAreW _ ["_law_it", "_law_low", "_law_high"] := ⟨mg_of X G aAreW, kAreW, bAreW⟩
  have CAreD : Cal K mg "_law_are_deeds" gAreD _ ["_law_it", "_law_people"] := ⟨mg_of X G aAreD, kAreD, bAreD⟩
  have CIsForm : Cal K mg "_law_is_form" gIsForm _ ["_law_it", "_law_size"] := ⟨mg_of X G aIsForm, kIsForm, bIsForm⟩
  have CIsArrow : Cal K mg "_law_is_arrow" gIsArrow _ ["_law_it", "_law_kit"] := ⟨mg_of X G aIsArrow, kIsArrow, bIsArrow⟩
  have CIsTest : Cal K mg "_law_is_test" gIsTest _ ["_law_it", "_law_kit", "_law_ways"] := ⟨mg_of X G aIsTest, kIsTest, bIsTest⟩
  have CFirst : Cal K mg "_law_first_odd" gFirst _ ["_law_it", "_law_word", "_law_good"] := ⟨mg_of X G aFirst, kFirst, bFirst⟩
  have CAreL : Cal K mg "_law_are_looks" gAreL _ ["_law_it", "_law_people", "_law_places", "_law_size"] := ⟨mg_of X G aAreL, kAreL, bAreL⟩
  have CDue : Cal K mg "_law_due" gDue _ ["_law_parts_here"] := ⟨mg_of X G aDue, kDue, bDue⟩
  have COdd : Cal K mg "_law_odd" gOdd _ ["_law_deck_here", "_law_it"] := ⟨mg_of X G aOdd, kOdd, bOdd⟩
  have CBent : Cal K mg "_law_bent" gBent _ ["_law_deck_here", "_law_it"] := ⟨mg_of X G aBent, kBent, bBent⟩
  have CMade : Cal K mg "_law_made" gMade _ ["_law_parts_here", "_law_is_named"] := ⟨mg_of X G aMade, kMade, bMade⟩
  have CRight : Cal K mg "_law_right" gRight _ ["_law_deck_here", "_law_parts_here", "_law_is_named"] := ⟨mg_of X G aRight, kRight, bRight⟩
  have GInt := ok_int (P := l.prog) (w := w) (mg := mg) (base := base) FInt T.b
  have GBet := ok_bet (P := l.prog) (w := w) (mg := mg) (base := base) FBet T.b GInt CInt
  have GLet := ok_let (P := l.prog) (w := w) (mg := mg) (base := base) FLet T.b
  have GTup := ok_tup (P := l.prog) (w := w) (mg := mg) (base := base) FTup T.b
  have GAsc := ok_asc (P := l.prog) (w := w) (mg := mg) (base := base) FAsc T.b
  have GForm := ok_form (P := l.prog) (w := w) (mg := mg) (base := base) FForm T.b GInt CInt GTup CTup
  have GPeople := ok_people (P := l.prog) (w := w) (mg := mg) (base := base) FPeople M GBet CBet
  have GPlaces := ok_places (P := l.prog) (w := w) (mg := mg) (base := base) FPlaces M GBet CBet
  have GLogs := ok_logs (P := l.prog) (w := w) (mg := mg) (base := base) FLogs M GBet CBet
  have GDeed := ok_deed (P := l.prog) (w := w) (mg := mg) (base := base) FDeed GTup CTup GLet CLet GBet CBet
  have GDeeds := ok_deeds (P := l.prog) (w := w) (mg := mg) (base := base) FDeeds T.b M GTup CTup GDeed CDeed GAsc CAsc
  have GStart := ok_start (P := l.prog) (w := w) (mg := mg) (base := base) FStart T.b M GInt CInt GTup CTup
  have GEnds := ok_ends (P := l.prog) (w := w) (mg := mg) (base := base) FEnds T.b GBet CBet GAsc CAsc
  have GSource := ok_source (P := l.prog) (w := w) (mg := mg) (base := base) FSource TH GBet CBet
  have GForms := ok_forms (P := l.prog) (w := w) (mg := mg) (base := base) FForms T.b TH GForm CForm
  have GMarks := ok_marks (P := l.prog) (w := w) (mg := mg) (base := base) FMarks T.b TH GTup CTup GLet CLet
  have GArrow := ok_arrow (P := l.prog) (w := w) (mg := mg) (base := base) FArrow T.b TH GTup CTup GSource CSource GBet CBet GForms CForms GMarks CMarks
  have GTest := ok_test (P := l.prog) (w := w) (mg := mg) (base := base) FTest T.b TH GTup CTup GSource CSource GForm CForm GInt CInt
  have GLooks := ok_looks (P := l.prog) (w := w) (mg := mg) (base := base) FLooks T.b TH GTup CTup GForms CForms
  have GChkA := ok_chkA (P := l.prog) (w := w) (mg := mg) (base := base) FChkA T.b TE GArrow CArrow GAsc CAsc
  have GChkT := ok_chkT (P := l.prog) (w := w) (mg := mg) (base := base) FChkT T.b TH TE GTest CTest GAsc CAsc
  have GDeck := ok_deck (P := l.prog) (w := w) (mg := mg) (base := base) FDeck TD
  have GDraw := ok_draw (P := l.prog) (w := w) (mg := mg) (base := base) FDraw TD
  have GPick := ok_pick (P := l.prog) (w := w) (mg := mg) (base := base) FPick TD GDraw CDraw
  have GLForm := ok_formG (P := l.prog) (w := w) (mg := mg) (base := base) FLForm TG GDraw CDraw
  have GUnit := ok_unit (P := l.prog) (w := w) (mg := mg) (base := base) FUnit TG
  have GHouse := ok_house (P := l.prog) (w := w) (mg := mg) (base := base) FHouse TG GDraw CDraw GPick CPick GLForm CLForm GUnit CUnit
  have GParts := ok_parts (P := l.prog) (w := w) (mg := mg) (base := base) FParts
  have GWhole := ok_whole (P := l.prog) (w := w) (mg := mg) (base := base) FWhole T.b
  have GLetter := ok_letter (P := l.prog) (w := w) (mg := mg) (base := base) FLetter T.b
  have GRises := ok_rises (P := l.prog) (w := w) (mg := mg) (base := base) FRises T
  have GAreW := ok_are (P := l.prog) (w := w) (mg := mg) (base := base) FAreW T GWhole CWhole
  have GAreD := ok_ldeeds (P := l.prog) (w := w) (mg := mg) (base := base) FAreD T GLetter CLetter GWhole CWhole GRises CRises
  have GIsForm := ok_lform (P := l.prog) (w := w) (mg := mg) (base := base) FIsForm T GAreW CAreW
  have GIsArrow := ok_larrow (P := l.prog) (w := w) (mg := mg) (base := base) FIsArrow T GLetter CLetter GWhole CWhole GIsForm CIsForm
  have GIsTest := ok_ltest (P := l.prog) (w := w) (mg := mg) (base := base) FIsTest T GLetter CLetter GWhole CWhole GIsForm CIsForm
  have GFirst := ok_first (P := l.prog) (w := w) (mg := mg) (base := base) FFirst T
  have GAreL := ok_llooks (P := l.prog) (w := w) (mg := mg) (base := base) FAreL T GIsForm CIsForm
  have GDue := ok_due (P := l.prog) (w := w) (mg := mg) (base := base) FDue T GWhole CWhole GAreD CAreD GAreW CAreW GRises CRises GIsArrow CIsArrow GFirst CFirst GIsTest CIsTest GAreL CAreL
  have GOdd := ok_odd (P := l.prog) (w := w) (mg := mg) (base := base) FOdd T GPick CPick
  have G0 : FnOk l.prog w K mg base CX0 3 gBent (fnOf "_law_bent" "_law_bent" (defArgs lBent) (defBody lBent) (defScope lBent) .none kVBent docBent pmBent anBent cdvBent ctBent) ["_law_deck_here", "_law_it"] (spBent 0) := ⟨fun vs H Q E h => by obtain ⟨_, _, _, _, _, _, _, pp, _, _, _, _, _, _, _, _, hpp, _⟩ := h; exact absurd hpp (Nat.not_lt_zero _), fun A outer s H args us vs Q E _ _ _ _ h => by obtain ⟨_, _, _, _, _, _, _, pp, _, _, _, _, _, _, _, _, hpp, _⟩ := h; exact absurd hpp (Nat.not_lt_zero _)⟩
  have G1 := ok_bent1 FBent T TD CBent GDraw CDraw GOdd COdd (by decide) G0
  have G2 := ok_bent1 FBent T TD CBent GDraw CDraw GOdd COdd (by decide) G1
  have G3 := ok_bent1 FBent T TD CBent GDraw CDraw GOdd COdd (by decide) G2
  have G4 := ok_bent1 FBent T TD CBent GDraw CDraw GOdd COdd (by decide) G3
  have G5 := ok_bent1 FBent T TD CBent GDraw CDraw GOdd COdd (by decide) G4
  have G6 := ok_bent1 FBent T TD CBent GDraw CDraw GOdd COdd (by decide) G5
  have G7 := ok_bent1 FBent T TD CBent GDraw CDraw GOdd COdd (by decide) G6
  have GInit := ok_init (P := l.prog) (w := w) (base := base) FI TH TE GPeople CPeople GDeeds CDeeds GStart CStart GPlaces CPlaces GEnds CEnds GLogs CLogs GChkA CChkA GChkT CChkT GLooks CLooks
  have GMade := ok_made (P := l.prog) (w := w) (mg := mg) (base := base) FMade T TC GInit
  have GRight := ok_right (P := l.prog) (w := w) (mg := mg) (base := base) FRight T TH IC mC GDue CDue GMade CMade
  exact ok_law FLaw T GDeck CDeck GDraw CDraw GHouse CHouse GParts CParts G7 CBent GRight CRight
theorem walk {l : PySem.W.OpenLaw} {q : Program} {loose : List Str} {XP : (Str → Option Value) → Heap → Prop} {YP : World → Heap → Prop} {d : DefRec} {K : Params → Frag} (hn : l.most = some 63) (hdf : d.params.defaults = []) (hY : ∀ (w : World) (h : Heap), YP w h → (K w.params).In h)
    (F : ∀ (w : World) (mg : Str → Option Value) (fa : Addr) (h : Heap), (K w.params).In h → h.Ns mainGlobals mg → mg d.name = some (.ref fa) →
      ∃ fd : FuncData, (∀ (s : Shared) (u : Value), BindsTo s fd ⟨[u], []⟩ [("_law_script", u)]) ∧ ∀ base : Heap, (K w.params).In base → base.Ns mainGlobals mg → FnG l.prog w (K w.params) mg base CX0 11 fa fd ["_law_script"] (spLaw (K w.params))) : WalkO q loose XP YP l.row.toRowW d [] (fun f vs => PySem.call f vs) :=
  walkG (n := 63) (k := 11) (x := "_law_script") (CX := fun _ => CX0) (sp := fun w => spLaw (K w.params)) hn (by decide) hdf ⟨rfl, by decide, by decide⟩ hY F (fun _ _ a ns hl _ hS => ⟨a, ns, rfl, hS, hl, fun _ => rfl⟩) fun _ _ _ _ _ z => z
end KL
set_option Elab.async false
open PySem PySem.W PyProof.Rows in
set_option maxRecDepth 100000 in
set_option maxHeartbeats 0 in
theorem PySem.Challenge.cw_loghouse_k02_houses_of_any_value_holds : PySem.Challenge.rw_loghouse_k02_houses_of_any_value.Holds := by
  w_on; o_law; k_head; (case hw => w_witness2)
  k_fill
  refine KL.walk (l := PySem.Challenge.rw_loghouse_k02_houses_of_any_value) rfl rfl (fun w h Y => PySem.W.kIn_of Y) ?F
  case F =>
    intro w mg fa h KX G hmg
    refine' KL.all_mk KX G hmg ?aB ?aE ?nE ?jE ?lE ?dE ?aC ?jC ?iC ?lk_I ?cI ?kI ?pg ?hd ?po ?sa ?mk ?kc ?hac ?hmc ?n_people ?n_deeds ?n_start ?n_places ?n_ends ?n_logs ?n_arrows ?n_tests ?n_looks ?m0 ?m1 ?m2 ?m3 ?m4 ?aInt ?lk_Int ?cInt ?kInt ?aBet ?lk_Bet ?cBet ?kBet ?aLet ?lk_Let ?cLet ?kLet ?aTup ?lk_Tup ?cTup ?kTup ?aAsc ?lk_Asc ?cAsc ?kAsc ?aForm ?lk_Form ?cForm ?kForm ?aPeople ?lk_People ?cPeople ?kPeople ?aPlaces ?lk_Places ?cPlaces ?kPlaces ?aLogs ?lk_Logs ?cLogs ?kLogs ?aDeed ?lk_Deed ?cDeed ?kDeed ?aDeeds ?lk_Deeds ?cDeeds ?kDeeds ?aStart ?lk_Start ?cStart ?kStart ?aEnds ?lk_Ends ?cEnds ?kEnds ?aSource ?lk_Source ?cSource ?kSource ?aForms ?lk_Forms ?cForms ?kForms ?aMarks ?lk_Marks ?cMarks ?kMarks ?aArrow ?lk_Arrow ?cArrow ?kArrow ?aTest ?lk_Test ?cTest ?kTest ?aLooks ?lk_Looks ?cLooks ?kLooks ?aChkA ?lk_ChkA ?cChkA ?kChkA ?aChkT ?lk_ChkT ?cChkT ?kChkT ?aDeck ?lk_Deck ?cDeck ?kDeck ?aDraw ?lk_Draw ?cDraw ?kDraw ?aPick ?lk_Pick ?cPick ?kPick ?aLForm ?lk_LForm ?cLForm ?kLForm ?aUnit ?lk_Unit ?cUnit ?kUnit ?aHouse ?lk_House ?cHouse ?kHouse ?aParts ?lk_Parts ?cParts ?kParts ?aWhole ?lk_Whole ?cWhole ?kWhole ?aLetter ?lk_Letter ?cLetter ?kLetter ?aRises ?lk_Rises ?cRises ?kRises ?aAreW ?lk_AreW ?cAreW ?kAreW ?aAreD ?lk_AreD ?cAreD ?kAreD ?aIsForm ?lk_IsForm ?cIsForm ?kIsForm ?aIsArrow ?lk_IsArrow ?cIsArrow ?kIsArrow ?aIsTest ?lk_IsTest ?cIsTest ?kIsTest ?aFirst ?lk_First ?cFirst ?kFirst ?aAreL ?lk_AreL ?cAreL ?kAreL ?aDue ?lk_Due ?cDue ?kDue ?aOdd ?lk_Odd ?cOdd ?kOdd ?aBent ?lk_Bent ?cBent ?kBent ?aMade ?lk_Made ?cMade ?kMade ?aRight ?lk_Right ?cRight ?kRight ?aLaw ?lk_Law ?cLaw ?kLaw ?zisinstance ?zint ?zbool ?zstr ?ztuple ?zlen ?zall ?zzip ?zrange ?zlist ?zrepr ?sp ?tk ?tB ?iB ?sB ?chk
    (case aB => k_is)
    (case aE => k_is)
    (case nE => k_is)
    (case jE => k_is)
    (case lE => k_is)
    (case dE => k_is)
    (case aC => k_is)
    (case jC => k_is)
    (case iC => k_is)
    (case lk_I => k_is)
    (case cI => k_is)
    (case kI => k_is)
    (case pg => k_is)
    (case hd => k_is)
    (case po => k_is)
    (case sa => k_is)
    (case mk => k_is)
    (case kc => k_is)
    (case hac => k_is)
    (case hmc => k_is)
    (case n_people => k_is)
    (case n_deeds => k_is)
    (case n_start => k_is)
    (case n_places => k_is)
    (case n_ends => k_is)
    (case n_logs => k_is)
    (case n_arrows => k_is)
    (case n_tests => k_is)
    (case n_looks => k_is)
    (case m0 => k_is)
    (case m1 => k_is)
    (case m2 => k_is)
    (case m3 => k_is)
    (case m4 => k_is)
    (case aInt => k_is)
    (case lk_Int => k_is)
    (case cInt => k_is)
    (case kInt => k_is)
    (case aBet => k_is)
    (case lk_Bet => k_is)
    (case cBet => k_is)
    (case kBet => k_is)
    (case aLet => k_is)
    (case lk_Let => k_is)
    (case cLet => k_is)
    (case kLet => k_is)
    (case aTup => k_is)
    (case lk_Tup => k_is)
    (case cTup => k_is)
    (case kTup => k_is)
    (case aAsc => k_is)
    (case lk_Asc => k_is)
    (case cAsc => k_is)
    (case kAsc => k_is)
    (case aForm => k_is)
    (case lk_Form => k_is)
    (case cForm => k_is)
    (case kForm => k_is)
    (case aPeople => k_is)
    (case lk_People => k_is)
    (case cPeople => k_is)
    (case kPeople => k_is)
    (case aPlaces => k_is)
    (case lk_Places => k_is)
    (case cPlaces => k_is)
    (case kPlaces => k_is)
    (case aLogs => k_is)
    (case lk_Logs => k_is)
    (case cLogs => k_is)
    (case kLogs => k_is)
    (case aDeed => k_is)
    (case lk_Deed => k_is)
    (case cDeed => k_is)
    (case kDeed => k_is)
    (case aDeeds => k_is)
    (case lk_Deeds => k_is)
    (case cDeeds => k_is)
    (case kDeeds => k_is)
    (case aStart => k_is)
    (case lk_Start => k_is)
    (case cStart => k_is)
    (case kStart => k_is)
    (case aEnds => k_is)
    (case lk_Ends => k_is)
    (case cEnds => k_is)
    (case kEnds => k_is)
    (case aSource => k_is)
    (case lk_Source => k_is)
    (case cSource => k_is)
    (case kSource => k_is)
    (case aForms => k_is)
    (case lk_Forms => k_is)
    (case cForms => k_is)
    (case kForms => k_is)
    (case aMarks => k_is)
    (case lk_Marks => k_is)
    (case cMarks => k_is)
    (case kMarks => k_is)
    (case aArrow => k_is)
    (case lk_Arrow => k_is)
    (case cArrow => k_is)
    (case kArrow => k_is)
    (case aTest => k_is)
    (case lk_Test => k_is)
    (case cTest => k_is)
    (case kTest => k_is)
    (case aLooks => k_is)
    (case lk_Looks => k_is)
    (case cLooks => k_is)
    (case kLooks => k_is)
    (case aChkA => k_is)
    (case lk_ChkA => k_is)
    (case cChkA => k_is)
    (case kChkA => k_is)
    (case aChkT => k_is)
    (case lk_ChkT => k_is)
    (case cChkT => k_is)
    (case kChkT => k_is)
    (case aDeck => k_is)
    (case lk_Deck => k_is)
    (case cDeck => k_is)
    (case kDeck => k_is)
    (case aDraw => k_is)
    (case lk_Draw => k_is)
    (case cDraw => k_is)
    (case kDraw => k_is)
    (case aPick => k_is)
    (case lk_Pick => k_is)
    (case cPick => k_is)
    (case kPick => k_is)
    (case aLForm => k_is)
    (case lk_LForm => k_is)
    (case cLForm => k_is)
    (case kLForm => k_is)
    (case aUnit => k_is)
    (case lk_Unit => k_is)
    (case cUnit => k_is)
    (case kUnit => k_is)
    (case aHouse => k_is)
    (case lk_House => k_is)
    (case cHouse => k_is)
    (case kHouse => k_is)
    (case aParts => k_is)
    (case lk_Parts => k_is)
    (case cParts => k_is)
    (case kParts => k_is)
    (case aWhole => k_is)
    (case lk_Whole => k_is)
    (case cWhole => k_is)
    (case kWhole => k_is)
    (case aLetter => k_is)
    (case lk_Letter => k_is)
    (case cLetter => k_is)
    (case kLetter => k_is)
    (case aRises => k_is)
    (case lk_Rises => k_is)
    (case cRises => k_is)
    (case kRises => k_is)
    (case aAreW => k_is)
    (case lk_AreW => k_is)
    (case cAreW => k_is)
    (case kAreW => k_is)
    (case aAreD => k_is)
    (case lk_AreD => k_is)
    (case cAreD => k_is)
    (case kAreD => k_is)
    (case aIsForm => k_is)
    (case lk_IsForm => k_is)
    (case cIsForm => k_is)
    (case kIsForm => k_is)
    (case aIsArrow => k_is)
    (case lk_IsArrow => k_is)
    (case cIsArrow => k_is)
    (case kIsArrow => k_is)
    (case aIsTest => k_is)
    (case lk_IsTest => k_is)
    (case cIsTest => k_is)
    (case kIsTest => k_is)
    (case aFirst => k_is)
    (case lk_First => k_is)
    (case cFirst => k_is)
    (case kFirst => k_is)
    (case aAreL => k_is)
    (case lk_AreL => k_is)
    (case cAreL => k_is)
    (case kAreL => k_is)
    (case aDue => k_is)
    (case lk_Due => k_is)
    (case cDue => k_is)
    (case kDue => k_is)
    (case aOdd => k_is)
    (case lk_Odd => k_is)
    (case cOdd => k_is)
    (case kOdd => k_is)
    (case aBent => k_is)
    (case lk_Bent => k_is)
    (case cBent => k_is)
    (case kBent => k_is)
    (case aMade => k_is)
    (case lk_Made => k_is)
    (case cMade => k_is)
    (case kMade => k_is)
    (case aRight => k_is)
    (case lk_Right => k_is)
    (case cRight => k_is)
    (case kRight => k_is)
    (case aLaw => k_is)
    (case lk_Law => k_is)
    (case cLaw => k_is)
    (case kLaw => k_is)
    (case zisinstance => k_is)
    (case zint => k_is)
    (case zbool => k_is)
    (case zstr => k_is)
    (case ztuple => k_is)
    (case zlen => k_is)
    (case zall => k_is)
    (case zzip => k_is)
    (case zrange => k_is)
    (case zlist => k_is)
    (case zrepr => k_is)
    (case sp => k_is)
    (case tk => k_is)
    (case tB => k_is)
    (case iB => k_is)
    (case sB => k_is)
    (case chk => kernel_rfl)
